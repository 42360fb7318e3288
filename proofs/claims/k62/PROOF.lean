import PyProof.Rows.All
import Wide.All
import OpenK.AllK
import Wide.FinOn
import Lean
import PyProof.EqAt
import PyProof.EqKinds
import PyProof.TupleCall
import PyProof.AttrMissSeq
import KE.KDictList
import PyProof.WalksEnum
import PyProof.EnumMake
import PySem.Challenge.RW_hushrow_k62_twelve_tries
-- CHANGE: your row's module here, as the last of these rows
set_option Elab.async false
set_option linter.all false
set_option maxRecDepth 100000
/-! THE HAND LAYER, for ints, bools, texts, own classes, LISTS and tuples (index, slices, in, append, pop ..), calls, loops. Paste it whole ahead of your own text; what your proof does not reach may be deleted. -/
namespace L2
open PySem PySem.Spec PyProof.Rows

/-- a key: an int or a str -/
abbrev Key := Sum Int Str
def keyIs : Key → Value → Bool
  | .inl k, v => Value.isInt k v
  | .inr x, v => Value.isStrOf x v
def keyH (w : World) : Key → Int
  | .inl k => hashInt k
  | .inr x => hashStr w x
theorem keyIs_shape : ∀ {k : Key} {v : Value}, keyIs k v = true → (∃ i t, k = Sum.inl i ∧ v = Value.int i t) ∨ (∃ x t, k = Sum.inr x ∧ v = Value.str x t)
  | .inl i, v, h => by
    obtain ⟨t, e⟩ := Value.isInt_shape (k := i) (v := v) h
    exact .inl ⟨i, t, rfl, e⟩
  | .inr x, v, h => by
    obtain ⟨t, e⟩ := Value.isStrOf_shape (x := x) (v := v) h
    exact .inr ⟨x, t, rfl, e⟩
theorem keyIs_int (i : Int) (t : Tok) : keyIs (.inl i) (.int i t) = true := by simp [keyIs, Value.isInt]
theorem keyIs_str (x : Str) (t : Tok) : keyIs (.inr x) (.str x t) = true := by simp [keyIs, Value.isStrOf]
theorem key_ll (a b : Int) : decide ((Sum.inl a : Key) = Sum.inl b) = (a == b) := by
  by_cases e : a = b
  · subst e; simp
  · have h : ¬ (Sum.inl a : Key) = Sum.inl b := fun q => e (Sum.inl.inj q)
    rw [decide_eq_false h]
    exact (beq_eq_false_iff_ne.mpr e).symm
theorem key_rr (a b : Str) : decide ((Sum.inr a : Key) = Sum.inr b) = decide (a = b) := by
  by_cases e : a = b
  · subst e; simp
  · have h : ¬ (Sum.inr a : Key) = Sum.inr b := fun q => e (Sum.inr.inj q)
    rw [decide_eq_false h, decide_eq_false e]
theorem key_lr (a : Int) (b : Str) : decide ((Sum.inl a : Key) = Sum.inr b) = false := decide_eq_false (fun q => nomatch q)
theorem key_rl (a : Str) (b : Int) : decide ((Sum.inr a : Key) = Sum.inl b) = false := decide_eq_false (fun q => nomatch q)

def mixKind (prog : Program) (w : World) : PySem.KeyKind prog w Key where
  is := keyIs
  hash := keyH w
  inj := fun v a b ha hb => by
    rcases keyIs_shape ha with ⟨i, t, rfl, rfl⟩ | ⟨x, t, rfl, rfl⟩
    · rcases keyIs_shape hb with ⟨j, u, rfl, e⟩ | ⟨y, u, rfl, e⟩
      · injection e with e1 _; rw [e1]
      · exact nomatch e
    · rcases keyIs_shape hb with ⟨j, u, rfl, e⟩ | ⟨y, u, rfl, e⟩
      · exact nomatch e
      · injection e with e1 _; rw [e1]
  byValue := fun k v h => by
    rcases keyIs_shape h with ⟨i, t, rfl, rfl⟩ | ⟨x, t, rfl, rfl⟩ <;> rfl
  pyHash := fun hv h => by
    rcases keyIs_shape hv with ⟨i, t, rfl, rfl⟩ | ⟨x, t, rfl, rfl⟩
    · exact wpAny_pyHash_int h
    · exact wpAny_pyHash_str h
  eqBool := fun hu hv h => by
    rcases keyIs_shape hu with ⟨i, t, rfl, rfl⟩ | ⟨x, t, rfl, rfl⟩
    · rcases keyIs_shape hv with ⟨j, u, rfl, rfl⟩ | ⟨y, u, rfl, rfl⟩
      · rw [key_ll] at h; exact wpAny_eqBool_int h
      · rw [key_lr] at h; exact SeqAt.EqAt.int_str i t y u _ _ _ _ h
    · rcases keyIs_shape hv with ⟨j, u, rfl, rfl⟩ | ⟨y, u, rfl, rfl⟩
      · rw [key_rl] at h; exact SeqAt.EqAt.str_int x t j u _ _ _ _ h
      · rw [key_rr] at h; exact wpAny_eqBool_str h
  «strs» := fun k x t v h => by
    rcases keyIs_shape h with ⟨i, u, rfl, e⟩ | ⟨y, u, rfl, e⟩
    · exact nomatch e
    · injection e with e1 _
      subst e1
      cases v <;> rfl

theorem mixKind_is (prog : Program) (w : World) (k : Key) (v : Value) : (mixKind prog w).is k v = keyIs k v := rfl
theorem mixKind_int (prog : Program) (w : World) (i : Int) (t : Tok) : (mixKind prog w).is (.inl i) (.int i t) = true := keyIs_int i t
theorem mixKind_str (prog : Program) (w : World) (x : Str) (t : Tok) : (mixKind prog w).is (.inr x) (.str x t) = true := keyIs_str x t
end L2

namespace L2
open PySem PySem.Spec PyProof.Rows

/-- a value, without the heap -/
inductive V where
  | non | bl (b : Bool) | int (i : Int) | str (x : Str) | byt (b : Array UInt8) | flt (b : UInt64) | ref (a : Addr) | ty (n : String)
  deriving DecidableEq

def RelV : V → Value → Prop
  | .non, u => u = Value.none
  | .bl b, u => u = Value.bool b
  | .int i, u => ∃ t, u = Value.int i t
  | .str x, u => ∃ t, u = Value.str x t
  | .byt b, u => ∃ t, u = Value.bytes b t
  | .flt b, u => ∃ t, u = Value.float b t
  | .ref a, u => u = Value.ref a
  | .ty n, u => u = Value.type n

abbrev Vals : List V → List Value → Prop := Paired RelV
theorem Vals.length {xs : List V} {us : List Value} (r : Vals xs us) : xs.length = us.length := Paired.length r
theorem Vals.get : ∀ {xs : List V} {us : List Value} {i : Nat} {x : V}, Vals xs us → xs[i]? = some x → ∃ u, us[i]? = some u ∧ RelV x u
  | _, _, _, _, .nil, e => by simp at e
  | _, _, 0, _, .cons r _, e => by simp at e; subst e; exact ⟨_, rfl, r⟩
  | _, _, i + 1, x, .cons _ t, e => by
    obtain ⟨u, h1, h2⟩ := Vals.get (i := i) (x := x) t (by simpa using e)
    exact ⟨u, by simpa using h1, h2⟩
theorem Vals.set {x : V} {u : Value} (r : RelV x u) : ∀ {xs : List V} {us : List Value} (i : Nat), Vals xs us → Vals (xs.set i x) (us.set i u)
  | _, _, _, .nil => .nil
  | _, _, 0, .cons _ t => .cons r t
  | _, _, i + 1, .cons q t => .cons q (Vals.set r i t)
theorem Vals.append : ∀ {xs ys : List V} {us ws : List Value}, Vals xs us → Vals ys ws → Vals (xs ++ ys) (us ++ ws)
  | _, _, _, _, .nil, s => s
  | _, _, _, _, .cons r t, s => .cons r (Vals.append t s)
theorem Vals.take : ∀ {xs : List V} {us : List Value} (n : Nat), Vals xs us → Vals (xs.take n) (us.take n)
  | _, _, 0, _ => .nil
  | _, _, _ + 1, .nil => .nil
  | _, _, n + 1, .cons r t => .cons r (Vals.take n t)
theorem Vals.drop : ∀ {xs : List V} {us : List Value} (n : Nat), Vals xs us → Vals (xs.drop n) (us.drop n)
  | _, _, 0, r => r
  | _, _, _ + 1, .nil => .nil
  | _, _, n + 1, .cons _ t => Vals.drop n t
theorem Vals.none_of : ∀ {xs : List V} {us : List Value} {i : Nat}, Vals xs us → xs[i]? = none → us[i]? = none := fun {xs us i} r e => by
  have h1 := r.length
  have h2 : xs.length ≤ i := List.getElem?_eq_none_iff.mp e
  exact List.getElem?_eq_none_iff.mpr (by omega)

def RelO : Option V → Option Value → Prop
  | some v, some u => RelV v u
  | none, none => True
  | _, _ => False
def KV {κ : Type} : List (κ × V) → List (κ × Value) → Prop := Paired fun (p : κ × V) (q : κ × Value) => p.1 = q.1 ∧ RelV p.2 q.2

/-- a key of a dict (00_mix): an int or a text -/
def kV : Key → V
  | .inl i => .int i
  | .inr x => .str x

/-- what stands at a tracked address -/
inductive HO where
  /-- a list -/
  | lst (xs : List V)
  /-- a tuple (never changes) -/
  | tup (xs : List V)
  /-- a dict whose keys are ints and texts; one whose keys are tuples of ints and texts (the empty one is both) -/
  | dK (kvs : List (Key × V)) | dT (kvs : List (List Key × V))
  /-- a set of ints: its members, its size -/
  | set (S : Int → Bool) (n : Nat)
  /-- an instance of the class at C, its dict at dx, its attributes -/
  | ins (C dx : Addr) (fs : List (Str × V))
  /-- the dict of the instance at x -/
  | own (x : Addr)
  /-- the dict of an exception -/
  | xd (fs : List (Str × V))
  /-- a bound method, f of x -/
  | met (f x : Addr)
  /-- a range object lo, lo + 1, .. below hi -/
  | rng (lo hi : Int)
  /-- a thing that is known to the object (the script; a dict while a loop walks it): read, never written while it is so -/
  | frz (o : Obj) (u : HO)
  /-- a code object's table -/
  | tbl (ps : Array Value)
  /-- any other thing, by what is true of its one object (a def of one's own: SetO a S n := HO.ext fun h => ..) -/
  | ext (φ : Heap → Prop)

abbrev Hp := Addr → Option HO
def upd (H : Hp) (a : Addr) (o : HO) : Hp := fun b => if b = a then some o else H b
theorem upd_same {H : Hp} {a : Addr} {o : HO} : upd H a o a = some o := by unfold upd; rw [if_pos rfl]
theorem upd_ne {H : Hp} {a b : Addr} {o : HO} (h : b ≠ a) : upd H a o b = H b := by unfold upd; rw [if_neg h]
theorem upd_upd {H : Hp} {a : Addr} {o u : HO} : upd (upd H a o) a u = upd H a u := by
  funext b; unfold upd; split <;> rfl
/-- two objects of different content stand apart -/
theorem ne_of {H : Hp} {a b : Addr} {o u : HO} (h : H a = some o) (h' : H b = some u) (d : o ≠ u) : a ≠ b := by
  intro e; subst e; rw [h] at h'; exact d (Option.some.inj h')
theorem ne_of_none {H : Hp} {a b : Addr} {o : HO} (h : H a = some o) (h' : H b = none) : a ≠ b := by
  intro e; subst e; rw [h] at h'; cases h'

section
variable (P : Program) (w : World)
def ObjOk (H : Hp) (h : Heap) (a : Addr) : HO → Prop
  | .lst xs => xs.length ≤ sizeLine ∧ ∃ (its : List Value) (n : Nat), Vals xs its ∧ h.get? a = some { cls := .type "list", data := .seq its.toArray n }
  | .tup xs => xs.length ≤ sizeLine ∧ ∃ its : List Value, Vals xs its ∧ IsTup h a its.toArray
  | .dK kvs => kvs.length ≤ sizeLine ∧ (a == sysModules) = false ∧ ∃ vs, KV kvs vs ∧ h.DictOf (mixKind P w) a vs
  | .dT kvs => kvs.length ≤ sizeLine ∧ (a == sysModules) = false ∧ ∃ xs : List (List Key × Addr × Value),
      Paired (fun (p : List Key × V) (q : List Key × Addr × Value) => p.1 = q.1 ∧ H q.2.1 = some (.tup (p.1.map kV)) ∧ RelV p.2 q.2.2) kvs xs ∧
      ∃ o es ep, h.get? a = some o ∧ o.ExactDict ∧ o.data = .dict es ep ∧ es.toList = xs.map (entryOfKey (tupleKind (mixKind P w))) ∧ (xs.map (·.1)).Nodup
  | .set S n => h.SetOf (intKind P w) a S n
  | .ins C dx fs => H dx = some (.own a) ∧ fs.length ≤ 1000 ∧ dx ≠ a ∧ h.get? a = some (PySem.W.instObj C dx) ∧
      ∃ mA, h.Ns1 dx mA ∧ (∀ f, RelO (fs.lookup f) (mA f)) ∧ PySem.Within mA (fs.map (·.1))
  | .own _ => ∃ o, h.get? a = some o
  | .xd fs => ∃ mA, h.Ns1 a mA ∧ ∀ f, RelO (fs.lookup f) (mA f)
  | .rng lo hi => ∃ t u v, h.get? a = some { cls := .type "range", data := .fields #[.int lo t, .int hi u, .int 1 v] }
  | .frz o u => h.get? a = some o ∧ ObjOk H h a u
  | .tbl ps => h.get? a = some { cls := .none, data := .fields ps }
  | .met f x => h.get? a = some (PySem.W.methodObj (.ref f) (.ref x))
  | .ext φ => φ h ∧ (∃ o, h.get? a = some o) ∧ ∀ h1 h2 : Heap, φ h1 → (∀ o, h1.get? a = some o → h2.get? a = some o) → φ h2
/-- the abstract heap is held -/
def HOk (H : Hp) (h : Heap) : Prop := ∀ a o, H a = some o → ObjOk P w H h a o
end

section
variable {P : Program} {w : World} {H H' : Hp} {h h' : Heap} {a : Addr} {o : HO}
theorem ObjOk.lt (x : ObjOk P w H h a o) : a < h.objs.size := by
  cases o with
  | lst xs => obtain ⟨_, _, _, _, e⟩ := x; exact Heap.lt_size e
  | tup xs => obtain ⟨_, _, _, p⟩ := x; exact p.lt
  | dK kvs => obtain ⟨_, _, _, _, o, _, _, e, _⟩ := x; exact Heap.lt_size e
  | dT kvs => obtain ⟨_, _, _, _, o, _, _, e, _⟩ := x; exact Heap.lt_size e
  | set S n => obtain ⟨o, _, _, _, e, _⟩ := x; exact Heap.lt_size e
  | ins C dx fs => obtain ⟨_, _, _, e, _⟩ := x; exact Heap.lt_size e
  | own y => obtain ⟨_, e⟩ := x; exact Heap.lt_size e
  | xd fs => obtain ⟨_, ⟨_, _, _, e, _⟩, _⟩ := x; exact Heap.lt_size e
  | rng lo hi => obtain ⟨_, _, _, e⟩ := x; exact Heap.lt_size e
  | frz ob u => obtain ⟨e, _⟩ := x; exact Heap.lt_size e
  | tbl ps => exact Heap.lt_size (show h.get? a = some _ from x)
  | met f y => exact Heap.lt_size (show h.get? a = some _ from x)
  | ext φ => obtain ⟨_, ⟨_, e⟩, _⟩ := x; exact Heap.lt_size e
theorem Paired.mapP {α β : Type} {F G : α → β → Prop} : ∀ {l₁ : List α} {l₂ : List β}, Paired F l₁ l₂ → (∀ a b, F a b → G a b) → Paired G l₁ l₂
  | _, _, .nil, _ => .nil
  | _, _, .cons r t, f => .cons (f _ _ r) (Paired.mapP t f)
theorem Paired.imp' {α β : Type} {F G : α → β → Prop} (f : ∀ a b, F a b → G a b) {l₁ : List α} {l₂ : List β} (r : Paired F l₁ l₂) : Paired G l₁ l₂ := Paired.mapP r f
/-- what an object's description leans on: its own object, its own dict, the tuples -/
theorem ObjOk.stay (x : ObjOk P w H h a o) (k : ∀ b u, (b = a ∨ H b = some (.own a)) → h.get? b = some u → h'.get? b = some u)
    (ho : ∀ b, H b = some (.own a) → H' b = some (.own a)) (ht : ∀ b xs, H b = some (.tup xs) → H' b = some (.tup xs)) : ObjOk P w H' h' a o := by
  induction o with
  | lst xs => obtain ⟨z, its, n, r, e⟩ := x; exact ⟨z, its, n, r, k _ _ (.inl rfl) e⟩
  | tup xs => obtain ⟨z, its, r, ob, e, c⟩ := x; exact ⟨z, its, r, ob, k _ _ (.inl rfl) e, c⟩
  | dK kvs => obtain ⟨z, y, vs, r, ob, es, ep, e, c⟩ := x; exact ⟨z, y, vs, r, ob, es, ep, k _ _ (.inl rfl) e, c⟩
  | dT kvs =>
    obtain ⟨z, y, xs, r, ob, es, ep, e, c⟩ := x
    exact ⟨z, y, xs, Paired.mapP r fun p q z => ⟨z.1, ht _ _ z.2.1, z.2.2⟩, ob, es, ep, k _ _ (.inl rfl) e, c⟩
  | set S n => obtain ⟨ob, es, ep, t, e, c⟩ := x; exact ⟨ob, es, ep, t, k _ _ (.inl rfl) e, c⟩
  | ins C dx fs =>
    obtain ⟨d, z, ne, e, mA, ⟨od, es, ep, e2, c⟩, r⟩ := x
    exact ⟨ho _ d, z, ne, k _ _ (.inl rfl) e, mA, ⟨od, es, ep, k _ _ (.inr d) e2, c⟩, r⟩
  | own y => obtain ⟨ob, e⟩ := x; exact ⟨ob, k _ _ (.inl rfl) e⟩
  | xd fs => obtain ⟨mA, ⟨od, es, ep, e, c⟩, r⟩ := x; exact ⟨mA, ⟨od, es, ep, k _ _ (.inl rfl) e, c⟩, r⟩
  | rng lo hi => obtain ⟨t, u, v, e⟩ := x; exact ⟨t, u, v, k _ _ (.inl rfl) e⟩
  | frz ob u ih => obtain ⟨e, q⟩ := x; exact ⟨k _ _ (.inl rfl) e, ih q⟩
  | tbl ps =>
    have e : h.get? a = some { cls := .none, data := .fields ps } := x
    show h'.get? a = some { cls := .none, data := .fields ps }
    exact k a _ (.inl rfl) e
  | met f y =>
    have e : h.get? a = some (PySem.W.methodObj (.ref f) (.ref y)) := x
    show h'.get? a = some (PySem.W.methodObj (.ref f) (.ref y))
    exact k a _ (.inl rfl) e
  | ext φ => obtain ⟨p, ⟨o, e⟩, st⟩ := x; exact ⟨st _ _ p fun o q => k _ _ (.inl rfl) q, ⟨o, k _ _ (.inl rfl) e⟩, st⟩
theorem HOk.lt (x : HOk P w H h) (e : H a = some o) : a < h.objs.size := (x a o e).lt
theorem HOk.fresh (x : HOk P w H h) (e : h.objs.size ≤ a) : H a = none := by
  cases q : H a with
  | none => rfl
  | some u => exact absurd (Nat.lt_of_lt_of_le (x.lt q) e) (Nat.lt_irrefl _)
/-- every object of the heap is kept -/
theorem HOk.kept (x : HOk P w H h) (k : ∀ b u, h.get? b = some u → h'.get? b = some u) : HOk P w H h' := fun a o e =>
  (x a o e).stay (fun b u _ q => k b u q) (fun _ q => q) fun _ _ q => q
/-- a new object is laid and tracked -/
theorem HOk.laid (x : HOk P w H h) (k : ∀ b u, h.get? b = some u → h'.get? b = some u) (hp : h.objs.size ≤ a) (new : ObjOk P w (upd H a o) h' a o) : HOk P w (upd H a o) h' := fun b u e => by
  have hn := x.fresh hp
  by_cases hb : b = a
  · subst hb; rw [upd_same] at e; cases e; exact new
  · rw [upd_ne hb] at e
    exact (x b u e).stay (fun c v _ q => k c v q) (fun c q => by rw [upd_ne (ne_of_none q hn)]; exact q) fun c xs q => by rw [upd_ne (ne_of_none q hn)]; exact q
end

/-- what may be read as u: it is u, or a known u -/
def Rd (H : Hp) (a : Addr) (u : HO) : Prop := H a = some u ∨ ∃ o, H a = some (.frz o u)
theorem Rd.of {H : Hp} {a : Addr} {u : HO} (h : H a = some u) : Rd H a u := .inl h
theorem Rd.ok {P : Program} {w : World} {H : Hp} {h : Heap} {a : Addr} {u : HO} (r : Rd H a u) (x : HOk P w H h) : ObjOk P w H h a u := by
  rcases r with r | ⟨o, r⟩
  · exact x a u r
  · obtain ⟨_, q⟩ := x a _ r
    exact q
/-- what may be written -/
def Mut : Option HO → Prop
  | some (.lst _) => True
  | some (.dK _) => True
  | some (.dT _) => True
  | some (.set _ _) => True
  | some (.ins _ _ _) => True
  | some (.ext _) => True
  | _ => False
section
variable {P : Program} {w : World} {H : Hp} {h h' : Heap} {x e : Addr} {o' : HO}
/-- the object at e is changed: x itself, or the dict of the instance x -/
theorem HOk.write (ok : HOk P w H h) (mu : Mut (H x)) (he : e = x ∨ H e = some (.own x)) (k : ∀ b u, b ≠ e → h.get? b = some u → h'.get? b = some u) (heo : ∃ u, h'.get? e = some u)
    (new : ObjOk P w (upd H x o') h' x o') : HOk P w (upd H x o') h' := fun b u q => by
  have nown : ∀ c y, H c = some (.own y) → c ≠ x := fun c y r z => by subst z; rw [r] at mu; exact mu
  have ntup : ∀ c xs, H c = some (.tup xs) → c ≠ x := fun c xs r z => by subst z; rw [r] at mu; exact mu
  by_cases hb : b = x
  · subst hb; rw [upd_same] at q; cases q; exact new
  · rw [upd_ne hb] at q
    by_cases hbe : b = e
    · have q' : H b = some (.own x) := by
        rcases he with z | z
        · exact absurd (hbe.trans z) hb
        · rw [hbe]; exact z
      rw [q] at q'; cases q'
      obtain ⟨v, hv⟩ := heo
      exact ⟨v, by rw [hbe]; exact hv⟩
    · refine (ok b u q).stay (fun c v hc r => k c v ?_ r) (fun c r => by rw [upd_ne (nown c b r)]; exact r) fun c xs r => by rw [upd_ne (ntup c xs r)]; exact r
      rcases hc with rfl | hc
      · exact hbe
      · rintro rfl
        rcases he with z | z
        · exact nown c b hc z
        · rw [hc] at z; cases z; exact hb rfl
end

/-! ### kept unless tracked; of the frames at fs (the callers') the slots may change (an exception that passes writes there); of the records at ex (iterators) nothing is said -/
structure Un (fs ex : List Addr) (H H' : Hp) (h h' : Heap) : Prop where
  keep : ∀ b o, h.get? b = some o → H b = none → b ∉ fs → b ∉ ex → h'.get? b = some o
  slot : ∀ b o, h.get? b = some o → H b = none → b ∈ fs → b ∉ ex → ∃ sl, h'.get? b = some { o with slots := sl }
  free : ∀ b o, h.get? b = some o → H b = none → b ∉ ex → H' b = none
  there : ∀ b o, h.get? b = some o → b ∉ ex → ∃ o', h'.get? b = some o'
  tups : ∀ b xs, H b = some (.tup xs) → H' b = some (.tup xs)
  frzs : ∀ b o u, H b = some (.frz o u) → H' b = some (.frz o u)
  tbls : ∀ b ps, H b = some (.tbl ps) → ∃ more, H' b = some (.tbl (ps ++ more))
section
variable {fs fs' ex ex' : List Addr} {H H1 H2 : Hp} {h h1 h2 h' : Heap} {a x e : Addr} {o : HO}
theorem Un.any (u : Un fs ex H H1 h h1) {b : Addr} {ob : Obj} (q : h.get? b = some ob) (n : H b = none) (hx : b ∉ ex) : ∃ sl, h1.get? b = some { ob with slots := sl } := by
  by_cases hb : b ∈ fs
  · exact u.slot b ob q n hb hx
  · exact ⟨ob.slots, u.keep b ob q n hb hx⟩
theorem Un.trans (a : Un fs ex H H1 h h1) (b : Un fs ex H1 H2 h1 h2) : Un fs ex H H2 h h2 where
  keep := fun c ob q n hc hx => b.keep c ob (a.keep c ob q n hc hx) (a.free c ob q n hx) hc hx
  slot := fun c ob q n hc hx => by
    obtain ⟨sl, e1⟩ := a.slot c ob q n hc hx
    obtain ⟨sl', e2⟩ := b.slot c _ e1 (a.free c ob q n hx) hc hx
    exact ⟨sl', e2⟩
  free := fun c ob q n hx => by
    obtain ⟨o', e1⟩ := a.there c ob q hx
    exact b.free c o' e1 (a.free c ob q n hx) hx
  there := fun c ob q hx => by
    obtain ⟨o', e1⟩ := a.there c ob q hx
    exact b.there c o' e1 hx
  tups := fun c xs q => b.tups c xs (a.tups c xs q)
  frzs := fun c ob xs q => b.frzs c ob xs (a.frzs c ob xs q)
  tbls := fun c ps q => by
    obtain ⟨m1, e1⟩ := a.tbls c ps q
    obtain ⟨m2, e2⟩ := b.tbls c _ e1
    exact ⟨m1 ++ m2, by rw [e2, Array.append_assoc]⟩
theorem Un.kept (k : ∀ b u, h.get? b = some u → h'.get? b = some u) : Un fs ex H H h h' :=
  ⟨fun b ob q _ _ _ => k b ob q, fun b ob q _ _ _ => ⟨ob.slots, k b ob q⟩, fun _ _ _ n _ => n, fun b ob q _ => ⟨ob, k b ob q⟩, fun _ _ q => q, fun _ _ _ q => q, fun _ ps q => ⟨#[], by rw [q]; simp⟩⟩
theorem Un.refl : Un fs ex H H h h := Un.kept fun _ _ q => q
theorem Un.laid (k : ∀ b u, h.get? b = some u → h'.get? b = some u) (hp : h.objs.size ≤ a) (hn : H a = none) : Un fs ex H (upd H a o) h h' where
  keep := fun b u q _ _ _ => k b u q
  slot := fun b u q _ _ _ => ⟨u.slots, k b u q⟩
  free := fun b u q n _ => by rw [upd_ne (Nat.ne_of_lt (Nat.lt_of_lt_of_le (Heap.lt_size q) hp))]; exact n
  there := fun b u q _ => ⟨u, k b u q⟩
  tups := fun b xs q => by rw [upd_ne (ne_of_none q hn)]; exact q
  frzs := fun b u xs q => by rw [upd_ne (ne_of_none q hn)]; exact q
  tbls := fun b ps q => ⟨#[], by rw [upd_ne (ne_of_none q hn), q]; simp⟩
theorem Un.write (mu : Mut (H x)) (he : e = x ∨ H e = some (.own x)) (k : ∀ b u, b ≠ e → h.get? b = some u → h'.get? b = some u) (heo : ∃ u, h'.get? e = some u) : Un fs ex H (upd H x o) h h' := by
  have hx : ∀ b, H b = none → b ≠ x := fun b n z => by subst z; rw [n] at mu; exact mu
  have hb : ∀ b, H b = none → b ≠ e := fun b n z => by
    subst z
    rcases he with r | r
    · exact hx b n r
    · rw [n] at r; cases r
  have hm : ∀ b u, H b = some u → ¬ Mut (some u) → b ≠ x := fun b u q nm z => by subst z; rw [q] at mu; exact nm mu
  refine ⟨fun b u q n _ _ => k b u (hb b n) q, fun b u q n _ _ => ⟨u.slots, k b u (hb b n) q⟩, fun b u q n _ => by rw [upd_ne (hx b n)]; exact n, fun b u q _ => ?_,
    fun b xs q => by rw [upd_ne (hm b _ q fun z => z)]; exact q, fun b u xs q => by rw [upd_ne (hm b _ q fun z => z)]; exact q, fun b ps q => ⟨#[], by rw [upd_ne (hm b _ q fun z => z), q]; simp⟩⟩
  by_cases hbe : b = e
  · subst hbe; exact heo
  · exact ⟨u, k b u hbe q⟩
theorem Un.mono (u : Un fs ex H H1 h h1) (hs : ∀ b ∈ fs, b ∈ fs') (hx : ∀ b ∈ ex, b ∈ ex') : Un fs' ex' H H1 h h1 :=
  ⟨fun b ob q n hb he => u.keep b ob q n (fun z => hb (hs b z)) fun z => he (hx b z), fun _ _ q n _ he => u.any q n fun z => he (hx _ z), fun b ob q n he => u.free b ob q n fun z => he (hx b z), fun b ob q he => u.there b ob q fun z => he (hx b z), u.tups, u.frzs, u.tbls⟩
end

/-! ### the heap without what is tracked -/
def trk (h : Heap) (H : Hp) : List Addr := (List.range h.objs.size).filter fun a => (H a).isSome
def hidT (h : Heap) (H : Hp) : Heap := PySem.W.hideAll h (trk h H)
theorem hidT_size (h : Heap) (H : Hp) : (hidT h H).objs.size = h.objs.size := PySem.W.hideAll_size _ _
theorem hidT_get {h : Heap} {H : Hp} {b : Addr} {o : Obj} (e : h.get? b = some o) (n : H b = none) : (hidT h H).get? b = some o :=
  PySem.W.hideAll_get _ e fun hm => by
    have q : (H b).isSome = true := (List.mem_filter.mp hm).2
    rw [n] at q; simp at q
theorem of_hidT {h : Heap} {H : Hp} {b : Addr} {o : Obj} (e : (hidT h H).get? b = some o) : h.get? b = some o ∧ H b = none := by
  have e' : h.get? b = some o := PySem.W.of_hideAll (trk h H) e
  refine ⟨e', ?_⟩
  cases q : H b with
  | none => rfl
  | some x =>
    have hm : b ∈ trk h H := List.mem_filter.mpr ⟨List.mem_range.mpr (Heap.lt_size e'), by simp [q]⟩
    have z : (hidT h H).get? b = none := PySem.W.hideAll_none (trk h H) hm
    rw [z] at e; cases e

/-! ### OpenK's ledger, filled with every new object but one -/
def allNews (g h : Heap) (L : Addr) : List (Addr × Obj) := (List.range h.objs.size).filterMap fun a => if a = L ∨ (g.get? a).isSome = true then none else (h.get? a).map fun o => (a, o)
theorem mem_allNews {g h : Heap} {L a : Addr} {o : Obj} (h1 : a ≠ L) (h2 : g.get? a = none) (h3 : h.get? a = some o) : (a, o) ∈ allNews g h L :=
  List.mem_filterMap.mpr ⟨a, List.mem_range.mpr (Heap.lt_size h3), by simp [h1, h2, h3]⟩
theorem of_mem_allNews {g h : Heap} {L : Addr} {p : Addr × Obj} (hp : p ∈ allNews g h L) : p.1 ≠ L ∧ g.get? p.1 = none ∧ h.get? p.1 = some p.2 := by
  obtain ⟨b, _, e⟩ := List.mem_filterMap.mp hp
  split at e
  · cases e
  · rename_i hn
    cases q : h.get? b with
    | none => rw [q] at e; simp at e
    | some u =>
      rw [q] at e
      simp only [Option.map_some, Option.some.injEq] at e
      subst e
      refine ⟨fun z => hn (.inl z), ?_, q⟩
      show g.get? b = none
      cases r : g.get? b with
      | none => rfl
      | some v => exact (hn (.inr (by simp [r]))).elim
def rest (g h : Heap) (L d : Addr) : List (Addr × Obj) := (allNews g h L).filter fun p => decide (p.1 ≠ d)
theorem rest_ne {g h : Heap} {L d : Addr} : ∀ p ∈ rest g h L d, p.1 ≠ d := fun p hp => of_decide_eq_true (List.mem_filter.mp hp).2
theorem mem_rest {g h : Heap} {L d a : Addr} {o : Obj} (h1 : a ≠ L) (h2 : g.get? a = none) (h3 : h.get? a = some o) (h4 : a ≠ d) : (a, o) ∈ rest g h L d :=
  List.mem_filter.mpr ⟨mem_allNews h1 h2 h3, decide_eq_true h4⟩
theorem news_all {g h : Heap} {L : Addr} : News g L h (allNews g h L) := fun p hp => let ⟨a, b, c⟩ := of_mem_allNews hp; ⟨c, a, b⟩
theorem news_at {g h : Heap} {L d : Addr} {o : Obj} (h1 : d ≠ L) (h2 : g.get? d = none) (h3 : h.get? d = some o) : News g L h ((d, o) :: rest g h L d) := fun p hp => by
  rcases List.mem_cons.mp hp with rfl | hp
  · exact ⟨h3, h1, h2⟩
  · exact news_all p (List.mem_filter.mp hp).1
/-- behind a rule that changed d alone: all else but the frame is kept -/
theorem kept_of_news {g h h' : Heap} {L d : Addr} {m : Str → Option Value} (k : ∀ b o, g.get? b = some o → h.get? b = some o) (F : Fr g L h' m) (N : News g L h' (rest g h L d)) :
    ∀ b o, b ≠ L → b ≠ d → h.get? b = some o → h'.get? b = some o := fun b o h1 h2 e => by
  cases q : g.get? b with
  | some u =>
    have := k b u q
    rw [e] at this; cases this
    exact F.keep b _ q
  | none => exact (N (b, o) (mem_rest h1 q e h2)).1
end L2

namespace L2
open PySem PySem.Spec PyProof.Rows

/-- the module's facts, over the base: the heap at the law's entry without what is tracked there -/
structure Mod (K : PySem.W.Frag) (mg : Str → Option Value) (base : Heap) : Prop where
  kin : K.In base
  glob : base.Ns mainGlobals mg
  blt : ∃ mb, base.Ns builtinsNs mb ∧ ∀ x : Str, x ≠ "__name__" → mb x = bootBuiltins x
  nolimit : base.NoLimit

/-- the context: a def's body (or a comprehension's block) running. base: fixed through the whole law; s₀, H₀: the entry; outer: the frames whose slots others may change (a def's callers); stack: all frames that run;
   ex: iterators that were made ahead of the entry and are walked here (a comprehension's); fn: the names whose cells were made at the entry (a def: all; a comprehension's block: its own); calm: not within an except suite; pn: pins that every state bears; xe: what is wanted of an exception that leaves the code -/
structure Cx where
  prog : Program
  w : World
  K : PySem.W.Frag
  mg : Str → Option Value
  base : Heap
  A : Around
  N : List Str
  s₀ : Shared
  H₀ : Hp
  env : Env
  outer : List Env
  stack : List Env
  ex : List Addr
  fn : Str → Bool
  calm : Bool
  pn : List (Addr × Obj)
  xe : Value → Shared → Prop
/-- the callers' frames -/
def frs (l : List Env) : List Addr := l.filterMap (·.frame)
abbrev Cx.fs (X : Cx) : List Addr := frs X.outer

def Vis (sc : Scope) (x : Str) : Prop := sc.names.lookup x = some .local ∨ sc.names.lookup x = some .cell ∨ sc.names.lookup x = some .free
def Loc (sc : Scope) (x : Str) : Prop := sc.names.lookup x = some .local ∨ sc.names.lookup x = some .cell
def Look (env : Env) (h : Heap) (m : Str → Option Value) (x : Str) (u : Value) : Prop :=
  (env.kindOf x = some .local ∧ m x = some u) ∨ ((env.kindOf x = some .cell ∨ env.kindOf x = some .free) ∧ ∃ c, env.cells.lookup x = some c ∧ h.IsCell c (some u))

structure Cx.Ok (X : Cx) : Prop where
  mod : Mod X.K X.mg X.base
  kind : X.env.scope.kind = .function
  glob : X.env.globals = mainGlobals
  blt : X.env.builtins = builtinsNs
  above : X.s₀.heap.objs.size ≤ X.env.locals
  inj : ∀ x y c, X.env.cells.lookup x = some c → X.env.cells.lookup y = some c → x = y
  has : ∀ x, (X.env.kindOf x = some .cell ∨ X.env.kindOf x = some .free) → ∃ c, X.env.cells.lookup x = some c
  cab : ∀ x c, X.fn x = true → X.env.cells.lookup x = some c → X.s₀.heap.objs.size ≤ c
  hd : X.calm = true → X.A.handled = none
  frames : X.A.frames = some X.stack
  stk : X.stack = X.outer ∨ (X.stack = X.env :: X.outer ∧ X.env.frame = some X.env.locals)
  exf : ∀ b ∈ X.ex, b ≠ X.env.locals ∧ ∀ x c, X.env.cells.lookup x = some c → c ≠ b
  bs : ∀ b o, X.base.get? b = some o → X.s₀.heap.get? b = some o ∧ X.H₀ b = none
  bsz : X.base.objs.size ≤ X.s₀.heap.objs.size
  noex : ∀ b o, X.base.get? b = some o → b ∉ X.ex
  exfs : ∀ b ∈ X.ex, b ∉ X.fs
  funs : X.s₀.heap.FunFrames X.base X.outer
  frf : ∀ b ∈ X.fs, X.H₀ b = none

structure Inv (X : Cx) (pins : List (Addr × Obj)) (σ : List (Option V)) (H : Hp) (s : Shared) : Prop where
  ok : X.Ok
  os : s.os = X.s₀.os
  bare : AllBare s.gens
  base : Un X.fs X.ex X.H₀ H X.s₀.heap s.heap
  loc : ∃ m, s.heap.Ns X.env.locals m ∧ ∀ (i : Nat) (x : Str) (v : V), X.N[i]? = some x → σ[i]? = some (some v) → Vis X.env.scope x → ∃ u, RelV v u ∧ Look X.env s.heap m x u
  cell : ∀ x c, X.env.cells.lookup x = some c → ∃ v, s.heap.IsCell c v
  free : H X.env.locals = none
  freeC : ∀ x c, X.env.cells.lookup x = some c → H c = none
  pin : ∀ p ∈ X.pn ++ pins, s.heap.get? p.1 = some p.2 ∧ H p.1 = none ∧ p.1 ≠ X.env.locals ∧ p.1 ∉ X.fs ∧ ∀ v, p.2.data ≠ .cell v
  hok : HOk X.prog X.w H s.heap
  len : σ.length = X.N.length

section
variable {X : Cx} {pins : List (Addr × Obj)} {σ : List (Option V)} {H H' : Hp} {s : Shared} {h' : Heap}

theorem Cx.Ok.nofr (ok : X.Ok) {b : Addr} {o : Obj} (e : X.base.get? b = some o) : b ∉ X.fs := fun hb => by
  have := (ok.funs.mem hb).1
  rw [e] at this; cases this
theorem Inv.bs (I : Inv X pins σ H s) : ∀ b o, X.base.get? b = some o → s.heap.get? b = some o ∧ H b = none := fun b o e =>
  ⟨I.base.keep b o (I.ok.bs b o e).1 (I.ok.bs b o e).2 (I.ok.nofr e) (I.ok.noex b o e), I.base.free b o (I.ok.bs b o e).1 (I.ok.bs b o e).2 (I.ok.noex b o e)⟩
theorem Inv.bk (I : Inv X pins σ H s) : ∀ b o, X.base.get? b = some o → s.heap.get? b = some o := fun b o e => (I.bs b o e).1
theorem Inv.mod (I : Inv X pins σ H s) : Mod X.K X.mg X.base := I.ok.mod
theorem Inv.kIn (I : Inv X pins σ H s) : X.K.In s.heap := I.ok.mod.kin.keeps I.bk
theorem Inv.nolimit (I : Inv X pins σ H s) : s.heap.NoLimit := I.ok.mod.nolimit.keeps I.bk
/-- the frame over the base: for OpenK's rules (K.In X.base is I.mod.kin) -/
theorem Inv.fr (I : Inv X pins σ H s) : ∃ m, Fr X.base X.env.locals s.heap m :=
  let ⟨m, hn, _⟩ := I.loc
  ⟨m, hn, I.bk, Nat.le_trans I.ok.bsz I.ok.above⟩
theorem Inv.lt (I : Inv X pins σ H s) : X.env.locals < s.heap.objs.size := let ⟨_, hn, _⟩ := I.loc; hn.lt
theorem Inv.sz (I : Inv X pins σ H s) : X.s₀.heap.objs.size ≤ s.heap.objs.size := Nat.le_trans I.ok.above (Nat.le_of_lt I.lt)
theorem Inv.nofs (I : Inv X pins σ H s) {a : Addr} (h : s.heap.objs.size ≤ a) : a ∉ X.fs := fun hb => by
  obtain ⟨_, o, ho, _⟩ := I.ok.funs.mem hb
  exact absurd (Nat.lt_of_lt_of_le (Heap.lt_size ho) (Nat.le_trans I.sz h)) (Nat.lt_irrefl _)
theorem Inv.cne (I : Inv X pins σ H s) : ∀ x c, X.env.cells.lookup x = some c → c ≠ X.env.locals := fun x c e z => by
  obtain ⟨v, o, ho, hd⟩ := I.cell x c e
  obtain ⟨m, ⟨o', es, ep, ho', hd', _⟩, _⟩ := I.loc
  rw [z, ho'] at ho; cases ho; rw [hd'] at hd; cases hd
theorem Inv.funs (I : Inv X pins σ H s) : s.heap.FunFrames X.base X.outer := by
  have all : ∀ (l : List Env), (∀ b ∈ frs l, b ∈ X.fs) → X.s₀.heap.FunFrames X.base l → s.heap.FunFrames X.base l := by
    intro l
    induction l with
    | nil => intro _ _; trivial
    | cons env r ih =>
      intro hs hl
      obtain ⟨hk, ⟨L, o, hf, hn, ho, hd⟩, hr⟩ := hl
      have hL : L ∈ X.fs := hs L (by unfold frs; rw [List.filterMap_cons, hf]; exact List.mem_cons_self)
      obtain ⟨sl, e⟩ := I.base.slot L o ho (I.ok.frf L hL) hL fun z => I.ok.exfs L z hL
      exact ⟨hk, ⟨L, _, hf, hn, e, hd⟩, ih (fun b hb => hs b (by unfold frs; rw [List.filterMap_cons, hf]; exact List.mem_cons_of_mem _ hb)) hr⟩
  exact all X.outer (fun _ hb => hb) I.ok.funs

/-- the frames that run, for a call -/
theorem Inv.stack (I : Inv X pins σ H s) : s.heap.FunFrames X.base X.stack := by
  rcases I.ok.stk with e | ⟨e, hf⟩
  · rw [e]; exact I.funs
  · rw [e]
    obtain ⟨m, hn, _⟩ := I.loc
    refine .cons (by rw [I.ok.kind]; decide) hf hn ?_ I.funs
    exact Heap.get?_none_of_le (Nat.le_trans I.ok.bsz I.ok.above)
theorem Inv.stkSub (I : Inv X pins σ H s) : ∀ b ∈ frs X.stack, b ∈ X.env.locals :: X.fs := fun b hb => by
  rcases I.ok.stk with e | ⟨e, hf⟩
  · rw [e] at hb; exact List.mem_cons_of_mem _ hb
  · rw [e] at hb
    unfold frs at hb
    rw [List.filterMap_cons, hf] at hb
    exact hb
theorem Inv.stkFree (I : Inv X pins σ H s) : ∀ b ∈ frs X.stack, H b = none := fun b hb => by
  rcases List.mem_cons.mp (I.stkSub b hb) with e | hb
  · rw [e]; exact I.free
  · obtain ⟨_, o, ho, _⟩ := I.ok.funs.mem hb
    exact I.base.free b o ho (I.ok.frf b hb) fun z => I.ok.exfs b z hb

/-- THE STEP: the untracked objects but the frame and the records at ch are kept (the callers' frames up to slots), the frame's map is kept, the new abstract heap is held -/
theorem Inv.step {g' : Array GenState} {t' : Nat} {d' : Drawn} {ch : List Addr} (I : Inv X pins σ H s)
    (hch : ∀ b ∈ ch, (b ∈ X.ex ∨ X.s₀.heap.objs.size ≤ b) ∧ b ≠ X.env.locals ∧ (∀ x c, X.env.cells.lookup x = some c → c ≠ b) ∧ ∀ p ∈ X.pn ++ pins, p.1 ≠ b)
    (keep : ∀ b o, b ≠ X.env.locals → b ∉ X.fs → b ∉ ch → s.heap.get? b = some o → H b = none → h'.get? b = some o)
    (slot : ∀ b o, b ≠ X.env.locals → b ∈ X.fs → b ∉ ch → s.heap.get? b = some o → H b = none → ∃ sl, h'.get? b = some { o with slots := sl }) (free : ∀ b o, b ∉ ch → s.heap.get? b = some o → H b = none → H' b = none)
    (there : ∀ b o, b ∉ ch → s.heap.get? b = some o → ∃ o', h'.get? b = some o')
    (tups : ∀ b xs, H b = some (.tup xs) → H' b = some (.tup xs)) (frzs : ∀ b o u, H b = some (.frz o u) → H' b = some (.frz o u)) (tbls : ∀ b ps, H b = some (.tbl ps) → ∃ more, H' b = some (.tbl (ps ++ more)))
    (ns : ∀ m, s.heap.Ns X.env.locals m → h'.Ns X.env.locals m) (hok : HOk X.prog X.w H' h') (hg : AllBare g') :
    Inv X pins σ H' { s with heap := h', gens := g', drawn := d', toks := t' } := by
  have neL : ∀ b o, X.s₀.heap.get? b = some o → b ≠ X.env.locals := fun b o e => Nat.ne_of_lt (Nat.lt_of_lt_of_le (Heap.lt_size e) I.ok.above)
  have neC : ∀ b o, X.s₀.heap.get? b = some o → b ∉ X.ex → b ∉ ch := fun b o e hx hb => by
    rcases (hch b hb).1 with z | z
    · exact hx z
    · exact absurd (Nat.lt_of_lt_of_le (Heap.lt_size e) z) (Nat.lt_irrefl _)
  have cellK : ∀ x c, X.env.cells.lookup x = some c → ∀ v, s.heap.IsCell c v → h'.IsCell c v := fun x c e v ⟨o, ho, hd⟩ => by
    have nch : c ∉ ch := fun z => (hch c z).2.2.1 x c e rfl
    by_cases hc : c ∈ X.fs
    · obtain ⟨sl, q⟩ := slot c o (I.cne x c e) hc nch ho (I.freeC x c e)
      exact ⟨_, q, hd⟩
    · exact ⟨o, keep c o (I.cne x c e) hc nch ho (I.freeC x c e), hd⟩
  refine ⟨I.ok, I.os, hg, ⟨fun b o e n hb hx => ?_, fun b o e n hb hx => ?_, fun b o e n hx => ?_, fun b o e hx => ?_, fun b xs e => tups b xs (I.base.tups b xs e), fun b o xs e => frzs b o xs (I.base.frzs b o xs e), fun b ps e => ?_⟩, ?_, fun x c e => ?_, ?_, fun x c e => ?_, fun p hp => ?_, hok, I.len⟩
  · exact keep b o (neL b o e) hb (neC b o e hx) (I.base.keep b o e n hb hx) (I.base.free b o e n hx)
  · obtain ⟨sl, e1⟩ := I.base.slot b o e n hb hx
    obtain ⟨sl', e2⟩ := slot b _ (neL b o e) hb (neC b o e hx) e1 (I.base.free b o e n hx)
    exact ⟨sl', e2⟩
  · obtain ⟨o', e1⟩ := I.base.there b o e hx
    exact free b o' (neC b o e hx) e1 (I.base.free b o e n hx)
  · obtain ⟨o', e1⟩ := I.base.there b o e hx
    exact there b o' (neC b o e hx) e1
  · obtain ⟨m1, e1⟩ := I.base.tbls b ps e
    obtain ⟨m2, e2⟩ := tbls b _ e1
    exact ⟨m1 ++ m2, by rw [e2, Array.append_assoc]⟩
  · obtain ⟨m, hn, hl⟩ := I.loc
    refine ⟨m, ns m hn, fun i x v e1 e2 e3 => ?_⟩
    obtain ⟨u, r, l⟩ := hl i x v e1 e2 e3
    refine ⟨u, r, ?_⟩
    rcases l with l | ⟨k, c, e, z⟩
    · exact .inl l
    · exact .inr ⟨k, c, e, cellK x c e _ z⟩
  · obtain ⟨v, z⟩ := I.cell x c e
    exact ⟨v, cellK x c e v z⟩
  · obtain ⟨m, ⟨o, _, _, ho, _⟩, _⟩ := I.loc
    exact free _ o (fun z => (hch _ z).2.1 rfl) ho I.free
  · obtain ⟨v, o, ho, hd⟩ := I.cell x c e
    exact free c o (fun z => (hch c z).2.2.1 x c e rfl) ho (I.freeC x c e)
  · obtain ⟨e, n, ne, nf, d⟩ := I.pin p hp
    have nch : p.1 ∉ ch := fun z => (hch p.1 z).2.2.2 p hp rfl
    exact ⟨keep p.1 p.2 ne nf nch e n, free p.1 p.2 nch e n, ne, nf, d⟩
/-- .. where the frame's own object is kept too -/
theorem Inv.un {t' : Nat} (I : Inv X pins σ H s) (u : Un X.fs [] H H' s.heap h') (hok : HOk X.prog X.w H' h') : Inv X pins σ H' { s with heap := h', toks := t' } := by
  obtain ⟨m, ⟨o, es, ep, ho, r⟩, _⟩ := id I.loc
  obtain ⟨sl, hL⟩ := u.any ho I.free (by simp)
  exact I.step (g' := s.gens) (d' := s.drawn) (ch := []) (fun _ z => nomatch z) (fun b o _ hb _ e n => u.keep b o e n hb (by simp)) (fun b o _ hb _ e n => u.slot b o e n hb (by simp)) (fun b o _ e n => u.free b o e n (by simp)) (fun b o _ e => u.there b o e (by simp)) u.tups u.frzs u.tbls (fun m' hm => by
    obtain ⟨o', es', ep', ho', r'⟩ := hm
    rw [ho] at ho'; cases ho'
    exact ⟨_, es', ep', hL, r'⟩) hok I.bare
/-- behind a call (or a comprehension's block): the slots of this frame may have changed too, the records at ch may have turned -/
theorem Inv.call {g' : Array GenState} {t' : Nat} {d' : Drawn} {ch : List Addr} (I : Inv X pins σ H s) (u : Un (frs X.stack) ch H H' s.heap h') (hok : HOk X.prog X.w H' h') (hg : AllBare g')
    (hch : ∀ b ∈ ch, (b ∈ X.ex ∨ X.s₀.heap.objs.size ≤ b) ∧ b ≠ X.env.locals ∧ (∀ x c, X.env.cells.lookup x = some c → c ≠ b) ∧ ∀ p ∈ X.pn ++ pins, p.1 ≠ b) :
    Inv X pins σ H' { s with heap := h', gens := g', drawn := d', toks := t' } := by
  obtain ⟨m, ⟨o, es, ep, ho, r⟩, _⟩ := id I.loc
  obtain ⟨sl, hL⟩ := u.any ho I.free fun z => (hch _ z).2.1 rfl
  exact I.step (ch := ch) hch (fun b o hL hb hc e n => u.keep b o e n (fun z => (List.mem_cons.mp (I.stkSub b z)).elim hL hb) hc) (fun b o _ _ hc e n => u.any e n hc) (fun b o hc e n => u.free b o e n hc) (fun b o hc e => u.there b o e hc) u.tups u.frzs u.tbls (fun m' hm => by
    obtain ⟨o', es', ep', ho', r'⟩ := hm
    rw [ho] at ho'; cases ho'
    exact ⟨_, es', ep', hL, r'⟩) hok hg
/-- an untracked record of ours (an iterator) has turned -/
theorem Inv.turned {t' : Nat} {it : Addr} (I : Inv X pins σ H s) (k : ∀ b o, b ≠ it → s.heap.get? b = some o → h'.get? b = some o) (hn : H it = none) (hL : it ≠ X.env.locals)
    (h1 : it ∈ X.ex ∨ X.s₀.heap.objs.size ≤ it) (h2 : ∀ x c, X.env.cells.lookup x = some c → c ≠ it) (h3 : ∀ p ∈ X.pn ++ pins, p.1 ≠ it) : Inv X pins σ H { s with heap := h', toks := t' } := by
  have nit : ∀ b u, H b = some u → b ≠ it := fun b u e z => by rw [z, hn] at e; cases e
  refine I.step (g' := s.gens) (d' := s.drawn) (ch := [it]) (fun b hb => ?_) (fun b o _ _ hc e _ => k b o (fun z => hc (by simp [z])) e) (fun b o _ _ hc e _ => ⟨o.slots, k b o (fun z => hc (by simp [z])) e⟩) (fun _ _ _ _ n => n)
    (fun b o hc e => ⟨o, k b o (fun z => hc (by simp [z])) e⟩) (fun _ _ e => e) (fun _ _ _ e => e) (fun b ps e => ⟨#[], by rw [e]; simp⟩) (fun m hm => ?_) (fun b u e => ?_) I.bare
  · have e : b = it := by simpa using hb
    subst e
    exact ⟨h1, hL, h2, h3⟩
  · obtain ⟨o, es, ep, ho, r⟩ := hm
    exact ⟨o, es, ep, k _ o (Ne.symm hL) ho, r⟩
  · refine (I.hok b u e).stay (fun c v hc q => k c v ?_ q) (fun _ q => q) fun _ _ q => q
    rcases hc with z | z
    · rw [z]; exact nit b u e
    · exact nit c _ z
theorem Inv.tok (I : Inv X pins σ H s) (t : Nat) : Inv X pins σ H { s with toks := t } := I.un (h' := s.heap) (t' := t) Un.refl I.hok
/-- all objects kept -/
theorem Inv.kept {t' : Nat} (I : Inv X pins σ H s) (k : ∀ b u, s.heap.get? b = some u → h'.get? b = some u) : Inv X pins σ H { s with heap := h', toks := t' } := I.un (Un.kept k) (I.hok.kept k)
/-- a new object laid and tracked -/
theorem Inv.laid {a : Addr} {o : HO} {t' : Nat} (I : Inv X pins σ H s) (k : ∀ b u, s.heap.get? b = some u → h'.get? b = some u) (hp : s.heap.objs.size ≤ a) (new : ObjOk X.prog X.w (upd H a o) h' a o) :
    Inv X pins σ (upd H a o) { s with heap := h', toks := t' } := I.un (Un.laid k hp (I.hok.fresh hp)) (I.hok.laid k hp new)
/-- an object written -/
theorem Inv.write {x e : Addr} {o : HO} {t' : Nat} (I : Inv X pins σ H s) (mu : Mut (H x)) (he : e = x ∨ H e = some (.own x)) (k : ∀ b u, b ≠ e → s.heap.get? b = some u → h'.get? b = some u) (heo : ∃ u, h'.get? e = some u)
    (new : ObjOk X.prog X.w (upd H x o) h' x o) : Inv X pins σ (upd H x o) { s with heap := h', toks := t' } := I.un (Un.write mu he k heo) (I.hok.write mu he k heo new)
/-- forgetting slots, pins -/
theorem Inv.weak {σ' : List (Option V)} (I : Inv X pins σ H s) (hl : σ'.length = σ.length) (w : ∀ (i : Nat) v, σ'[i]? = some (some v) → σ[i]? = some (some v)) : Inv X pins σ' H s :=
  ⟨I.ok, I.os, I.bare, I.base, let ⟨m, hn, hl'⟩ := I.loc; ⟨m, hn, fun i x v e1 e2 e3 => hl' i x v e1 (w i v e2) e3⟩, I.cell, I.free, I.freeC, I.pin, I.hok, hl.trans I.len⟩
theorem Inv.pins_of {pins' : List (Addr × Obj)} (I : Inv X pins σ H s) (h : ∀ p ∈ pins', s.heap.get? p.1 = some p.2 ∧ H p.1 = none ∧ p.1 ≠ X.env.locals ∧ p.1 ∉ X.fs ∧ ∀ v, p.2.data ≠ .cell v) : Inv X pins' σ H s :=
  ⟨I.ok, I.os, I.bare, I.base, I.loc, I.cell, I.free, I.freeC, fun p hp => (List.mem_append.mp hp).elim (fun z => I.pin p (List.mem_append_left _ z)) (h p), I.hok, I.len⟩

theorem nodup_ix {N : List Str} (hN : N.Nodup) {i j : Nat} {x : Str} (a : N[i]? = some x) (b : N[j]? = some x) : i = j := by
  obtain ⟨h1, e1⟩ := List.getElem?_eq_some_iff.mp a
  obtain ⟨h2, e2⟩ := List.getElem?_eq_some_iff.mp b
  exact (List.getElem_inj hN).mp (e1.trans e2.symm)

/-- a name is stored; what changed -/
theorem store_ok2 {M : Model} {A : Around} {E : Value → Shared → Prop} {i : Nat} {x : Str} {v : V} {u : Value} {Q : Unit → Shared → Prop} (I : Inv X pins σ H s) (hN : X.N.Nodup) (hi : X.N[i]? = some x) (hx : Loc X.env.scope x) (r : RelV v u)
    (h : ∀ s', Inv X pins (σ.set i (some v)) H s' → (∃ a, Heap.SameBut a s.heap s'.heap ∧ (a = X.env.locals ∨ X.env.cells.lookup x = some a)) → Q () s') (hf : X.fn x = true ∨ X.env.scope.names.lookup x = some .local := by first | exact .inl rfl | exact .inr rfl | assumption) : wpAny M A (storeName X.env x u) Q E s := by
  obtain ⟨m, hn, hl⟩ := id I.loc
  have hcls : (X.env.scope.kind == .class || (X.env.scope.kind == .module && X.env.locals != X.env.globals)) = false := by rw [I.ok.kind]; rfl
  have hiσ : i < σ.length := by rw [I.len]; exact (List.getElem?_eq_some_iff.mp hi).1
  have cne := I.cne
  have tracked : ∀ {a : Addr} {h' : Heap}, (∃ o, s.heap.get? a = some o ∧ H a = none) → Heap.SameBut a s.heap h' → HOk X.prog X.w H h' := fun {a h'} ha hs b ob e => by
    obtain ⟨_, _, hfree⟩ := ha
    refine (I.hok b ob e).stay (fun c w' hc q => (hs.2 c ?_).trans q) (fun _ q => q) fun _ _ q => q
    rintro rfl
    rcases hc with rfl | hc
    · rw [hfree] at e; cases e
    · rw [hfree] at hc; cases hc
  rcases hx with hk | hk
  · refine wpAny_storeName_local hk hn (fun h' hn' hs => ?_) hcls
    obtain ⟨oL, _, _, hoL, _⟩ := id hn
    refine h _ ⟨I.ok, I.os, I.bare, ⟨fun b o e n hb hx => ?_, fun b o e n hb hx => ?_, I.base.free, fun b o e hx => ?_, I.base.tups, I.base.frzs, I.base.tbls⟩, ⟨_, hn', fun j y v' e1 e2 e3 => ?_⟩, fun y c e => ?_, I.free, I.freeC, fun p hp => ?_, tracked ⟨oL, hoL, I.free⟩ hs, by simpa using I.len⟩ ⟨_, hs, .inl rfl⟩
    · exact (hs.2 b (Nat.ne_of_lt (Nat.lt_of_lt_of_le (Heap.lt_size e) I.ok.above))).trans (I.base.keep b o e n hb hx)
    · obtain ⟨sl, e1⟩ := I.base.slot b o e n hb hx
      exact ⟨sl, (hs.2 b (Nat.ne_of_lt (Nat.lt_of_lt_of_le (Heap.lt_size e) I.ok.above))).trans e1⟩
    · obtain ⟨o', e1⟩ := I.base.there b o e hx
      exact ⟨o', (hs.2 b (Nat.ne_of_lt (Nat.lt_of_lt_of_le (Heap.lt_size e) I.ok.above))).trans e1⟩
    · by_cases hj : j = i
      · subst hj
        rw [hi] at e1; cases e1
        rw [List.getElem?_set_self hiσ] at e2
        cases e2
        exact ⟨u, r, .inl ⟨hk, by simp⟩⟩
      · rw [List.getElem?_set_ne (Ne.symm hj)] at e2
        obtain ⟨u', r', q⟩ := hl j y v' e1 e2 e3
        refine ⟨u', r', ?_⟩
        rcases q with ⟨k, e⟩ | ⟨k, c, e, z⟩
        · refine .inl ⟨k, ?_⟩
          have : y ≠ x := fun e => hj (nodup_ix hN e1 (e ▸ hi))
          simp [this, e]
        · exact .inr ⟨k, c, e, z.sameBut hs (cne y c e)⟩
    · obtain ⟨w', z⟩ := I.cell y c e
      exact ⟨w', z.sameBut hs (cne y c e)⟩
    · obtain ⟨e, n, ne, nf, d⟩ := I.pin p hp
      exact ⟨(hs.2 p.1 ne).trans e, n, ne, nf, d⟩
  · have hfn : X.fn x = true := by
      rcases hf with z | z
      · exact z
      · rw [z] at hk; cases hk
    obtain ⟨c, hc⟩ := I.ok.has x (.inl hk)
    obtain ⟨w', z⟩ := I.cell x c hc
    refine wpAny_storeName_cell I.ok.kind hk hc z (fun h' hc' hs => ?_)
    obtain ⟨oc, hoc, hocd⟩ := id z
    refine h { s with heap := h' } ⟨I.ok, I.os, I.bare, ⟨fun b o e n hb hx => ?_, fun b o e n hb hx => ?_, I.base.free, fun b o e hx => ?_, I.base.tups, I.base.frzs, I.base.tbls⟩, ⟨m, hn.sameBut hs (Ne.symm (cne x c hc)), fun j y v' e1 e2 e3 => ?_⟩, fun y c' e => ?_, I.free, I.freeC, fun p hp => ?_, tracked ⟨oc, hoc, I.freeC x c hc⟩ hs, by simpa using I.len⟩ ⟨c, hs, .inr hc⟩
    · exact (hs.2 b (Nat.ne_of_lt (Nat.lt_of_lt_of_le (Heap.lt_size e) (I.ok.cab x c hfn hc)))).trans (I.base.keep b o e n hb hx)
    · obtain ⟨sl, e1⟩ := I.base.slot b o e n hb hx
      exact ⟨sl, (hs.2 b (Nat.ne_of_lt (Nat.lt_of_lt_of_le (Heap.lt_size e) (I.ok.cab x c hfn hc)))).trans e1⟩
    · obtain ⟨o', e1⟩ := I.base.there b o e hx
      exact ⟨o', (hs.2 b (Nat.ne_of_lt (Nat.lt_of_lt_of_le (Heap.lt_size e) (I.ok.cab x c hfn hc)))).trans e1⟩
    · by_cases hj : j = i
      · subst hj
        rw [hi] at e1; cases e1
        rw [List.getElem?_set_self hiσ] at e2
        cases e2
        exact ⟨u, r, .inr ⟨.inl hk, c, hc, hc'⟩⟩
      · rw [List.getElem?_set_ne (Ne.symm hj)] at e2
        obtain ⟨u', r', q⟩ := hl j y v' e1 e2 e3
        refine ⟨u', r', ?_⟩
        rcases q with q | ⟨k, c', e, z'⟩
        · exact .inl q
        · refine .inr ⟨k, c', e, z'.sameBut hs ?_⟩
          rintro rfl
          exact hj (nodup_ix hN e1 (I.ok.inj _ _ _ e hc ▸ hi))
    · by_cases hcc : c' = c
      · subst hcc; exact ⟨_, hc'⟩
      · obtain ⟨w2, z2⟩ := I.cell y c' e
        exact ⟨w2, z2.sameBut hs hcc⟩
    · obtain ⟨e, n, ne, nf, d⟩ := I.pin p hp
      refine ⟨(hs.2 p.1 ?_).trans e, n, ne, nf, d⟩
      intro q
      rw [q, hoc] at e
      have q' : oc = p.2 := Option.some.inj e
      exact d w' (by rw [← q']; exact hocd)
theorem store_ok {M : Model} {A : Around} {E : Value → Shared → Prop} {i : Nat} {x : Str} {v : V} {u : Value} {Q : Unit → Shared → Prop} (I : Inv X pins σ H s) (hN : X.N.Nodup) (hi : X.N[i]? = some x) (hx : Loc X.env.scope x) (r : RelV v u)
    (h : ∀ s', Inv X pins (σ.set i (some v)) H s' → Q () s') (hf : X.fn x = true ∨ X.env.scope.names.lookup x = some .local := by first | exact .inl rfl | exact .inr rfl | assumption) : wpAny M A (storeName X.env x u) Q E s :=
  store_ok2 I hN hi hx r (fun s' I' _ => h s' I') hf
/-- behind a call or a block, the state as it is -/
theorem Inv.call' {s' : Shared} {ch : List Addr} (I : Inv X pins σ H s) (ho : s'.os = s.os) (u : Un (frs X.stack) ch H H' s.heap s'.heap) (hok : HOk X.prog X.w H' s'.heap) (hg : AllBare s'.gens)
    (hch : ∀ b ∈ ch, (b ∈ X.ex ∨ X.s₀.heap.objs.size ≤ b) ∧ b ≠ X.env.locals ∧ (∀ x c, X.env.cells.lookup x = some c → c ≠ b) ∧ ∀ p ∈ X.pn ++ pins, p.1 ≠ b) : Inv X pins σ H' s' := by
  obtain ⟨h', g', d', t', o'⟩ := s'
  have e : o' = s.os := ho
  subst e
  exact I.call (g' := g') (t' := t') (d' := d') u hok hg hch
end

/-! ### the judgements -/
/-- an exception: its class, its own dict's address (where it has one), the abstract heap behind it -/
abbrev XK := Value → Option Addr → Hp → Prop
abbrev St := List (Option V)
abbrev VK := V → Hp → Prop
/-- an expression's reading; a test's; an argument list's -/
abbrev TE := St → Hp → VK → Prop
abbrev TT := St → Hp → (Bool → Hp → Prop) → Prop
abbrev TA := St → Hp → (List V → Hp → Prop) → Prop
/-- what is wanted behind a statement -/
structure Ends where
  nx : St → Hp → Prop
  rt : VK
  bk : St → Hp → Prop := fun _ _ => False
  ct : St → Hp → Prop := fun _ _ => False
abbrev TS := Ends → St → Hp → Prop

def EP (X : Cx) (pins : List (Addr × Obj)) (σ : St) (Q : VK) (u : Value) (s' : Shared) : Prop := ∃ v H', Inv X pins σ H' s' ∧ RelV v u ∧ Q v H'
def TP (X : Cx) (pins : List (Addr × Obj)) (σ : St) (Q : Bool → Hp → Prop) (b : Bool) (s' : Shared) : Prop := ∃ H', Inv X pins σ H' s' ∧ Q b H'
def AP (X : Cx) (pins : List (Addr × Obj)) (σ : St) (Q : List V → Hp → Prop) (us : List Value) (s' : Shared) : Prop := ∃ vs H', Inv X pins σ H' s' ∧ Vals vs us ∧ Q vs H'
def SP (X : Cx) (pins : List (Addr × Obj)) (D : Ends) (f : Flow) (s' : Shared) : Prop :=
  match f with
  | .next => ∃ σ' H', Inv X pins σ' H' s' ∧ D.nx σ' H'
  | .brk => ∃ σ' H', Inv X pins σ' H' s' ∧ D.bk σ' H'
  | .cont => ∃ σ' H', Inv X pins σ' H' s' ∧ D.ct σ' H'
  | .ret u => ∃ v σ' H', Inv X pins σ' H' s' ∧ RelV v u ∧ D.rt v H'

def PE (X : Cx) (e : Expr) (t : TE) : Prop :=
  ∀ (pins : List (Addr × Obj)) (s : Shared) (σ : St) (H : Hp) (Q : VK), Inv X pins σ H s → t σ H Q → wpAny (model X.prog X.w) X.A (eval e X.env) (EP X pins σ Q) X.xe s
def PT (X : Cx) (e : Expr) (t : TT) : Prop :=
  ∀ (pins : List (Addr × Obj)) (s : Shared) (σ : St) (H : Hp) (Q : Bool → Hp → Prop), Inv X pins σ H s → t σ H Q → wpAny (model X.prog X.w) X.A (isTrue e X.env (eval e X.env)) (TP X pins σ Q) X.xe s
/-- a test whatever its 'whole' is (and, or) -/
def PW (X : Cx) (e : Expr) (t : TT) : Prop :=
  ∀ (whole : Sem Value) (pins : List (Addr × Obj)) (s : Shared) (σ : St) (H : Hp) (Q : Bool → Hp → Prop), Inv X pins σ H s → t σ H Q → wpAny (model X.prog X.w) X.A (isTrue e X.env whole) (TP X pins σ Q) X.xe s
theorem PW.pt {X : Cx} {e : Expr} {t : TT} (h : PW X e t) : PT X e t := h _
/-- an argument list (no star), from the left -/
def PA (X : Cx) (es : List Expr) (t : TA) : Prop :=
  ∀ (pos : Pos) (pins : List (Addr × Obj)) (s : Shared) (σ : St) (H : Hp) (Q : List V → Hp → Prop), Inv X pins σ H s → t σ H Q → wpAny (model X.prog X.w) X.A (spliced (backTo pos (starEach es X.env))) (AP X pins σ Q) X.xe s
def PS (X : Cx) (st : Stmt) (t : TS) : Prop :=
  ∀ (pins : List (Addr × Obj)) (s : Shared) (σ : St) (H : Hp) (D : Ends), Inv X pins σ H s → t D σ H → wpAny (model X.prog X.w) X.A (exec st X.env) (SP X pins D) X.xe s
def PSs (X : Cx) (st : List Stmt) (t : TS) : Prop :=
  ∀ (pins : List (Addr × Obj)) (s : Shared) (σ : St) (H : Hp) (D : Ends), Inv X pins σ H s → t D σ H → wpAny (model X.prog X.w) X.A (execs st X.env) (SP X pins D) X.xe s
/-- weaken the end -/
theorem thn {α : Type} {t : Sem α} {Q Q' : α → Shared → Prop} {M : Model} {A : Around} {E : Value → Shared → Prop} {s : Shared} (h : wpAny M A t Q E s) (hQ : ∀ a s, Q a s → Q' a s) : wpAny M A t Q' E s := wpAny_mono h hQ fun _ _ x => x
end L2

namespace L2
open PySem PySem.Spec PyProof.Rows
section
variable {X : Cx}

/-- two expressions in a row -/
theorem bin {a b : Expr} {ta tb : TE} (ha : PE X a ta) (hb : PE X b tb) {pins : List (Addr × Obj)} {s : Shared} {σ : St} {H : Hp} {R : V → V → Hp → Prop} (I : Inv X pins σ H s) (h : ta σ H fun x H1 => tb σ H1 fun y H2 => R x y H2)
    {α : Type} {Q : α → Shared → Prop} {f : Value → Value → Sem α}
    (hf : ∀ v u s2 x y H2, Inv X pins σ H2 s2 → RelV x v → RelV y u → R x y H2 → wpAny (model X.prog X.w) X.A (f v u) Q X.xe s2) :
    wpAny (model X.prog X.w) X.A (eval a X.env) (fun v s₁ => wpAny (model X.prog X.w) X.A (eval b X.env) (fun u s₂ => wpAny (model X.prog X.w) X.A (f v u) Q X.xe s₂) X.xe s₁) X.xe s := by
  refine thn (ha pins s σ H _ I h) fun v s1 ⟨x, H1, I1, r1, q1⟩ => ?_
  refine thn (hb pins s1 σ H1 _ I1 q1) fun u s2 ⟨y, H2, I2, r2, q2⟩ => ?_
  exact hf v u s2 x y H2 I2 r1 r2 q2

/-! ### names and constants -/
def tVar (i : Nat) : TE := fun σ H Q => ∃ v, σ[i]? = some (some v) ∧ Q v H
def tC (v : V) : TE := fun _ H Q => Q v H
theorem pe_var {i : Nat} {x : Str} {pos : Pos} (hN : X.N[i]? = some x) (hv : Vis X.env.scope x) (hd : (x == ("__debug__" : Str)) = false := by decide) (hcd : (x == ("__classdict__" : Str)) = false := by decide) : PE X (.Name x pos) (tVar i) := by
  intro pins s σ H Q I h
  obtain ⟨v, e, h⟩ := h
  obtain ⟨m, hn, hl⟩ := I.loc
  obtain ⟨u, r, l⟩ := hl i x v hN e hv
  have fin : EP X pins σ Q u s := ⟨v, H, I, r, h⟩
  rcases l with ⟨hk, hm⟩ | ⟨hk, c, hc, hcell⟩
  · exact wpAny_Name (wpAny_loadName_local I.ok.kind hk hn hm fin) hd
  · rcases hk with hk | hk
    · exact wpAny_Name (wpAny_loadName_cell I.ok.kind hk hc hcell fin) hd
    · exact wpAny_Name (wpAny_loadName_free I.ok.kind hk hc hcell fin hcd) hd
theorem pe_int {i j pos} : PE X (.Constant (.int i) j pos) (tC (.int i)) := fun _ _ _ H _ I h => wpAny_Constant_int ⟨.int i, H, I.tok _, ⟨_, rfl⟩, h⟩
theorem pe_bl {b j pos} : PE X (.Constant (.bool b) j pos) (tC (.bl b)) := fun _ _ _ H _ I h => Constant_bool ⟨.bl b, H, I, rfl, h⟩
theorem pe_non {j pos} : PE X (.Constant .none j pos) (tC .non) := fun _ _ _ H _ I h => Constant_none ⟨.non, H, I, rfl, h⟩
theorem pe_str {x j pos} : PE X (.Constant (.str x) j pos) (tC (.str x)) := fun _ _ _ H _ I h => Calls.Constant_str ⟨.str x, H, I.tok _, ⟨_, rfl⟩, h⟩

/-- a global name of the def -/
def Gl (X : Cx) (x : Str) : Prop := X.env.kindOf x = some .globalImplicit
theorem ld_glob {E : Value → Shared → Prop} {pins : List (Addr × Obj)} {s : Shared} {σ : St} {H : Hp} {x : Str} {u : Value} {pos : Pos} {Q : Value → Shared → Prop} (I : Inv X pins σ H s) (hg : Gl X x) (hm : X.mg x = some u) (h : Q u s)
    (hd : (x == ("__debug__" : Str)) = false := by decide) : wpAny (model X.prog X.w) X.A (eval (.Name x pos) X.env) Q E s :=
  Calls.Name_function_global I.ok.kind hg (Calls.loadGlobal_global (by rw [I.ok.glob]; exact I.mod.glob.keeps I.bk) hm h) hd
theorem ld_blt {E : Value → Shared → Prop} {pins : List (Addr × Obj)} {s : Shared} {σ : St} {H : Hp} {x : Str} {u : Value} {pos : Pos} {Q : Value → Shared → Prop} (I : Inv X pins σ H s) (hg : Gl X x) (hm : X.mg x = none) (hv : bootBuiltins x = some u) (h : Q u s)
    (hn : x ≠ "__name__" := by decide) (hd : (x == ("__debug__" : Str)) = false := by decide) : wpAny (model X.prog X.w) X.A (eval (.Name x pos) X.env) Q E s := by
  obtain ⟨mb, h1, h2⟩ := I.mod.blt
  exact Calls.Name_function_global I.ok.kind hg (Calls.loadGlobal_builtin (by rw [I.ok.glob]; exact I.mod.glob.keeps I.bk) hm (by rw [I.ok.blt]; exact h1.keeps I.bk) ((h2 x hn).trans hv) h) hd
/-- a module's constant, a class, a function, as a value -/
theorem pe_glob {x : Str} {v : V} {u : Value} {pos : Pos} (hg : Gl X x) (hm : X.mg x = some u) (r : RelV v u) (hd : (x == ("__debug__" : Str)) = false := by decide) : PE X (.Name x pos) (tC v) :=
  fun _ _ _ H _ I h => ld_glob I hg hm ⟨v, H, I, r, h⟩ hd
theorem pe_bltn {x : Str} {v : V} {u : Value} {pos : Pos} (hg : Gl X x) (hm : X.mg x = none) (hv : bootBuiltins x = some u) (r : RelV v u) (hn : x ≠ "__name__" := by decide) (hd : (x == ("__debug__" : Str)) = false := by decide) : PE X (.Name x pos) (tC v) :=
  fun _ _ _ H _ I h => ld_blt I hg hm hv ⟨v, H, I, r, h⟩ hn hd

/-! ### arithmetic -/
/-- two ints -/
def t2I (ta tb : TE) (k : Int → Int → Hp → Prop) : St → Hp → Prop := fun σ H => ta σ H fun x H1 => tb σ H1 fun y H2 => ∃ i j, x = .int i ∧ y = .int j ∧ k i j H2
def tAdd (ta tb : TE) : TE := fun σ H Q => t2I ta tb (fun i j H2 => Q (.int (i + j)) H2) σ H
def tSub (ta tb : TE) : TE := fun σ H Q => t2I ta tb (fun i j H2 => Q (.int (i - j)) H2) σ H
/-- the left factor below 2^64 -/
def tMul (ta tb : TE) : TE := fun σ H Q => t2I ta tb (fun i j H2 => (-(2 ^ 64) < i ∧ i < 2 ^ 64) ∧ Q (.int (i * j)) H2) σ H
variable {a b : Expr} {ta tb : TE} {pos : Pos}
theorem pe_add (ha : PE X a ta) (hb : PE X b tb) : PE X (.BinOp a .Add b pos) (tAdd ta tb) := by
  intro pins s σ H Q I h
  refine wpAny_BinOp (bin ha hb I h fun v u s2 x y H2 I2 rx ry q => ?_)
  obtain ⟨i, j, rfl, rfl, q⟩ := q
  obtain ⟨t, rfl⟩ := rx
  obtain ⟨t', rfl⟩ := ry
  exact add_int ⟨.int _, H2, I2.tok _, ⟨_, rfl⟩, q⟩
theorem pe_sub (ha : PE X a ta) (hb : PE X b tb) : PE X (.BinOp a .Sub b pos) (tSub ta tb) := by
  intro pins s σ H Q I h
  refine wpAny_BinOp (bin ha hb I h fun v u s2 x y H2 I2 rx ry q => ?_)
  obtain ⟨i, j, rfl, rfl, q⟩ := q
  obtain ⟨t, rfl⟩ := rx
  obtain ⟨t', rfl⟩ := ry
  exact sub_int ⟨.int _, H2, I2.tok _, ⟨_, rfl⟩, q⟩
theorem pe_mul (ha : PE X a ta) (hb : PE X b tb) : PE X (.BinOp a .Mult b pos) (tMul ta tb) := by
  intro pins s σ H Q I h
  refine wpAny_BinOp (bin ha hb I h fun v u s2 x y H2 I2 rx ry q => ?_)
  obtain ⟨i, j, rfl, rfl, ⟨q1, q2⟩, q⟩ := q
  obtain ⟨t, rfl⟩ := rx
  obtain ⟨t', rfl⟩ := ry
  exact mul_int ⟨.int _, H2, I2.tok _, ⟨_, rfl⟩, q⟩ (.of_left (intBits_le_64 q1 q2))

/-! ### comparisons -/
def PC (X : Cx) (op : CmpOp) (a b : Expr) (t : TE) : Prop :=
  ∀ (pins : List (Addr × Obj)) (s : Shared) (σ : St) (H : Hp) (Q : VK), Inv X pins σ H s → t σ H Q →
    wpAny (model X.prog X.w) X.A (eval a X.env) (fun v s₁ => wpAny (model X.prog X.w) X.A (eval b X.env) (fun u s₂ => wpAny (model X.prog X.w) X.A (compareOp op v u) (EP X pins σ Q) X.xe s₂) X.xe s₁) X.xe s
theorem nobehind (b : Expr) {op : CmpOp} (h : op ≠ .In) (h2 : op ≠ .NotIn) : behindInMarks op b = false := by
  have e1 : (op == CmpOp.In) = false := by cases op <;> first | rfl | exact absurd rfl h
  have e2 : (op == CmpOp.NotIn) = false := by cases op <;> first | rfl | exact absurd rfl h2
  cases b <;> simp [behindInMarks, e1, e2]
def tCmp (p : Int → Int → Bool) (ta tb : TE) : TE := fun σ H Q => t2I ta tb (fun i j H2 => Q (.bl (p i j)) H2) σ H
abbrev tLt : TE → TE → TE := tCmp fun i j => decide (i < j)
abbrev tLe : TE → TE → TE := tCmp fun i j => decide (i ≤ j)
abbrev tGt : TE → TE → TE := tCmp fun i j => decide (j < i)
abbrev tGe : TE → TE → TE := tCmp fun i j => decide (j ≤ i)
abbrev tEqI : TE → TE → TE := tCmp fun i j => decide (i = j)
abbrev tNeI : TE → TE → TE := tCmp fun i j => !decide (i = j)
/-- a comparison of two ints, by its rule -/
theorem pc_int {op : CmpOp} {p : Int → Int → Bool} (ha : PE X a ta) (hb : PE X b tb)
    (rule : ∀ (i j : Int) (t u : Tok) (Q : Value → Shared → Prop) (s : Shared), Q (.bool (p i j)) s → wpAny (model X.prog X.w) X.A (compareOp op (.int i t) (.int j u)) Q X.xe s) : PC X op a b (tCmp p ta tb) := by
  intro pins s σ H Q I h
  refine bin ha hb I h fun v u s2 x y H2 I2 rx ry q => ?_
  obtain ⟨i, j, rfl, rfl, q⟩ := q
  obtain ⟨t, rfl⟩ := rx
  obtain ⟨t', rfl⟩ := ry
  exact rule i j t t' _ s2 ⟨.bl _, H2, I2, rfl, q⟩
theorem pc_lt (ha : PE X a ta) (hb : PE X b tb) : PC X .Lt a b (tLt ta tb) := pc_int ha hb fun _ _ _ _ _ _ h => lt_int h
theorem pc_le (ha : PE X a ta) (hb : PE X b tb) : PC X .LtE a b (tLe ta tb) := pc_int ha hb fun _ _ _ _ _ _ h => le_int h
theorem pc_gt (ha : PE X a ta) (hb : PE X b tb) : PC X .Gt a b (tGt ta tb) := pc_int ha hb fun _ _ _ _ _ _ h => gt_int h
theorem pc_ge (ha : PE X a ta) (hb : PE X b tb) : PC X .GtE a b (tGe ta tb) := pc_int ha hb fun _ _ _ _ _ _ h => ge_int h
theorem pc_eqI (ha : PE X a ta) (hb : PE X b tb) : PC X .Eq a b (tEqI ta tb) := pc_int ha hb fun _ _ _ _ _ _ h => eq_int (by rw [Bool.beq_eq_decide_eq]; exact h)
theorem pc_neI (ha : PE X a ta) (hb : PE X b tb) : PC X .NotEq a b (tNeI ta tb) := pc_int ha hb fun _ _ _ _ _ _ h => ne_int (by rw [bne, Bool.beq_eq_decide_eq]; exact h)
/-- is None -/
def tIsN (ta : TE) : TE := fun σ H Q => ta σ H fun x H1 => Q (.bl (decide (x = .non))) H1
def tNotN (ta : TE) : TE := fun σ H Q => ta σ H fun x H1 => Q (.bl (!decide (x = .non))) H1
theorem RelV.none_iff {x : V} {v : Value} (r : RelV x v) : (v == Value.none) = decide (x = .non) := by
  cases x with
  | non => cases r; rfl
  | bl _ => cases r; rfl
  | int _ => obtain ⟨t, rfl⟩ := r; rfl
  | str _ => obtain ⟨t, rfl⟩ := r; rfl
  | byt _ => obtain ⟨t, rfl⟩ := r; rfl
  | flt _ => obtain ⟨t, rfl⟩ := r; rfl
  | ref _ => cases r; rfl
  | ty _ => cases r; rfl
theorem pc_isN {j pos'} (ha : PE X a ta) : PC X .Is a (.Constant .none j pos') (tIsN ta) := by
  intro pins s σ H Q I h
  refine thn (ha pins s σ H _ I h) fun v s1 ⟨x, H1, I1, r1, q1⟩ => ?_
  exact Constant_none (is_none_gen ⟨.bl _, H1, I1, by rw [r1.none_iff]; rfl, q1⟩)
theorem pc_notN {j pos'} (ha : PE X a ta) : PC X .IsNot a (.Constant .none j pos') (tNotN ta) := by
  intro pins s σ H Q I h
  refine thn (ha pins s σ H _ I h) fun v s1 ⟨x, H1, I1, r1, q1⟩ => ?_
  exact Constant_none (isnot_none_gen ⟨.bl _, H1, I1, by rw [r1.none_iff]; rfl, q1⟩)
/-- a comparison as a value, as a test -/
def tB (t : TE) : TT := fun σ H Q => t σ H fun x H1 => ∃ c, x = .bl c ∧ Q c H1
theorem pe_cmp {op : CmpOp} {t : TE} (h : PC X op a b t) (h1 : behindInMarks op b = false := by first | exact nobehind _ (by decide) (by decide) | rfl) : PE X (.Compare a [op] [b] pos) t := fun pins s σ H Q I hw => wpAny_Compare1 (h pins s σ H Q I hw) h1
theorem pt_cmp {op : CmpOp} {t : TE} (h : PC X op a b t) (h1 : behindInMarks op b = false := by first | exact nobehind _ (by decide) (by decide) | rfl) : PT X (.Compare a [op] [b] pos) (tB t) := by
  intro pins s σ H Q I hw
  refine wpAny_isTrue_Compare1 (thn (h pins s σ H _ I hw) fun v s1 h1 => thn h1 fun u s2 h2 => thn h2 fun c s3 ⟨x, H1, I1, r1, q1⟩ => ?_) h1
  obtain ⟨d, rfl, q⟩ := q1
  cases r1
  exact wpAny_truthy_bool ⟨H1, I1, q⟩
/-- an expression whose value is a bool, as a test -/
theorem pt_val {e : Expr} {t : TE} (h : PE X e t) (he : ∀ whole, isTrue e X.env whole = (do let v ← whole; standAt e.pos; holding [v] (truthy v)) := by intro _; rfl) : PT X e (tB t) := by
  intro pins s σ H Q I hw
  refine isTrue_plain (thn (h pins s σ H _ I hw) fun v s1 ⟨x, H1, I1, r1, q1⟩ => ?_) (he _)
  obtain ⟨d, rfl, q⟩ := q1
  cases r1
  exact wpAny_truthy_bool ⟨H1, I1, q⟩

/-! ### and, or, not -/
variable {tA tB' : TT} {rest : List Expr}
def tAnd (t u : TT) : TT := fun σ H Q => t σ H fun c H1 => if c = true then u σ H1 Q else Q false H1
def tOr (t u : TT) : TT := fun σ H Q => t σ H fun c H1 => if c = true then Q true H1 else u σ H1 Q
def tNot (t : TT) : TT := fun σ H Q => t σ H fun c H1 => Q (!c) H1
theorem pw_and1 (ha : PT X a tA) : PW X (.BoolOp .And [a] pos) tA := by
  intro wh pins s σ H Q I h
  refine isTrue_and (thn (ha pins s σ H Q I h) fun c s1 e => ?_)
  cases c with
  | true => exact isTrue_and_nil e
  | false => exact e
theorem pw_or1 (ha : PT X a tA) : PW X (.BoolOp .Or [a] pos) tA := by
  intro wh pins s σ H Q I h
  refine isTrue_or (thn (ha pins s σ H Q I h) fun c s1 e => ?_)
  cases c with
  | false => exact isTrue_or_nil e
  | true => exact e
theorem pw_and (ha : PT X a tA) (hb : PW X (.BoolOp .And (b :: rest) pos) tB') : PW X (.BoolOp .And (a :: b :: rest) pos) (tAnd tA tB') := by
  intro wh pins s σ H Q I h
  refine isTrue_and (thn (ha pins s σ H _ I h) fun c s1 ⟨H1, I1, q1⟩ => ?_)
  cases c with
  | true => exact hb wh pins s1 σ H1 Q I1 q1
  | false => exact ⟨H1, I1, q1⟩
theorem pw_or (ha : PT X a tA) (hb : PW X (.BoolOp .Or (b :: rest) pos) tB') : PW X (.BoolOp .Or (a :: b :: rest) pos) (tOr tA tB') := by
  intro wh pins s σ H Q I h
  refine isTrue_or (thn (ha pins s σ H _ I h) fun c s1 ⟨H1, I1, q1⟩ => ?_)
  cases c with
  | true => exact ⟨H1, I1, q1⟩
  | false => exact hb wh pins s1 σ H1 Q I1 q1
theorem pt_not (ha : PT X a tA) : PT X (.UnaryOp .Not a pos) (tNot tA) := by
  intro pins s σ H Q I h
  exact isTrue_not (ha pins s σ H (fun c H1 => Q (!c) H1) I h)
/-- .. as values (bools) -/
def tAndV (ta tb : TE) : TE := fun σ H Q => ta σ H fun x H1 => ∃ c, x = .bl c ∧ if c = true then tb σ H1 Q else Q (.bl false) H1
def tOrV (ta tb : TE) : TE := fun σ H Q => ta σ H fun x H1 => ∃ c, x = .bl c ∧ if c = true then Q (.bl true) H1 else tb σ H1 Q
def tNotV (ta : TE) : TE := fun σ H Q => ta σ H fun x H1 => ∃ c, x = .bl c ∧ Q (.bl (!c)) H1
theorem pe_one {op} {t : TE} (h : PE X a t) : PE X (.BoolOp op [a] pos) t := fun pins s σ H Q I hw => BoolOp_one (h pins s σ H Q I hw)
theorem pe_and (ha : PE X a ta) (hb : PE X (.BoolOp .And (b :: rest) pos) tb) : PE X (.BoolOp .And (a :: b :: rest) pos) (tAndV ta tb) := by
  intro pins s σ H Q I h
  refine BoolOp_and (thn (ha pins s σ H _ I h) fun v s1 ⟨x, H1, I1, r1, q1⟩ => ?_)
  obtain ⟨c, rfl, q1⟩ := q1
  cases r1
  refine wpAny_truthy_bool ?_
  cases c with
  | true => exact hb pins s1 σ H1 Q I1 q1
  | false => exact ⟨.bl false, H1, I1, rfl, q1⟩
theorem pe_or (ha : PE X a ta) (hb : PE X (.BoolOp .Or (b :: rest) pos) tb) : PE X (.BoolOp .Or (a :: b :: rest) pos) (tOrV ta tb) := by
  intro pins s σ H Q I h
  refine BoolOp_or (thn (ha pins s σ H _ I h) fun v s1 ⟨x, H1, I1, r1, q1⟩ => ?_)
  obtain ⟨c, rfl, q1⟩ := q1
  cases r1
  refine wpAny_truthy_bool ?_
  cases c with
  | false => exact hb pins s1 σ H1 Q I1 q1
  | true => exact ⟨.bl true, H1, I1, rfl, q1⟩
theorem pe_not (ha : PE X a ta) : PE X (.UnaryOp .Not a pos) (tNotV ta) := by
  intro pins s σ H Q I h
  refine UnaryOp_ (thn (ha pins s σ H _ I h) fun v s1 ⟨x, H1, I1, r1, q1⟩ => ?_)
  obtain ⟨c, rfl, q1⟩ := q1
  cases r1
  exact not_of (wpAny_truthy_bool ⟨.bl (!c), H1, I1, rfl, q1⟩)
/-- a if t else b -/
def tIf (t : TT) (ta tb : TE) : TE := fun σ H Q => t σ H fun c H1 => if c = true then ta σ H1 Q else tb σ H1 Q
theorem pe_ifExp {c : Expr} (hc : PT X c tA) (ha : PE X a ta) (hb : PE X b tb) : PE X (.IfExp c a b pos) (tIf tA ta tb) := by
  intro pins s σ H Q I h
  refine wpAny_IfExp (thn (hc pins s σ H _ I h) fun d s1 ⟨H1, I1, q1⟩ => ?_)
  cases d with
  | true => exact ha pins s1 σ H1 Q I1 q1
  | false => exact hb pins s1 σ H1 Q I1 q1
end
end L2

namespace L2
open PySem PySem.Spec PyProof.Rows

/-! ### a list, a tuple that is read: tracked, frozen, or an object of the module -/
def SqL (K : PySem.W.Frag) (H : Hp) (a : Addr) (xs : List V) : Prop :=
  Rd H a (.lst xs) ∨
    ∃ (o : Obj) (its : Array Value) (n : Nat), K.lookup a = some o ∧ o.cls = .type "list" ∧ o.dict = none ∧ o.data = .seq its n ∧ its.size ≤ sizeLine ∧ Vals xs its.toList
def SqT (K : PySem.W.Frag) (H : Hp) (a : Addr) (xs : List V) : Prop :=
  Rd H a (.tup xs) ∨
    ∃ (o : Obj) (its : Array Value) (n : Nat), K.lookup a = some o ∧ o.cls = .type "tuple" ∧ o.data = .seq its n ∧ its.size ≤ sizeLine ∧ Vals xs its.toList
def absV : Value → Option V
  | .none => some .non
  | .bool b => some (.bl b)
  | .int i _ => some (.int i)
  | .str x _ => some (.str x)
  | .bytes b _ => some (.byt b)
  | .float b _ => some (.flt b)
  | .ref a => some (.ref a)
  | .type n => some (.ty n)
  | _ => none
theorem RelV.abs {x : V} {u : Value} (r : RelV x u) : absV u = some x := by
  cases x with
  | non => cases r; rfl
  | bl _ => cases r; rfl
  | int _ => obtain ⟨t, rfl⟩ := r; rfl
  | str _ => obtain ⟨t, rfl⟩ := r; rfl
  | byt _ => obtain ⟨t, rfl⟩ := r; rfl
  | flt _ => obtain ⟨t, rfl⟩ := r; rfl
  | ref _ => cases r; rfl
  | ty _ => cases r; rfl
theorem RelV.inj {x y : V} {u : Value} (r : RelV x u) (q : RelV y u) : x = y := Option.some.inj (r.abs.symm.trans q.abs)
theorem Vals.inj : ∀ {xs ys : List V} {us : List Value}, Vals xs us → Vals ys us → xs = ys
  | _, _, _, .nil, .nil => rfl
  | _, _, _, .cons r t, .cons r' t' => by rw [r.inj r', Vals.inj t t']
section
variable {X : Cx} {pins : List (Addr × Obj)} {σ : St} {H : Hp} {s : Shared} {a : Addr} {xs ys : List V}
theorem SqL.of {K : PySem.W.Frag} (h : H a = some (.lst xs)) : SqL K H a xs := .inl (.inl h)
theorem SqT.of {K : PySem.W.Frag} (h : H a = some (.tup xs)) : SqT K H a xs := .inl (.inl h)
theorem Inv.list (I : Inv X pins σ H s) (h : SqL X.K H a xs) : ∃ its : List Value, Vals xs its ∧ PlainL s.heap a its.toArray ∧ xs.length ≤ sizeLine := by
  rcases h with h | ⟨o, its, n, hk, hc, hd, hs, hz, r⟩
  · obtain ⟨z, its, n, r, e⟩ := h.ok I.hok
    exact ⟨its, r, ⟨_, n, e, rfl, rfl, rfl⟩, z⟩
  · refine ⟨its.toList, r, ⟨o, n, I.kIn a o hk, hc, hd, by simpa using hs⟩, ?_⟩
    have e := r.length
    simp only [Array.length_toList] at e
    omega
theorem Inv.tuple (I : Inv X pins σ H s) (h : SqT X.K H a xs) : ∃ its : List Value, Vals xs its ∧ IsTup s.heap a its.toArray ∧ xs.length ≤ sizeLine := by
  rcases h with h | ⟨o, its, n, hk, hc, hs, hz, r⟩
  · obtain ⟨z, its, r, p⟩ := h.ok I.hok
    exact ⟨its, r, p, z⟩
  · refine ⟨its.toList, r, ⟨o, I.kIn a o hk, hc, n, by simpa using hs⟩, ?_⟩
    have e := r.length
    simp only [Array.length_toList] at e
    omega
theorem Inv.list_inj (I : Inv X pins σ H s) (h : SqL X.K H a xs) (h' : SqL X.K H a ys) : xs = ys := by
  obtain ⟨its, r, ⟨o, n, e, _, _, d⟩, _⟩ := I.list h
  obtain ⟨its', r', ⟨o', n', e', _, _, d'⟩, _⟩ := I.list h'
  rw [e] at e'; cases e'
  rw [d] at d'
  injection d' with d1 _
  have : its = its' := by simpa using congrArg Array.toList d1
  subst this
  exact r.inj r'
theorem Inv.tuple_inj (I : Inv X pins σ H s) (h : SqT X.K H a xs) (h' : SqT X.K H a ys) : xs = ys := by
  obtain ⟨its, r, ⟨o, e, _, n, d⟩, _⟩ := I.tuple h
  obtain ⟨its', r', ⟨o', e', _, n', d'⟩, _⟩ := I.tuple h'
  rw [e] at e'; cases e'
  rw [d] at d'
  injection d' with d1 _
  have : its = its' := by simpa using congrArg Array.toList d1
  subst this
  exact r.inj r'
end

/-! ### another wish about exceptions -/
abbrev Cx.wish (X : Cx) (E : Value → Shared → Prop) : Cx := { X with xe := E }
/-- no exception leaves -/
abbrev Cx.nox (X : Cx) : Cx := X.wish fun _ _ => False
theorem Cx.Ok.wish {X : Cx} (ok : X.Ok) (E : Value → Shared → Prop) : (X.wish E).Ok :=
  ⟨ok.mod, ok.kind, ok.glob, ok.blt, ok.above, ok.inj, ok.has, ok.cab, ok.hd, ok.frames, ok.stk, ok.exf, ok.bs, ok.bsz, ok.noex, ok.exfs, ok.funs, ok.frf⟩
theorem Cx.Ok.unwish {X : Cx} {E : Value → Shared → Prop} (ok : (X.wish E).Ok) : X.Ok :=
  ⟨ok.mod, ok.kind, ok.glob, ok.blt, ok.above, ok.inj, ok.has, ok.cab, ok.hd, ok.frames, ok.stk, ok.exf, ok.bs, ok.bsz, ok.noex, ok.exfs, ok.funs, ok.frf⟩
section
variable {X : Cx} {pins : List (Addr × Obj)} {σ : St} {H : Hp} {s : Shared} {E : Value → Shared → Prop}
theorem Inv.wish (I : Inv X pins σ H s) (E : Value → Shared → Prop) : Inv (X.wish E) pins σ H s := ⟨I.ok.wish E, I.os, I.bare, I.base, I.loc, I.cell, I.free, I.freeC, I.pin, I.hok, I.len⟩
theorem Inv.unwish (I : Inv (X.wish E) pins σ H s) : Inv X pins σ H s := ⟨I.ok.unwish, I.os, I.bare, I.base, I.loc, I.cell, I.free, I.freeC, I.pin, I.hok, I.len⟩
theorem SP.unwish {D : Ends} {f : Flow} {s' : Shared} (h : SP (X.wish E) pins D f s') : SP X pins D f s' := by
  cases f with
  | next => obtain ⟨σ', H', I, q⟩ := h; exact ⟨σ', H', I.unwish, q⟩
  | brk => obtain ⟨σ', H', I, q⟩ := h; exact ⟨σ', H', I.unwish, q⟩
  | cont => obtain ⟨σ', H', I, q⟩ := h; exact ⟨σ', H', I.unwish, q⟩
  | ret u => obtain ⟨v, σ', H', I, r, q⟩ := h; exact ⟨v, σ', H', I.unwish, r, q⟩
theorem PE.nox {e : Expr} {t : TE} (h : PE X.nox e t) : PE X e t := fun pins s σ H Q I hw =>
  wpAny_mono (h pins s σ H Q (I.wish _) hw) (fun _ _ ⟨v, H', I', r, q⟩ => ⟨v, H', I'.unwish, r, q⟩) fun _ _ z => False.elim z
theorem PT.nox {e : Expr} {t : TT} (h : PT X.nox e t) : PT X e t := fun pins s σ H Q I hw =>
  wpAny_mono (h pins s σ H Q (I.wish _) hw) (fun _ _ ⟨H', I', q⟩ => ⟨H', I'.unwish, q⟩) fun _ _ z => False.elim z
theorem PSs.nox {st : List Stmt} {t : TS} (h : PSs X.nox st t) : PSs X st t := fun pins s σ H D I hw =>
  wpAny_mono (h pins s σ H D (I.wish _) hw) (fun _ _ q => q.unwish) fun _ _ z => False.elim z
end

/-! ### blocks and small statements -/
section
variable {X : Cx} {st : Stmt} {rest : List Stmt} {t u : TS} {e : Expr} {te : TE} {pos : Pos}
def tNext : TS := fun D σ H => D.nx σ H
def tSeq (t u : TS) : TS := fun D σ H => t { D with nx := u D } σ H
theorem pss_nil : PSs X [] tNext := fun _ _ σ H _ I h => wpAny_execs_nil ⟨σ, H, I, h⟩
theorem pss_cons (h1 : PS X st t) (h2 : PSs X rest u) : PSs X (st :: rest) (tSeq t u) := by
  intro pins s σ H D I h
  refine wpAny_execs_cons (thn (h1 pins s σ H { D with nx := u D } I h) fun f s1 q => ?_)
  cases f with
  | next =>
    obtain ⟨σ', H', I', q⟩ := q
    exact h2 pins s1 σ' H' D I' q
  | ret v => exact q
  | brk => exact q
  | cont => exact q
theorem pss_one (h1 : PS X st t) : PSs X [st] t := by
  intro pins s σ H D I h
  refine wpAny_execs_cons (thn (h1 pins s σ H D I h) fun f s1 q => ?_)
  cases f with
  | next => exact wpAny_execs_nil q
  | ret v => exact q
  | brk => exact q
  | cont => exact q
def tBreak : TS := fun D σ H => D.bk σ H
def tCont : TS := fun D σ H => D.ct σ H
theorem ps_pass : PS X (.Pass pos) tNext := fun _ _ σ H _ I h => wpAny_Pass ⟨σ, H, I, h⟩
theorem ps_break : PS X (.Break pos) tBreak := fun _ _ σ H _ I h => wpAny_Break ⟨σ, H, I, h⟩
theorem ps_continue : PS X (.Continue pos) tCont := fun _ _ σ H _ I h => wpAny_Continue ⟨σ, H, I, h⟩
/-- in a def's body nothing is shown -/
theorem Inv.quiet {pins : List (Addr × Obj)} {σ : St} {H : Hp} {s : Shared} (I : Inv X pins σ H s) : interactive X.env = false := by simp [interactive, I.ok.kind]
/-- a docstring -/
theorem ps_doc {x j pos pos'} : PS X (.Expr (.Constant (.str x) j pos) pos') tNext := fun _ s σ H _ I h => wpAny_Expr (Calls.Constant_str (show SP X _ _ .next { s with toks := s.toks + 1 } from ⟨σ, H, I.tok _, h⟩)) I.quiet
/-- an expression whose value is dropped -/
def tDrop (te : TE) : TS := fun D σ H => te σ H fun _ H1 => D.nx σ H1
theorem ps_expr (he : PE X e te) (hs : swapsWith e none pos.line X.env = pure false := by rfl) : PS X (.Expr e pos) (tDrop te) := by
  intro pins s σ H D I h
  exact wpAny_Expr_any (thn (he pins s σ H _ I h) fun v s1 ⟨x, H1, I1, r1, q1⟩ => ⟨σ, H1, I1, q1⟩) I.quiet hs
def tRet (te : TE) : TS := fun D σ H => te σ H D.rt
theorem ps_ret (he : PE X e te) : PS X (.Return (some e) pos) (tRet te) := by
  intro pins s σ H D I h
  exact wpAny_Return_some (thn (he pins s σ H _ I h) fun v s1 ⟨x, H1, I1, r1, q1⟩ => ⟨x, σ, H1, I1, r1, q1⟩)
def tRetN : TS := fun D _ H => D.rt .non H
theorem ps_retN : PS X (.Return none pos) tRetN := fun _ _ σ H _ I h => wpAny_Return_none ⟨.non, σ, H, I, rfl, h⟩
def tIfS (c : TT) (t u : TS) : TS := fun D σ H => c σ H fun b H1 => if b = true then t D σ H1 else u D σ H1
theorem ps_if {c : Expr} {a b : List Stmt} {tc : TT} (hc : PT X c tc) (ha : PSs X a t) (hb : PSs X b u) : PS X (.If c a b pos) (tIfS tc t u) := by
  intro pins s σ H D I h
  refine wpAny_If (thn (hc pins s σ H _ I h) fun d s1 ⟨H1, I1, q1⟩ => ?_)
  cases d with
  | true => exact ha pins s1 σ H1 D I1 q1
  | false => exact hb pins s1 σ H1 D I1 q1
/-- code that the proof never comes to -/
def tNever : TS := fun _ _ _ => False
theorem ps_never : PS X st tNever := fun _ _ _ _ _ _ h => h.elim
theorem pss_never {sts : List Stmt} : PSs X sts tNever := fun _ _ _ _ _ _ h => h.elim
end

/-! ### targets -/
abbrev TG := V → St → Hp → (St → Hp → Prop) → Prop
abbrev TGs := List V → St → Hp → (St → Hp → Prop) → Prop
def PG (X : Cx) (target : Expr) (t : TG) : Prop :=
  ∀ (pins : List (Addr × Obj)) (s : Shared) (σ : St) (H : Hp) (v : V) (u : Value) (Q : St → Hp → Prop), Inv X pins σ H s → RelV v u → t v σ H Q →
    wpAny (model X.prog X.w) X.A (assign target X.env u) (fun _ s' => ∃ σ' H', Inv X pins σ' H' s' ∧ Q σ' H') X.xe s
/-- several targets, one after another -/
def PGs (X : Cx) (ts : List Expr) (t : TGs) : Prop :=
  ∀ (pins : List (Addr × Obj)) (s : Shared) (σ : St) (H : Hp) (vs : List V) (us : List Value) (Q : St → Hp → Prop), Inv X pins σ H s → Vals vs us → t vs σ H Q →
    wpAny (model X.prog X.w) X.A (assignInOrder ((assignEach ts X.env).map (·.2)) us) (fun _ s' => ∃ σ' H', Inv X pins σ' H' s' ∧ Q σ' H') X.xe s
/-- o[i] = v, by values -/
abbrev TSet := V → V → V → Hp → (Hp → Prop) → Prop
def PSet (X : Cx) (t : TSet) : Prop :=
  ∀ (pins : List (Addr × Obj)) (s : Shared) (σ : St) (H : Hp) (o i v : V) (ov iv u : Value) (Q : Hp → Prop), Inv X pins σ H s → RelV o ov → RelV i iv → RelV v u → t o i v H Q →
    wpAny (model X.prog X.w) X.A (setItem ov iv u) (fun _ s' => ∃ H', Inv X pins σ H' s' ∧ Q H') X.xe s
/-- a op= b, by values -/
abbrev TIp := V → V → Hp → VK → Prop
def PIp (X : Cx) (op : Operator) (t : TIp) : Prop :=
  ∀ (pins : List (Addr × Obj)) (s : Shared) (σ : St) (H : Hp) (x y : V) (v u : Value) (Q : VK), Inv X pins σ H s → RelV x v → RelV y u → t x y H Q →
    wpAny (model X.prog X.w) X.A (inplaceOp op v u) (EP X pins σ Q) X.xe s
section
variable {X : Cx} {pos : Pos}
def gName (i : Nat) : TG := fun v σ H Q => Q (σ.set i (some v)) H
theorem pg_name {i : Nat} {x : Str} (hN : X.N.Nodup) (hi : X.N[i]? = some x) (hx : Loc X.env.scope x) (hf : X.fn x = true ∨ X.env.scope.names.lookup x = some .local := by first | exact .inl rfl | exact .inr rfl | assumption) : PG X (.Name x pos) (gName i) := by
  intro pins s σ H v u Q I r h
  exact wpAny_assign_Name (store_ok I hN hi hx r (fun s' I' => ⟨_, H, I', h⟩) hf)
def gNil : TGs := fun vs σ H Q => vs = [] ∧ Q σ H
def gCons (t : TG) (u : TGs) : TGs := fun vs σ H Q => ∃ v r, vs = v :: r ∧ t v σ H fun σ' H' => u r σ' H' Q
theorem pgs_nil : PGs X [] gNil := by
  intro pins s σ H vs us Q I r h
  obtain ⟨e, h⟩ := h
  subst e
  cases r
  exact assignInOrder_nil ⟨σ, H, I, h⟩
theorem pgs_cons {e : Expr} {es : List Expr} {t : TG} {u : TGs} (h1 : PG X e t) (h2 : PGs X es u)
    (hs : (assignEach (e :: es) X.env).map (·.2) = assign e X.env :: (assignEach es X.env).map (·.2) := by rfl) : PGs X (e :: es) (gCons t u) := by
  intro pins s σ H vs us Q I r h
  obtain ⟨v, vr, e1, h⟩ := h
  subst e1
  cases r with
  | cons r rr =>
    rw [hs]
    refine assignInOrder_cons (thn (h1 pins s σ H _ _ _ I r h) fun _ s1 ⟨σ1, H1, I1, q1⟩ => ?_)
    exact h2 pins s1 σ1 H1 _ _ Q I1 rr q1
/-- (a, b, ..) = a tuple of that length -/
def gTup (K : PySem.W.Frag) (n : Nat) (t : TGs) : TG := fun v σ H Q => ∃ a xs, v = .ref a ∧ SqT K H a xs ∧ xs.length = n ∧ t xs σ H Q
theorem pg_tup {es : List Expr} {k : Nat} {t : TGs} {n : Nat} (hc : X.calm = true) (h : PGs X es t)
    (hn : (assignEach es X.env).length = n := by rfl) (hst : (assignEach es X.env).findIdx? (·.1) = none := by rfl) : PG X (.Tuple es k pos) (gTup X.K n t) := by
  intro pins s σ H v u Q I r hw
  obtain ⟨a, xs, e1, hq, hl, hw⟩ := hw
  subst e1
  cases r
  obtain ⟨its, rv, ht, hz⟩ := I.tuple hq
  refine assign_Tuple_tuple (I.ok.hd hc) ht (by simp [hn, ← hl, rv.length]) hst fun h' hx => ?_
  have I1 : Inv X pins σ H { s with heap := h' } := I.kept (t' := s.toks) fun b o e => hx b o (Nat.ne_of_lt (Heap.lt_size e)) e
  exact h pins _ σ H xs _ Q I1 (by simpa using rv) hw
/-- o[i] = .. -/
def gSub (to ti : TE) (t : TSet) : TG := fun v σ H Q => to σ H fun o H1 => ti σ H1 fun i H2 => t o i v H2 fun H3 => Q σ H3
theorem pg_sub {o i : Expr} {to ti : TE} {t : TSet} (ho : PE X o to) (hi : PE X i ti) (hs : PSet X t)
    (ha : ∀ v, assign (.Subscript o i pos) X.env v = (do
      let ov ← holding [v] (eval o X.env)
      let iv ← holding [v, ov] (eval i X.env)
      standAt pos
      holding [v, ov, iv] (setItem ov iv v)
      release [v, ov, iv] []) := by intro _; rfl) : PG X (.Subscript o i pos) (gSub to ti t) := by
  intro pins s σ H v u Q I r h
  rw [ha]
  refine wpAny_bind (wpAny_holding (thn (ho pins s σ H _ I h) fun ov s1 ⟨x, H1, I1, r1, q1⟩ => ?_))
  refine wpAny_bind (wpAny_holding (thn (hi pins s1 σ H1 _ I1 q1) fun iv s2 ⟨y, H2, I2, r2, q2⟩ => ?_))
  refine wpAny_bind (wpAny_standAt (wpAny_bind (wpAny_holding (thn (hs pins s2 σ H2 x y v ov iv u _ I2 r1 r2 r q2) fun _ s3 ⟨H3, I3, q3⟩ => ?_))))
  exact wpAny_release ⟨σ, H3, I3, q3⟩
/-- target = value -/
def tAsg (te : TE) (g : TG) : TS := fun D σ H => te σ H fun x H1 => g x σ H1 D.nx
theorem ps_asg {tg e : Expr} {te : TE} {g : TG} (he : PE X e te) (hg : PG X tg g) (hs : swapsWithSole [tg] e pos.line X.env = pure false := by rfl) (hw : swappedStores [tg] e X.env = pure none := by rfl)
    (h1 : (assignEach [tg] X.env).map (·.2) = [assign tg X.env] := by rfl) : PS X (.Assign [tg] e pos) (tAsg te g) := by
  intro pins s σ H D I h
  refine wpAny_Assign_stores (thn (he pins s σ H _ I h) fun v s1 ⟨x, H1, I1, r1, q1⟩ => ?_) hs hw
  rw [h1]
  exact thn (hg pins s1 σ H1 x v _ I1 r1 q1) fun _ s2 q => q
/-- name = value -/
theorem ps_set {i : Nat} {x : Str} {e : Expr} {te : TE} {pos' : Pos} (hN : X.N.Nodup) (hi : X.N[i]? = some x) (hx : Loc X.env.scope x) (he : PE X e te) (hs : swapsWith e (some (.Name x pos')) pos.line X.env = pure false := by rfl) (hf : X.fn x = true ∨ X.env.scope.names.lookup x = some .local := by first | exact .inl rfl | exact .inr rfl | assumption) :
    PS X (.Assign [.Name x pos'] e pos) (tAsg te (gName i)) := by
  intro pins s σ H D I h
  refine wpAny_Assign_Name (thn (he pins s σ H _ I h) fun v s1 ⟨y, H1, I1, r1, q1⟩ => ?_) hs
  exact store_ok I1 hN hi hx r1 (fun s2 I2 => ⟨_, H1, I2, q1⟩) hf
/-- a, b = x, y with plain local names: stored from the right; the pair itself is not tracked (the opening rows as in PyProof/Rows/TupAssign.lean:23) -/
def tPar (i j : Nat) (ta : TA) : TS := fun D σ H => ta σ H fun vs H1 => ∃ v w, vs = [v, w] ∧ D.nx ((σ.set i (some v)).set j (some w)) H1
theorem ps_par {i j : Nat} {x y : Str} {a b : Expr} {ta : TA} {px py pt : Pos} {kt k2 pt2} (hc : X.calm = true) (hN : X.N.Nodup) (hi : X.N[i]? = some x) (hj : X.N[j]? = some y) (hij : i ≠ j)
    (hx : X.env.scope.names.lookup x = some .local) (hy : X.env.scope.names.lookup y = some .local) (ha : PA X [a, b] ta)
    (hw : swappedStores [.Tuple [.Name x px, .Name y py] kt pt] (.Tuple [a, b] k2 pt2) X.env = pure (some [x, y]))
    (hs : swapsWithSole [.Tuple [.Name x px, .Name y py] kt pt] (.Tuple [a, b] k2 pt2) pos.line X.env = pure false := by rfl) :
    PS X (.Assign [.Tuple [.Name x px, .Name y py] kt pt] (.Tuple [a, b] k2 pt2) pos) (tPar i j ta) := by
  intro pins s σ H D I h
  rw [exec_Assign_arm]
  refine wpAny_bind (wpAny_standAt ?_)
  rw [hs]
  refine wpAny_bind (wpAny_pure ?_)
  rw [if_neg (by decide)]
  refine wpAny_bind (Tuple_ (thn (ha _ pins s σ H _ I h) fun us s1 ⟨vs, H1, I1, r1, q1⟩ => ?_))
  obtain ⟨v, w, e1, q1⟩ := q1
  subst e1
  obtain ⟨u1, u2, rfl, rv, rw'⟩ : ∃ u1 u2, us = [u1, u2] ∧ RelV v u1 ∧ RelV w u2 := by
    cases r1 with
    | cons p q =>
      cases q with
      | cons p' q' =>
        cases q'
        exact ⟨_, _, rfl, p, p'⟩
  refine wpAny_newObj_type ?_ (by show 2 ≤ sizeLine; decide)
  have I2 : Inv X pins σ H1 { s1 with heap := s1.heap.push { cls := .type "tuple", data := .seq [u1, u2].toArray } } := I1.kept (t' := s1.toks) fun b o e => Heap.get?_push_of_some _ e
  rw [hw]
  refine wpAny_bind (wpAny_pure ?_)
  show wpAny (model X.prog X.w) X.A (do rule "assign.swapped-stores"; let items ← unpackItems (.ref s1.heap.objs.size) 2 none; assignInOrder [fun v => bindName X.env y v, fun v => bindName X.env x v] items.reverse; pure Flow.next) _ _ _
  refine wpAny_bind (wpAny_rule (wpAny_bind (unpackItems_tuple (items := #[u1, u2]) (I.ok.hd hc) (IsTup.new s1.heap _) fun h' hx' => ?_)))
  have I3 := I2.kept (h' := h') (t' := s1.toks) fun b o e => hx' b o (Nat.ne_of_lt (Heap.lt_size e)) e
  show wpAny _ _ (assignInOrder [fun v => bindName X.env y v, fun v => bindName X.env x v] [u2, u1] >>= fun _ => pure Flow.next) _ _ _
  refine wpAny_bind (assignInOrder_cons (wpAny_bindName (store_ok I3 hN hj (.inl hy) rw' (fun s2 I4 => ?_) (.inr hy))))
  refine assignInOrder_cons (wpAny_bindName (store_ok I4 hN hi (.inl hx) rv (fun s3 I5 => assignInOrder_nil (wpAny_pure ?_)) (.inr hx)))
  rw [List.set_comm _ _ (Ne.symm hij)] at I5
  exact ⟨_, H1, I5, q1⟩
/-- name op= e -/
def tAug (i : Nat) (te : TE) (ti : TIp) : TS := fun D σ H => ∃ x, σ[i]? = some (some x) ∧ te σ H fun y H1 => ti x y H1 fun z H2 => D.nx (σ.set i (some z)) H2
theorem ps_aug {i : Nat} {x : Str} {e : Expr} {te : TE} {op : Operator} {ti : TIp} {pos' : Pos} (hN : X.N.Nodup) (hi : X.N[i]? = some x) (hx : Loc X.env.scope x) (he : PE X e te) (ho : PIp X op ti) (hf : X.fn x = true ∨ X.env.scope.names.lookup x = some .local := by first | exact .inl rfl | exact .inr rfl | assumption) :
    PS X (.AugAssign (.Name x pos') op e pos) (tAug i te ti) := by
  intro pins s σ H D I h
  obtain ⟨v, e1, h⟩ := h
  obtain ⟨m, hn, hl⟩ := I.loc
  have vis : Vis X.env.scope x := by rcases hx with k | k; exact .inl k; exact .inr (.inl k)
  obtain ⟨u, r, l⟩ := hl i x v hi e1 vis
  refine wpAny_AugAssign_Name ?_
  have go : wpAny (model X.prog X.w) X.A (eval e X.env) (fun w s₂ => wpAny (model X.prog X.w) X.A (inplaceOp op u w) (fun r s₃ => wpAny (model X.prog X.w) X.A (storeName X.env x r) (fun _ => SP X pins D .next) X.xe s₃) X.xe s₂) X.xe s := by
    refine thn (he pins s σ H _ I h) fun w s1 ⟨y, H1, I1, r1, q1⟩ => ?_
    refine thn (ho pins s1 σ H1 v y u w _ I1 r r1 q1) fun z s2 ⟨zv, H2, I2, r2, q2⟩ => ?_
    exact store_ok I2 hN hi hx r2 (fun s3 I3 => ⟨_, H2, I3, q2⟩) hf
  rcases l with ⟨hk, hm⟩ | ⟨hk, c, hc, hcell⟩
  · exact wpAny_loadName_local I.ok.kind hk hn hm go
  · rcases hk with hk | hk
    · exact wpAny_loadName_cell I.ok.kind hk hc hcell go
    · rcases hx with k | k
      · have : X.env.scope.names.lookup x = some .free := hk
        rw [k] at this; cases this
      · have : X.env.scope.names.lookup x = some .free := hk
        rw [k] at this; cases this
/-- o[i] op= e -/
def tAugS (to ti te : TE) (tget : V → V → Hp → VK → Prop) (tip : TIp) (tset : TSet) : TS := fun D σ H => to σ H fun o H1 => ti σ H1 fun i H2 => tget o i H2 fun x H3 => te σ H3 fun y H4 => tip x y H4 fun z H5 => tset o i z H5 fun H6 => D.nx σ H6
/-- o[i], by values -/
def PGet (X : Cx) (t : V → V → Hp → VK → Prop) : Prop :=
  ∀ (pins : List (Addr × Obj)) (s : Shared) (σ : St) (H : Hp) (o i : V) (ov iv : Value) (Q : VK), Inv X pins σ H s → RelV o ov → RelV i iv → t o i H Q →
    wpAny (model X.prog X.w) X.A (getItem ov iv) (EP X pins σ Q) X.xe s
theorem ps_augS {o i e : Expr} {to ti te : TE} {tget : V → V → Hp → VK → Prop} {tip : TIp} {tset : TSet} {op : Operator} {tpos : Pos} (ho : PE X o to) (hi : PE X i ti) (hg : PGet X tget) (he : PE X e te) (hp : PIp X op tip) (hs : PSet X tset)
    (ha : ∀ ov iv new, augStore i ov iv new = (do holding [new, ov, iv] (setItem ov iv new); release [new, ov, iv] []; pure .next) := by intros; rfl) : PS X (.AugAssign (.Subscript o i tpos) op e pos) (tAugS to ti te tget tip tset) := by
  intro pins s σ H D I h
  refine wpAny_AugAssign_SubscriptAny (thn (ho pins s σ H _ I h) fun ov s1 ⟨x1, H1, I1, r1, q1⟩ => ?_) ha
  refine thn (hi pins s1 σ H1 _ I1 q1) fun iv s2 ⟨x2, H2, I2, r2, q2⟩ => ?_
  refine thn (hg pins s2 σ H2 x1 x2 ov iv _ I2 r1 r2 q2) fun old s3 ⟨x3, H3, I3, r3, q3⟩ => ?_
  refine thn (he pins s3 σ H3 _ I3 q3) fun v s4 ⟨x4, H4, I4, r4, q4⟩ => ?_
  refine thn (hp pins s4 σ H4 x3 x4 old v _ I4 r3 r4 q4) fun new s5 ⟨x5, H5, I5, r5, q5⟩ => ?_
  exact thn (hs pins s5 σ H5 x1 x2 x5 ov iv new _ I5 r1 r2 r5 q5) fun _ s6 ⟨H6, I6, q6⟩ => ⟨σ, H6, I6, q6⟩
/-- ints -/
def ipI (f : Int → Int → Int) : TIp := fun x y H Q => ∃ i j, x = .int i ∧ y = .int j ∧ Q (.int (f i j)) H
theorem ip_add : PIp X .Add (ipI fun i j => i + j) := by
  intro pins s σ H x y v u Q I r1 r2 h
  obtain ⟨i, j, e1, e2, q⟩ := h
  subst e1; subst e2
  obtain ⟨t, rfl⟩ := r1
  obtain ⟨t', rfl⟩ := r2
  exact iadd_int ⟨.int _, H, I.tok _, ⟨_, rfl⟩, q⟩
theorem ip_sub : PIp X .Sub (ipI fun i j => i - j) := by
  intro pins s σ H x y v u Q I r1 r2 h
  obtain ⟨i, j, e1, e2, q⟩ := h
  subst e1; subst e2
  obtain ⟨t, rfl⟩ := r1
  obtain ⟨t', rfl⟩ := r2
  exact isub_int ⟨.int _, H, I.tok _, ⟨_, rfl⟩, q⟩
end

/-! ### while -/
section
variable {X : Cx} {pos : Pos}
/-- the invariant W with its measure -/
def tWhile (c : TT) (tb : TS) : TS := fun D σ H => ∃ W : Nat → St → Hp → Prop, (∃ m, W m σ H) ∧ ∀ m σ H, W m σ H →
  c σ H fun b H1 => if b = true then ∃ N : St → Hp → Prop, (∀ σ' H', N σ' H' → ∃ m', m' < m ∧ W m' σ' H') ∧ tb { D with nx := N, ct := N, bk := D.nx } σ H1 else D.nx σ H1
theorem ps_while {c : Expr} {body : List Stmt} {tc : TT} {tb : TS} (hp : PassesOwn (model X.prog X.w) X.A X.env X.xe) (hc : PT X c tc) (hb : PSs X body tb) : PS X (.While c body [] pos) (tWhile tc tb) := by
  intro pins s σ H D I h
  obtain ⟨W, ⟨m0, w0⟩, turn⟩ := h
  refine wpAny_While (codeAny_whileLoop (fun n s' => ∃ σ' H', Inv X pins σ' H' s' ∧ W n σ' H') ?_ m0 ⟨σ, H, I, w0⟩)
  rintro n s1 ⟨σ1, H1, I1, w1⟩
  refine wpAny_passesOwn hp (thn (hc pins s1 σ1 H1 _ I1 (turn n σ1 H1 w1)) fun b s2 ⟨H2, I2, q2⟩ => ?_)
  cases b with
  | true =>
    obtain ⟨N, hN, q2⟩ := q2
    rw [if_pos rfl]
    refine wpAny_passesOwn hp (thn (hb pins s2 σ1 H2 _ I2 q2) fun f s3 q3 => ?_)
    cases f with
    | next =>
      obtain ⟨σ3, H3, I3, n3⟩ := q3
      obtain ⟨m', hm, w3⟩ := hN σ3 H3 n3
      exact ⟨m', hm, σ3, H3, I3, w3⟩
    | cont =>
      obtain ⟨σ3, H3, I3, n3⟩ := q3
      obtain ⟨m', hm, w3⟩ := hN σ3 H3 n3
      exact ⟨m', hm, σ3, H3, I3, w3⟩
    | brk => exact q3
    | ret v => exact q3
  | false =>
    rw [if_neg Bool.false_ne_true]
    exact wpAny_execs_nil ⟨σ1, H2, I2, q2⟩
end

/-! ### what a loop or a comprehension walks -/
/-- at turn i: it yields x (the heap may grow), or it stops -/
structure It where
  go : Nat → Hp → Prop
  yld : Nat → Hp → V → Hp → Prop
  stop : Nat → Hp → Prop
/-- the iterator's own objects may turn: they are not the frame's, not pinned, younger than the entry (or a comprehension's own) -/
def FpOk (X : Cx) (pins : List (Addr × Obj)) (H : Hp) (b : Addr) : Prop :=
  H b = none ∧ b ≠ X.env.locals ∧ b ∉ X.fs ∧ (b ∈ X.ex ∨ X.s₀.heap.objs.size ≤ b) ∧ (∀ x c, X.env.cells.lookup x = some c → c ≠ b) ∧ ∀ p ∈ X.pn ++ pins, p.1 ≠ b
theorem Inv.fpOk {X : Cx} {pins : List (Addr × Obj)} {σ : St} {H H' : Hp} {s : Shared} {b : Addr} (I : Inv X pins σ H s) (hb : s.heap.objs.size ≤ b) (hn : H' b = none) : FpOk X pins H' b := by
  refine ⟨hn, Nat.ne_of_gt (Nat.lt_of_lt_of_le I.lt hb), I.nofs hb, .inr (Nat.le_trans I.sz hb), fun x c e z => ?_, fun p hp z => ?_⟩
  · obtain ⟨v, q⟩ := I.cell x c e
    exact absurd (Nat.lt_of_lt_of_le q.lt (by rw [z]; exact hb)) (Nat.lt_irrefl _)
  · exact absurd (Nat.lt_of_lt_of_le (Heap.lt_size (I.pin p hp).1) (by rw [z]; exact hb)) (Nat.lt_irrefl _)
structure Turn (P : Program) (w : World) (K : PySem.W.Frag) (tg : Expr) (J : It) (fp : List Addr) (it : Addr) (tn : Nat → Heap → Prop) : Prop where
  mem : it ∈ fp
  obj : ∀ i h, tn i h → ∀ b ∈ fp, ∃ o, h.get? b = some o ∧ ∀ v, o.data ≠ .cell v
  keep : ∀ i h h', tn i h → (∀ b ∈ fp, ∀ o, h.get? b = some o → h'.get? b = some o) → tn i h'
  item : ∀ (X : Cx), X.prog = P → X.w = w → X.K = K → X.calm = true → ∀ (i : Nat) (pins : List (Addr × Obj)) (s : Shared) (σ : St) (H : Hp) (E : Value → Shared → Prop), Inv X pins σ H s → (∀ b ∈ fp, FpOk X pins H b) → tn i s.heap → J.go i H →
    wpAny (model P w) X.A (pyNext (.ref it)) (fun r s1 => ∃ u, r = some u ∧
      wpAny (model P w) X.A (letOwnedTupleGo tg (.ref it) u) (fun _ s2 => ∃ x H', Inv X pins σ H' s2 ∧ RelV x u ∧ J.yld i H x H' ∧ tn (i + 1) s2.heap ∧ ∀ b ∈ fp, H' b = none) E s1) E s
  done : ∀ (X : Cx), X.prog = P → X.w = w → X.K = K → X.calm = true → ∀ (i : Nat) (pins : List (Addr × Obj)) (s : Shared) (σ : St) (H : Hp) (E : Value → Shared → Prop), Inv X pins σ H s → (∀ b ∈ fp, FpOk X pins H b) → tn i s.heap → J.stop i H →
    wpAny (model P w) X.A (pyNext (.ref it)) (fun r s1 => r = none ∧ Inv X pins σ H s1) E s
  self : ∀ (A : Around) (i : Nat) (s : Shared) (Q : Value → Shared → Prop) (E : Value → Shared → Prop), tn i s.heap → Q (.ref it) s → wpAny (model P w) A (pyIter (.ref it)) Q E s
abbrev TI := St → Hp → (It → Hp → Prop) → Prop
/-- an iterator has come -/
def PIE (X : Cx) (pins : List (Addr × Obj)) (σ : St) (tg : Expr) (R : It → Hp → Prop) (itv : Value) (s2 : Shared) : Prop :=
  ∃ (it : Addr) (fp : List Addr) (tn : Nat → Heap → Prop) (J : It) (H' : Hp), itv = .ref it ∧ Inv X pins σ H' s2 ∧ Turn X.prog X.w X.K tg J fp it tn ∧ tn 0 s2.heap ∧ (∀ b ∈ fp, FpOk X pins H' b) ∧ R J H'
def PI (X : Cx) (tg iter : Expr) (wi : TI) : Prop :=
  ∀ (pins : List (Addr × Obj)) (s : Shared) (σ : St) (H : Hp) (R : It → Hp → Prop), Inv X pins σ H s → wi σ H R →
    wpAny (model X.prog X.w) X.A (eval iter X.env) (fun v s1 => wpAny (model X.prog X.w) X.A (pyIter v) (PIE X pins σ tg R) X.xe s1) X.xe s

/-- the step ahead of the store is nothing for an iterator that keeps no tuple -/
theorem go_of {M : Model} {A : Around} {E : Value → Shared → Prop} {s : Shared} {tg : Expr} {it : Addr} {u : Value} {o : Obj} {n : String} {vs : Array Value} {Q : Unit → Shared → Prop} (ho : s.heap.get? it = some o) (hc : o.cls = .type n) (hd : o.data = .fields vs)
    (hn : ["enumerate", "zip", "dict_itemiterator", "dict_reverseitemiterator", "odict_iterator", "itertools.zip_longest", "itertools.pairwise"].contains n = false) (hQ : Q () s) : wpAny M A (letOwnedTupleGo tg (.ref it) u) Q E s := by
  unfold letOwnedTupleGo
  cases tg <;> first
    | exact wpAny_pure hQ
    | (cases u <;> first
        | exact wpAny_pure hQ
        | (refine wpAny_bind (wpAny_load ho ?_)
           rw [hc, hd]
           show wpAny M A (if (["enumerate", "zip", "dict_itemiterator", "dict_reverseitemiterator", "odict_iterator", "itertools.zip_longest", "itertools.pairwise"].contains n && vs[0]? == some (rawInt _)) = true then _ else _) Q E s
           rw [if_neg (by intro h; rw [hn, Bool.false_and] at h; cases h)]
           exact wpAny_pure hQ))

/-- the list at a, as it stands at each turn (a loop may append to it) -/
def Itl (K : PySem.W.Frag) (a : Addr) : It :=
  ⟨fun i H => ∃ xs x, SqL K H a xs ∧ xs[i]? = some x, fun i H x H' => H' = H ∧ ∀ xs, SqL K H a xs → xs[i]? = some x, fun i H => ∃ xs, SqL K H a xs ∧ xs.length ≤ i⟩
def Itt (K : PySem.W.Frag) (a : Addr) : It :=
  ⟨fun i H => ∃ xs x, SqT K H a xs ∧ xs[i]? = some x, fun i H x H' => H' = H ∧ ∀ xs, SqT K H a xs → xs[i]? = some x, fun i H => ∃ xs, SqT K H a xs ∧ xs.length ≤ i⟩
/-- lo, lo + 1, .. (n of them) -/
def Itr (lo : Int) (n : Nat) : It := ⟨fun i _ => i < n, fun i H x H' => H' = H ∧ x = .int (lo + i), fun i _ => n ≤ i⟩
theorem turn_list {P : Program} {w : World} {K : PySem.W.Frag} {tg : Expr} (a it : Addr) : Turn P w K tg (Itl K a) [it] it (fun i h => h.IsListIter it a i) where
  mem := by simp
  obj := fun i h st b hb => by
    have e : b = it := by simpa using hb
    subst e
    obtain ⟨o, e, c, d⟩ := st
    exact ⟨o, e, fun v z => by rw [d] at z; cases z⟩
  keep := fun i h h' st k => st.at fun o e => k it (by simp) o e
  item := by
    intro X hP hw hK hc i pins s σ H E I hf st hg
    subst hP hw hK
    obtain ⟨xs, x, hq, hx⟩ := hg
    obtain ⟨its, rv, p, hz⟩ := I.list hq
    obtain ⟨u, hu, ru⟩ := rv.get hx
    obtain ⟨f0, f1, f2, f3, f4, f5⟩ := hf it (by simp)
    refine wpAny_pyNext_list_item st p.isList (x := u) (by simpa using hu) fun h' st' sb => ?_
    have I1 : Inv X pins σ H { s with heap := h' } := I.turned (t' := s.toks) (fun b o hb e => (sb.2 b hb).trans e) f0 f1 f3 f4 f5
    obtain ⟨o, e, c, d⟩ := id st'
    exact ⟨u, rfl, go_of (s := { s with heap := h' }) e c d (by decide) ⟨x, H, I1, ru, ⟨rfl, fun ys hy => by rw [I.list_inj hy hq]; exact hx⟩, st', fun b hb => (hf b hb).1⟩⟩
  done := by
    intro X hP hw hK hc i pins s σ H E I hf st hg
    subst hP hw hK
    obtain ⟨xs, hq, hx⟩ := hg
    obtain ⟨its, rv, p, hz⟩ := I.list hq
    obtain ⟨f0, f1, f2, f3, f4, f5⟩ := hf it (by simp)
    have hl := rv.length
    exact wpAny_pyNext_list_end (I.ok.hd hc) st p.isList (by simp; omega) fun h' eb => ⟨rfl, I.turned (t' := s.toks) (fun b o hb e => eb b o hb e) f0 f1 f3 f4 f5⟩
  self := fun _ _ _ _ _ st h => wpAny_pyIter_listiter st h
theorem turn_tuple {P : Program} {w : World} {K : PySem.W.Frag} {tg : Expr} (a it : Addr) : Turn P w K tg (Itt K a) [it] it (fun i h => h.IsTupleIter it a i) where
  mem := by simp
  obj := fun i h st b hb => by
    have e : b = it := by simpa using hb
    subst e
    obtain ⟨o, e, c, d⟩ := st
    exact ⟨o, e, fun v z => by rw [d] at z; cases z⟩
  keep := fun i h h' st k => st.at fun o e => k it (by simp) o e
  item := by
    intro X hP hw hK hc i pins s σ H E I hf st hg
    subst hP hw hK
    obtain ⟨xs, x, hq, hx⟩ := hg
    obtain ⟨its, rv, p, hz⟩ := I.tuple hq
    obtain ⟨u, hu, ru⟩ := rv.get hx
    obtain ⟨f0, f1, f2, f3, f4, f5⟩ := hf it (by simp)
    refine wpAny_pyNext_tuple_item st (show s.heap.IsTuple a its.toArray from p) (x := u) (by simpa using hu) fun h' st' sb => ?_
    have I1 : Inv X pins σ H { s with heap := h' } := I.turned (t' := s.toks) (fun b o hb e => (sb.2 b hb).trans e) f0 f1 f3 f4 f5
    obtain ⟨o, e, c, d⟩ := id st'
    exact ⟨u, rfl, go_of (s := { s with heap := h' }) e c d (by decide) ⟨x, H, I1, ru, ⟨rfl, fun ys hy => by rw [I.tuple_inj hy hq]; exact hx⟩, st', fun b hb => (hf b hb).1⟩⟩
  done := by
    intro X hP hw hK hc i pins s σ H E I hf st hg
    subst hP hw hK
    obtain ⟨xs, hq, hx⟩ := hg
    obtain ⟨its, rv, p, hz⟩ := I.tuple hq
    obtain ⟨f0, f1, f2, f3, f4, f5⟩ := hf it (by simp)
    have hl := rv.length
    exact wpAny_pyNext_tuple_end (I.ok.hd hc) st (show s.heap.IsTuple a its.toArray from p) (by simp; omega) fun h' eb => ⟨rfl, I.turned (t' := s.toks) (fun b o hb e => eb b o hb e) f0 f1 f3 f4 f5⟩
  self := fun _ _ _ _ _ st h => wpAny_pyIter_tupleiter st h
theorem turn_range {P : Program} {w : World} {K : PySem.W.Frag} {tg : Expr} (it : Addr) (lo : Int) (n : Nat) : Turn P w K tg (Itr lo n) [it] it (fun i h => IsRangeIter h it (lo + (i : Nat) * 1) ((n : Int) - (i : Nat)) 1) where
  mem := by simp
  obj := fun i h st b hb => by
    have e : b = it := by simpa using hb
    subst e
    exact ⟨_, st, fun v z => by
      have z' : Data.fields _ = Data.cell v := z
      cases z'⟩
  keep := fun i h h' st k => k it (by simp) _ st
  item := by
    intro X hP hw hK hc i pins s σ H E I hf st hg
    subst hP hw hK
    obtain ⟨f0, f1, f2, f3, f4, f5⟩ := hf it (by simp)
    have W := Walks.range (prog := X.prog) (w := X.w) (I.ok.hd hc) it lo 1 n
    refine W.item i s _ _ hg st fun v h' tk hv st' kk => ?_
    obtain ⟨t, rfl⟩ := hv
    have I1 : Inv X pins σ H { s with heap := h', toks := tk } := I.turned (fun b o hb e => kk b o (by simpa using hb) e) f0 f1 f3 f4 f5
    refine ⟨_, rfl, go_of (s := { s with heap := h', toks := tk }) (n := "range_iterator") st' rfl rfl (by decide) ⟨.int (lo + i), H, I1, ⟨t, ?_⟩, ⟨rfl, rfl⟩, st', fun b hb => (hf b hb).1⟩⟩
    rw [Int.mul_one]
  done := by
    intro X hP hw hK hc i pins s σ H E I hf st hg
    subst hP hw hK
    obtain ⟨f0, f1, f2, f3, f4, f5⟩ := hf it (by simp)
    exact wpAny_pyNext_range_end (I.ok.hd hc) st (by have : n ≤ i := hg; omega) fun h' eb => ⟨rfl, I.turned (t' := s.toks) (fun b o hb e => eb b o hb e) f0 f1 f3 f4 f5⟩
  self := fun _ _ _ _ _ st h => wpAny_pyIter_rangeiter st h
end L2

namespace L2
open PySem PySem.Spec PyProof.Rows
section
variable {X : Cx} {tg : Expr}
def iList (K : PySem.W.Frag) (tl : TE) : TI := fun σ H R => tl σ H fun x H1 => ∃ a, x = .ref a ∧ (∃ xs, SqL K H1 a xs) ∧ R (Itl K a) H1
def iTup (K : PySem.W.Frag) (tl : TE) : TI := fun σ H R => tl σ H fun x H1 => ∃ a, x = .ref a ∧ (∃ xs, SqT K H1 a xs) ∧ R (Itt K a) H1
theorem pi_list {l : Expr} {tl : TE} (hl : PE X l tl) : PI X tg l (iList X.K tl) := by
  intro pins s σ H R I h
  refine thn (hl pins s σ H _ I h) fun v s1 ⟨x, H1, I1, r1, q1⟩ => ?_
  obtain ⟨a, e, ⟨xs, hq⟩, q⟩ := q1
  subst e
  cases r1
  obtain ⟨its, rv, p, hz⟩ := I1.list hq
  refine wpAny_pyIter_list p.isList ?_
  refine ⟨s1.heap.objs.size, [s1.heap.objs.size], _, _, H1, rfl, I1.kept (t' := s1.toks) fun b o e => Heap.get?_push_of_some _ e, turn_list a _, ⟨_, Heap.get?_push_size _ rfl, rfl, rfl⟩, fun b hb => ?_, q⟩
  have e : b = s1.heap.objs.size := by simpa using hb
  subst e
  exact I1.fpOk (Nat.le_refl _) (I1.hok.fresh (Nat.le_refl _))
theorem pi_tup {l : Expr} {tl : TE} (hl : PE X l tl) : PI X tg l (iTup X.K tl) := by
  intro pins s σ H R I h
  refine thn (hl pins s σ H _ I h) fun v s1 ⟨x, H1, I1, r1, q1⟩ => ?_
  obtain ⟨a, e, ⟨xs, hq⟩, q⟩ := q1
  subst e
  cases r1
  obtain ⟨its, rv, p, hz⟩ := I1.tuple hq
  refine wpAny_pyIter_tuple (show s1.heap.IsTuple a its.toArray from p) ?_
  refine ⟨s1.heap.objs.size, [s1.heap.objs.size], _, _, H1, rfl, I1.kept (t' := s1.toks) fun b o e => Heap.get?_push_of_some _ e, turn_tuple a _, ⟨_, Heap.get?_push_size _ rfl, rfl, rfl⟩, fun b hb => ?_, q⟩
  have e : b = s1.heap.objs.size := by simpa using hb
  subst e
  exact I1.fpOk (Nat.le_refl _) (I1.hok.fresh (Nat.le_refl _))
/-- a range object just made, walked -/
theorem range_it {pins : List (Addr × Obj)} {σ : St} {H : Hp} {s : Shared} {R : It → Hp → Prop} {E : Value → Shared → Prop} {lo hi : Int} {t u v : Tok} {tk : Nat} (I : Inv X pins σ H s) (h1 : -(2 ^ 62) ≤ lo) (h2 : lo < 2 ^ 62) (h3 : -(2 ^ 62) ≤ hi) (h4 : hi < 2 ^ 62)
    (q : R (Itr lo (hi - lo).toNat) H) : wpAny (model X.prog X.w) X.A (pyIter (.ref s.heap.objs.size)) (PIE X pins σ tg R) E { s with heap := s.heap.push { cls := .type "range", data := .fields #[.int lo t, .int hi u, .int 1 v] }, toks := tk } := by
  refine wpAny_pyIter_range (IsRange.new ..) (small_one h1 h2 h3 h4) ?_
  have I1 : Inv X pins σ H { s with heap := s.heap.push { cls := .type "range", data := .fields #[.int lo t, .int hi u, .int 1 v] }, toks := tk } := I.kept fun b o e => Heap.get?_push_of_some _ e
  refine ⟨(s.heap.push { cls := .type "range", data := .fields #[.int lo t, .int hi u, .int 1 v] }).objs.size, [(s.heap.push { cls := .type "range", data := .fields #[.int lo t, .int hi u, .int 1 v] }).objs.size], _, _, H, rfl,
    I1.kept (t' := tk) fun b o e => Heap.get?_push_of_some _ e, turn_range _ lo (hi - lo).toNat, ?_, fun b hb => ?_, q⟩
  · have e1 : lo + ((0 : Nat) : Int) * 1 = lo := by simp
    have e2 : (((hi - lo).toNat : Nat) : Int) - ((0 : Nat) : Int) = Builtin.Range.rangeSize lo hi 1 := by rw [rangeSize_one]; split <;> omega
    show IsRangeIter _ _ (lo + ((0 : Nat) : Int) * 1) ((((hi - lo).toNat : Nat) : Int) - ((0 : Nat) : Int)) 1
    rw [e1, e2]
    exact Heap.get?_push_size _ rfl
  · have e : b = (s.heap.push { cls := .type "range", data := .fields #[.int lo t, .int hi u, .int 1 v] }).objs.size := by simpa using hb
    subst e
    exact I1.fpOk (Nat.le_refl _) (I1.hok.fresh (Nat.le_refl _))
def iRng1 (ta : TA) : TI := fun σ H R => ta σ H fun vs H1 => ∃ j : Int, vs = [.int j] ∧ -(2 ^ 62) ≤ j ∧ j < 2 ^ 62 ∧ R (Itr 0 j.toNat) H1
def iRng2 (ta : TA) : TI := fun σ H R => ta σ H fun vs H1 => ∃ i j : Int, vs = [.int i, .int j] ∧ (-(2 ^ 62) ≤ i ∧ i < 2 ^ 62 ∧ -(2 ^ 62) ≤ j ∧ j < 2 ^ 62) ∧ R (Itr i (j - i).toNat) H1
theorem pi_range1 {a : Expr} {ta : TA} {p pos : Pos} (hg : Gl X "range") (hm : X.mg "range" = none) (ha : PA X [a] ta) (hs : starEach [a] X.env = [(false, eval a X.env)] := by rfl) : PI X tg (.Call (.Name "range" p) [a] [] pos) (iRng1 ta) := by
  intro pins s σ H R I h
  refine Call_ (ld_blt I hg hm boot_range (PyProof.Rows.callWith_type1 (thn (ha pos pins s σ H _ I h) fun us s1 ⟨vs, H1, I1, r1, q1⟩ => ?_) hs rfl))
  obtain ⟨j, e, q1, q2, q⟩ := q1
  subst e
  cases r1 with
  | cons r rr =>
    cases rr
    obtain ⟨t, rfl⟩ := r
    exact call_range_1 (range_it I1 (by omega) (by omega) q1 q2 (by simpa using q))
theorem pi_range2 {a b : Expr} {ta : TA} {p pos : Pos} (hg : Gl X "range") (hm : X.mg "range" = none) (ha : PA X [a, b] ta) (hs : starEach [a, b] X.env = [(false, eval a X.env), (false, eval b X.env)] := by rfl) (hs2 : starEach [b] X.env = [(false, eval b X.env)] := by rfl) :
    PI X tg (.Call (.Name "range" p) [a, b] [] pos) (iRng2 ta) := by
  intro pins s σ H R I h
  refine Call_ (ld_blt I hg hm boot_range (PyProof.Rows.callWith_type1 (thn (ha pos pins s σ H _ I h) fun us s1 ⟨vs, H1, I1, r1, q1⟩ => ?_) (by rw [hs, hs2]) (by rw [hs2]; rfl)))
  obtain ⟨i, j, e, ⟨q1, q2, q3, q4⟩, q⟩ := q1
  subst e
  cases r1 with
  | cons r rr =>
    cases rr with
    | cons r' rr =>
      cases rr
      obtain ⟨t, rfl⟩ := r
      obtain ⟨t', rfl⟩ := r'
      exact call_range_2 (range_it I1 q1 q2 q3 q4 q)

/-! ### for -/
/-- W: the invariant by the turn and a measure; N: what the body is to reach -/
def tFor (wi : TI) (g : TG) (tb : TS) : TS := fun D σ H => wi σ H fun J H1 => ∃ W : Nat → Nat → St → Hp → Prop, (∃ m, W 0 m σ H1) ∧ ∀ i m σ H, W i m σ H →
  (J.stop i H ∧ D.nx σ H) ∨ (J.go i H ∧ ∃ N : St → Hp → Prop, (∀ σ' H', N σ' H' → ∃ m', m' < m ∧ W (i + 1) m' σ' H') ∧ ∀ x H', J.yld i H x H' → g x σ H' fun σ2 H2 => tb { D with nx := N, ct := N, bk := D.nx } σ2 H2)
/-- the records at fp as they stand -/
def pinsAt (fp : List Addr) (h : Heap) : List (Addr × Obj) := fp.filterMap fun b => (h.get? b).map fun o => (b, o)
theorem mem_pinsAt {fp : List Addr} {h : Heap} {b : Addr} {o : Obj} (hb : b ∈ fp) (e : h.get? b = some o) : (b, o) ∈ pinsAt fp h := List.mem_filterMap.mpr ⟨b, hb, by rw [e]; rfl⟩
theorem of_pinsAt {fp : List Addr} {h : Heap} {p : Addr × Obj} (hp : p ∈ pinsAt fp h) : p.1 ∈ fp ∧ h.get? p.1 = some p.2 := by
  obtain ⟨b, hb, e⟩ := List.mem_filterMap.mp hp
  cases q : h.get? b with
  | none => rw [q] at e; cases e
  | some o =>
    rw [q] at e
    have e' : (b, o) = p := Option.some.inj e
    subst e'
    exact ⟨hb, q⟩
theorem Inv.pinned {pins : List (Addr × Obj)} {σ : St} {H : Hp} {s : Shared} {fp : List Addr} (I : Inv X pins σ H s) (hf : ∀ b ∈ fp, FpOk X pins H b) (ho : ∀ b ∈ fp, ∃ o, s.heap.get? b = some o ∧ ∀ v, o.data ≠ .cell v) : Inv X (pins ++ pinsAt fp s.heap) σ H s :=
  I.pins_of fun p hp => (List.mem_append.mp hp).elim (fun z => I.pin p (List.mem_append_right _ z)) fun z => by
    obtain ⟨hb, e⟩ := of_pinsAt z
    obtain ⟨f0, f1, f2, _⟩ := hf p.1 hb
    obtain ⟨o, e', d⟩ := ho p.1 hb
    rw [e] at e'; cases e'
    exact ⟨e, f0, f1, f2, d⟩
theorem Inv.unpinned {pins pl : List (Addr × Obj)} {σ : St} {H : Hp} {s : Shared} (I : Inv X (pins ++ pl) σ H s) : Inv X pins σ H s := I.pins_of fun p hp => I.pin p (List.mem_append_right _ (List.mem_append_left _ hp))
theorem ps_for {iter : Expr} {body : List Stmt} {wi : TI} {g : TG} {tb : TS} {pos : Pos} (hp : PassesOwn (model X.prog X.w) X.A X.env X.xe) (hc : X.calm = true) (hi : PI X tg iter wi) (hg : PG X tg g) (hb : PSs X body tb)
    (hs : ∀ x, foldedSetIterable iter X.env x = pure x := by intro _; rfl) : PS X (.For tg iter body [] pos) (tFor wi g tb) := by
  intro pins s σ H D I h
  refine wpAny_For (thn (hi pins s σ H _ I h) fun v s1 h1 => thn h1 fun itv s2 h2 => ?_) hs
  obtain ⟨it, fp, tn, J, H2, e, I2, T, st2, f2, W, ⟨m0, w0⟩, turn⟩ := h2
  subst e
  -- what stays true of the iterator's objects through the loop
  have stat : ∀ {H' : Hp}, (∀ b ∈ fp, H' b = none) → ∀ b ∈ fp, FpOk X pins H' b := fun hn b hb => ⟨hn b hb, (f2 b hb).2⟩
  refine codeAny_forLoop_any (fun n s' => ∃ i σ' H', Inv X pins σ' H' s' ∧ tn i s'.heap ∧ (∀ b ∈ fp, H' b = none) ∧ W i n σ' H') ?_ m0 ⟨0, σ, H2, I2, st2, fun b hb => (f2 b hb).1, w0⟩
  rintro n s3 ⟨i, σ3, H3, I3, st3, fr3, w3⟩
  rcases turn i n σ3 H3 w3 with ⟨stop, qn⟩ | ⟨go, N, hN, step⟩
  · refine wpAny_passesOwn hp (thn (T.done X rfl rfl rfl hc i pins s3 σ3 H3 X.xe I3 (stat fr3) st3 stop) fun r s4 ⟨hr, I4⟩ => ?_)
    subst hr
    exact wpAny_execs_nil ⟨σ3, H3, I4, qn⟩
  · refine wpAny_passesOwn hp (thn (T.item X rfl rfl rfl hc i pins s3 σ3 H3 X.xe I3 (stat fr3) st3 go) fun r s4 ⟨u, hr, h4⟩ => ?_)
    subst hr
    refine wpAny_passesOwn hp (thn h4 fun _ s5 ⟨x, H5, I5, r5, y5, st5, fr5⟩ => ?_)
    have I5' := I5.pinned (stat fr5) (T.obj _ _ st5)
    refine wpAny_passesOwn hp (thn (hg _ s5 σ3 H5 x u _ I5' r5 (step x H5 y5)) fun _ s6 ⟨σ6, H6, I6, q6⟩ => ?_)
    refine wpAny_passesOwn hp (thn (hb _ s6 σ6 H6 _ I6 q6) fun f s7 q7 => ?_)
    have again : ∀ {σ7 : St} {H7 : Hp}, Inv X (pins ++ pinsAt fp s5.heap) σ7 H7 s7 → N σ7 H7 → ∃ m, m < n ∧ ∃ i σ' H', Inv X pins σ' H' s7 ∧ tn i s7.heap ∧ (∀ b ∈ fp, H' b = none) ∧ W i m σ' H' := fun {σ7 H7} I7 n7 => by
      obtain ⟨m', hm, w7⟩ := hN σ7 H7 n7
      refine ⟨m', hm, i + 1, σ7, H7, I7.unpinned, T.keep _ _ _ st5 fun b hb o e => (I7.pin (b, o) (List.mem_append_right _ (List.mem_append_right _ (mem_pinsAt hb e)))).1, fun b hb => ?_, w7⟩
      obtain ⟨o, e, d⟩ := T.obj _ _ st5 b hb
      exact (I7.pin (b, o) (List.mem_append_right _ (List.mem_append_right _ (mem_pinsAt hb e)))).2.1
    cases f with
    | next => obtain ⟨σ7, H7, I7, n7⟩ := q7; exact again I7 n7
    | cont => obtain ⟨σ7, H7, I7, n7⟩ := q7; exact again I7 n7
    | brk => obtain ⟨σ7, H7, I7, q7⟩ := q7; exact ⟨σ7, H7, I7.unpinned, q7⟩
    | ret v => obtain ⟨x7, σ7, H7, I7, r7, q7⟩ := q7; exact ⟨x7, σ7, H7, I7.unpinned, r7, q7⟩
end

/-! ### the forms one uses -/
/-- over a list that the body leaves as it is -/
theorem for_list {K : PySem.W.Frag} {a : Addr} {xs : List V} {g : TG} {tb : TS} {D : Ends} {σ : St} {H : Hp} (Pv : Nat → St → Hp → Prop) (h0 : Pv 0 σ H) (hl : ∀ i σ H, i ≤ xs.length → Pv i σ H → SqL K H a xs)
    (hs : ∀ i x σ H, xs[i]? = some x → Pv i σ H → g x σ H fun σ2 H2 => tb { D with nx := Pv (i + 1), ct := Pv (i + 1), bk := D.nx } σ2 H2) (hd : ∀ σ H, Pv xs.length σ H → D.nx σ H) :
    ∃ W : Nat → Nat → St → Hp → Prop, (∃ m, W 0 m σ H) ∧ ∀ i m σ H, W i m σ H →
      ((Itl K a).stop i H ∧ D.nx σ H) ∨ ((Itl K a).go i H ∧ ∃ N : St → Hp → Prop, (∀ σ' H', N σ' H' → ∃ m', m' < m ∧ W (i + 1) m' σ' H') ∧ ∀ x H', (Itl K a).yld i H x H' → g x σ H' fun σ2 H2 => tb { D with nx := N, ct := N, bk := D.nx } σ2 H2) := by
  refine ⟨fun i m σ H => m = xs.length - i ∧ i ≤ xs.length ∧ Pv i σ H, ⟨xs.length, by simp, Nat.zero_le _, h0⟩, ?_⟩
  rintro i m σ H ⟨rfl, hi, p⟩
  have q := hl i σ H hi p
  by_cases hlt : i < xs.length
  · refine .inr ⟨⟨xs, xs[i], q, by simp [hlt]⟩, Pv (i + 1), fun σ' H' p' => ⟨xs.length - (i + 1), by omega, rfl, hlt, p'⟩, fun x H' y => ?_⟩
    obtain ⟨e, y⟩ := y
    subst e
    exact hs i x σ _ (y xs q) p
  · have e : i = xs.length := by omega
    subst e
    exact .inl ⟨⟨xs, q, Nat.le_refl _⟩, hd σ H p⟩
theorem for_tup {K : PySem.W.Frag} {a : Addr} {xs : List V} {g : TG} {tb : TS} {D : Ends} {σ : St} {H : Hp} (Pv : Nat → St → Hp → Prop) (h0 : Pv 0 σ H) (hl : ∀ i σ H, i ≤ xs.length → Pv i σ H → SqT K H a xs)
    (hs : ∀ i x σ H, xs[i]? = some x → Pv i σ H → g x σ H fun σ2 H2 => tb { D with nx := Pv (i + 1), ct := Pv (i + 1), bk := D.nx } σ2 H2) (hd : ∀ σ H, Pv xs.length σ H → D.nx σ H) :
    ∃ W : Nat → Nat → St → Hp → Prop, (∃ m, W 0 m σ H) ∧ ∀ i m σ H, W i m σ H →
      ((Itt K a).stop i H ∧ D.nx σ H) ∨ ((Itt K a).go i H ∧ ∃ N : St → Hp → Prop, (∀ σ' H', N σ' H' → ∃ m', m' < m ∧ W (i + 1) m' σ' H') ∧ ∀ x H', (Itt K a).yld i H x H' → g x σ H' fun σ2 H2 => tb { D with nx := N, ct := N, bk := D.nx } σ2 H2) := by
  refine ⟨fun i m σ H => m = xs.length - i ∧ i ≤ xs.length ∧ Pv i σ H, ⟨xs.length, by simp, Nat.zero_le _, h0⟩, ?_⟩
  rintro i m σ H ⟨rfl, hi, p⟩
  have q := hl i σ H hi p
  by_cases hlt : i < xs.length
  · refine .inr ⟨⟨xs, xs[i], q, by simp [hlt]⟩, Pv (i + 1), fun σ' H' p' => ⟨xs.length - (i + 1), by omega, rfl, hlt, p'⟩, fun x H' y => ?_⟩
    obtain ⟨e, y⟩ := y
    subst e
    exact hs i x σ _ (y xs q) p
  · have e : i = xs.length := by omega
    subst e
    exact .inl ⟨⟨xs, q, Nat.le_refl _⟩, hd σ H p⟩
theorem for_range {lo : Int} {n : Nat} {g : TG} {tb : TS} {D : Ends} {σ : St} {H : Hp} (Pv : Nat → St → Hp → Prop) (h0 : Pv 0 σ H)
    (hs : ∀ i σ H, i < n → Pv i σ H → g (.int (lo + i)) σ H fun σ2 H2 => tb { D with nx := Pv (i + 1), ct := Pv (i + 1), bk := D.nx } σ2 H2) (hd : ∀ σ H, Pv n σ H → D.nx σ H) :
    ∃ W : Nat → Nat → St → Hp → Prop, (∃ m, W 0 m σ H) ∧ ∀ i m σ H, W i m σ H →
      ((Itr lo n).stop i H ∧ D.nx σ H) ∨ ((Itr lo n).go i H ∧ ∃ N : St → Hp → Prop, (∀ σ' H', N σ' H' → ∃ m', m' < m ∧ W (i + 1) m' σ' H') ∧ ∀ x H', (Itr lo n).yld i H x H' → g x σ H' fun σ2 H2 => tb { D with nx := N, ct := N, bk := D.nx } σ2 H2) := by
  refine ⟨fun i m σ H => m = n - i ∧ i ≤ n ∧ Pv i σ H, ⟨n, by simp, Nat.zero_le _, h0⟩, ?_⟩
  rintro i m σ H ⟨rfl, hi, p⟩
  by_cases hlt : i < n
  · refine .inr ⟨hlt, Pv (i + 1), fun σ' H' p' => ⟨n - (i + 1), by omega, rfl, hlt, p'⟩, fun x H' y => ?_⟩
    obtain ⟨e, y⟩ := y
    subst e y
    exact hs i σ _ hlt p
  · have e : i = n := by omega
    subst e
    exact .inl ⟨Nat.le_refl _, hd σ H p⟩
/-- while, by a word and a measure of the state -/
theorem while_by {c : TT} {tb : TS} {D : Ends} {σ : St} {H : Hp} (Pv : St → Hp → Prop) (μ : St → Hp → Nat) (h0 : Pv σ H)
    (hs : ∀ σ H, Pv σ H → c σ H fun b H1 => if b = true then tb { D with nx := fun σ' H' => Pv σ' H' ∧ μ σ' H' < μ σ H, ct := fun σ' H' => Pv σ' H' ∧ μ σ' H' < μ σ H, bk := D.nx } σ H1 else D.nx σ H1)
    (mono : ∀ σ H Q Q', (∀ b H1, Q b H1 → Q' b H1) → c σ H Q → c σ H Q') : tWhile c tb D σ H := by
  refine ⟨fun m σ H => m = μ σ H ∧ Pv σ H, ⟨_, rfl, h0⟩, ?_⟩
  rintro m σ H ⟨rfl, p⟩
  refine mono σ H _ _ (fun b H1 q => ?_) (hs σ H p)
  cases b with
  | true => exact ⟨_, fun σ' H' ⟨p', l⟩ => ⟨_, l, rfl, p'⟩, q⟩
  | false => exact q
end L2

namespace L2
open PySem PySem.Spec PyProof.Rows

abbrev R2 := V → V → Hp → VK → Prop
/-- a two-place operation on values: f is binaryOp op, inplaceOp op or compareOp op -/
def OpR (X : Cx) (f : Value → Value → Sem Value) (r : R2) : Prop :=
  ∀ (pins : List (Addr × Obj)) (s : Shared) (σ : St) (H : Hp) (x y : V) (v u : Value) (Q : VK), Inv X pins σ H s → RelV x v → RelV y u → r x y H Q →
    wpAny (model X.prog X.w) X.A (f v u) (EP X pins σ Q) X.xe s
/-- a one-place operation -/
def UnR (X : Cx) (f : Value → Sem Value) (r : V → Hp → VK → Prop) : Prop :=
  ∀ (pins : List (Addr × Obj)) (s : Shared) (σ : St) (H : Hp) (x : V) (v : Value) (Q : VK), Inv X pins σ H s → RelV x v → r x H Q →
    wpAny (model X.prog X.w) X.A (f v) (EP X pins σ Q) X.xe s
/-- a call of a value that is known (a builtin, a type) with values -/
def CallR (X : Cx) (f : Value) (r : List V → Hp → VK → Prop) : Prop :=
  ∀ (pins : List (Addr × Obj)) (s : Shared) (σ : St) (H : Hp) (xs : List V) (us : List Value) (Q : VK), Inv X pins σ H s → Vals xs us → r xs H Q →
    wpAny (model X.prog X.w) X.A (call f us) (EP X pins σ Q) X.xe s
/-- a value's truth -/
def TruR (X : Cx) (r : V → Hp → (Bool → Hp → Prop) → Prop) : Prop :=
  ∀ (pins : List (Addr × Obj)) (s : Shared) (σ : St) (H : Hp) (x : V) (v : Value) (Q : Bool → Hp → Prop), Inv X pins σ H s → RelV x v → r x H Q →
    wpAny (model X.prog X.w) X.A (truthy v) (TP X pins σ Q) X.xe s

def tOp (r : R2) (ta tb : TE) : TE := fun σ H Q => ta σ H fun x H1 => tb σ H1 fun y H2 => r x y H2 Q
def tUn (r : V → Hp → VK → Prop) (ta : TE) : TE := fun σ H Q => ta σ H fun x H1 => r x H1 Q
/-- ints in, under C, and a value out -/
def rI (C : Int → Int → Prop) (g : Int → Int → V) : R2 := fun x y H Q => ∃ i j, x = .int i ∧ y = .int j ∧ C i j ∧ Q (g i j) H
def rI0 (g : Int → Int → V) : R2 := fun x y H Q => ∃ i j, x = .int i ∧ y = .int j ∧ Q (g i j) H
def rU (g : Int → V) : V → Hp → VK → Prop := fun x H Q => ∃ i, x = .int i ∧ Q (g i) H

section
variable {X : Cx} {a b c : Expr} {ta tb tc : TE} {pos : Pos}

theorem binT (ha : PE X a ta) (hb : PE X b tb) {pins : List (Addr × Obj)} {s : Shared} {σ : St} {H : Hp} {R : V → V → Hp → Prop} (I : Inv X pins σ H s)
    (h : ta σ H fun x H1 => tb σ H1 fun y H2 => R x y H2) {Q : Value → Shared → Prop} {f : Value → Value → Sem Value}
    (hf : ∀ v u s2 x y H2, Inv X pins σ H2 s2 → RelV x v → RelV y u → R x y H2 → wpAny (model X.prog X.w) X.A (f v u) Q X.xe s2) :
    wpAny (model X.prog X.w) X.A (eval a X.env) (fun v s₁ => wpAny (model X.prog X.w) X.A (eval b X.env) (fun u s₂ => wpAny (model X.prog X.w) X.A (f v u) Q X.xe s₂) X.xe s₁) X.xe s := by
  refine thn (ha pins s σ H _ I h) fun v s1 ⟨x, H1, I1, r1, q1⟩ => ?_
  refine thn (hb pins s1 σ H1 _ I1 q1) fun u s2 ⟨y, H2, I2, r2, q2⟩ => ?_
  exact hf v u s2 x y H2 I2 r1 r2 q2

theorem pe_op {op : Operator} {r : R2} (ho : OpR X (binaryOp op) r) (ha : PE X a ta) (hb : PE X b tb) : PE X (.BinOp a op b pos) (tOp r ta tb) := by
  intro pins s σ H Q I h
  exact wpAny_BinOp (binT ha hb I h fun v u s2 x y H2 I2 rx ry q => ho pins s2 σ H2 x y v u Q I2 rx ry q)
theorem pe_un {op : UnaryOp} {r : V → Hp → VK → Prop} (ho : UnR X (unaryOp op) r) (ha : PE X a ta) : PE X (.UnaryOp op a pos) (tUn r ta) := by
  intro pins s σ H Q I h
  exact UnaryOp_ (thn (ha pins s σ H _ I h) fun v s1 ⟨x, H1, I1, r1, q1⟩ => ho pins s1 σ H1 x v Q I1 r1 q1)
/-- a op= e at a name: the name's slot i -/
theorem augR {op : Operator} {r : R2} (ho : OpR X (inplaceOp op) r) {pins : List (Addr × Obj)} {s : Shared} {σ : St} {H : Hp} {x y : V} {v u : Value} {Q : VK} (I : Inv X pins σ H s)
    (rx : RelV x v) (ry : RelV y u) (q : r x y H Q) : wpAny (model X.prog X.w) X.A (inplaceOp op v u) (EP X pins σ Q) X.xe s := ho pins s σ H x y v u Q I rx ry q

/-! ### ints -/
theorem opI {f : Value → Value → Sem Value} {C : Int → Int → Prop} {g : Int → Int → Int}
    (rule : ∀ (i j : Int) (t u : Tok) (s : Shared) (Q : Value → Shared → Prop) (E : Value → Shared → Prop), C i j → Q (.int (g i j) s.toks) { s with toks := s.toks + 1 } → wpAny (model X.prog X.w) X.A (f (.int i t) (.int j u)) Q E s) :
    OpR X f (rI C fun i j => .int (g i j)) := by
  intro pins s σ H x y v u Q I rx ry h
  obtain ⟨i, j, rfl, rfl, hc, q⟩ := h
  obtain ⟨t, rfl⟩ := rx
  obtain ⟨t', rfl⟩ := ry
  exact rule i j t t' s _ _ hc ⟨.int (g i j), H, I.tok _, ⟨_, rfl⟩, q⟩
theorem opI0 {f : Value → Value → Sem Value} {g : Int → Int → Int}
    (rule : ∀ (i j : Int) (t u : Tok) (s : Shared) (Q : Value → Shared → Prop) (E : Value → Shared → Prop), Q (.int (g i j) s.toks) { s with toks := s.toks + 1 } → wpAny (model X.prog X.w) X.A (f (.int i t) (.int j u)) Q E s) :
    OpR X f (rI0 fun i j => .int (g i j)) := by
  intro pins s σ H x y v u Q I rx ry h
  obtain ⟨i, j, rfl, rfl, q⟩ := h
  obtain ⟨t, rfl⟩ := rx
  obtain ⟨t', rfl⟩ := ry
  exact rule i j t t' s _ _ ⟨.int (g i j), H, I.tok _, ⟨_, rfl⟩, q⟩
theorem opB0 {f : Value → Value → Sem Value} {g : Int → Int → Bool}
    (rule : ∀ (i j : Int) (t u : Tok) (s : Shared) (Q : Value → Shared → Prop) (E : Value → Shared → Prop), Q (.bool (g i j)) s → wpAny (model X.prog X.w) X.A (f (.int i t) (.int j u)) Q E s) :
    OpR X f (rI0 fun i j => .bl (g i j)) := by
  intro pins s σ H x y v u Q I rx ry h
  obtain ⟨i, j, rfl, rfl, q⟩ := h
  obtain ⟨t, rfl⟩ := rx
  obtain ⟨t', rfl⟩ := ry
  exact rule i j t t' s _ _ ⟨.bl (g i j), H, I, rfl, q⟩

def CDiv (i j : Int) : Prop := 0 < j ∧ j < 1073741824
def CDivN (i j : Int) : Prop := j ≠ 0 ∧ j.natAbs < 1073741824
def CPow (i j : Int) : Prop := 0 ≤ j ∧ j ≤ 1000000 ∧ i.natAbs < 2 ^ 64
def CMul (i j : Int) : Prop := (-(2 ^ 64) < i ∧ i < 2 ^ 64) ∨ (-(2 ^ 64) < j ∧ j < 2 ^ 64)
theorem CMul.ok {i j : Int} (h : CMul i j) : IntMulOk i j := by
  rcases h with ⟨h1, h2⟩ | ⟨h1, h2⟩
  · exact .of_left (intBits_le_64 h1 h2)
  · exact .of_right (intBits_le_64 h1 h2)
theorem two_pow_nn (k : Nat) : (0 : Int) ≤ 2 ^ k := by
  rw [two_pow_cast]
  exact Int.natCast_nonneg _

theorem op_add : OpR X (binaryOp .Add) (rI0 fun i j => .int (i + j)) := opI0 fun _ _ _ _ _ _ _ q => add_int q
theorem op_sub : OpR X (binaryOp .Sub) (rI0 fun i j => .int (i - j)) := opI0 fun _ _ _ _ _ _ _ q => sub_int q
theorem op_mul : OpR X (binaryOp .Mult) (rI CMul fun i j => .int (i * j)) := opI fun _ _ _ _ _ _ _ hc q => mul_int q hc.ok
/-- // by a positive divisor -/
theorem op_fdiv : OpR X (binaryOp .FloorDiv) (rI CDiv fun i j => .int (i / j)) := opI fun i j _ _ _ _ _ hc q => by
  have h1 : (0 : Int) < j := hc.1
  have h2 : j < 1073741824 := hc.2
  exact floordiv_int (by omega) (by rw [Int.fdiv_eq_ediv_of_nonneg i (by omega)]; exact q) (.inl (PyProof.noPylong_small (by omega)))
theorem op_fdivN : OpR X (binaryOp .FloorDiv) (rI CDivN fun i j => .int (i.fdiv j)) := opI fun _ _ _ _ _ _ _ hc q => floordiv_int hc.1 q (.inl (PyProof.noPylong_small hc.2))
/-- % by a positive divisor of any size -/
theorem op_mod : OpR X (binaryOp .Mod) (rI (fun _ j => 0 < j) fun i j => .int (i % j)) := opI fun i j _ _ _ _ _ hc q => by
  have h1 : (0 : Int) < j := hc
  exact mod_int' (by omega) (by rw [Int.fmod_eq_emod_of_nonneg i (by omega)]; exact q)
theorem op_modN : OpR X (binaryOp .Mod) (rI (fun _ j => j ≠ 0) fun i j => .int (i.fmod j)) := opI fun _ _ _ _ _ _ _ hc q => mod_int' hc q
theorem op_pow : OpR X (binaryOp .Pow) (rI CPow fun i j => .int (i ^ j.toNat)) := opI fun _ _ _ _ _ _ _ hc q => pow_int_small hc.1 hc.2.1 hc.2.2 q
theorem op_shl : OpR X (binaryOp .LShift) (rI CPow fun i j => .int (i * 2 ^ j.toNat)) := opI fun _ _ _ _ _ _ _ hc q => lshift_int_small hc.1 hc.2.1 hc.2.2 q
theorem op_shr : OpR X (binaryOp .RShift) (rI (fun _ j => 0 ≤ j) fun i j => .int (i / 2 ^ j.toNat)) := opI fun i j _ _ _ _ _ hc q =>
  rshift_int hc (by rw [Int.fdiv_eq_ediv_of_nonneg i (two_pow_nn _)]; exact q)
theorem op_and : OpR X (binaryOp .BitAnd) (rI0 fun i j => .int (Builtin.bitAnd i j)) := opI0 fun _ _ _ _ _ _ _ q => and_int q
theorem op_or : OpR X (binaryOp .BitOr) (rI0 fun i j => .int (Builtin.bitOr i j)) := opI0 fun _ _ _ _ _ _ _ q => or_int q
theorem op_xor : OpR X (binaryOp .BitXor) (rI0 fun i j => .int (Builtin.bitXor i j)) := opI0 fun _ _ _ _ _ _ _ q => xor_int q

theorem iop_add : OpR X (inplaceOp .Add) (rI0 fun i j => .int (i + j)) := opI0 fun _ _ _ _ _ _ _ q => iadd_int q
theorem iop_sub : OpR X (inplaceOp .Sub) (rI0 fun i j => .int (i - j)) := opI0 fun _ _ _ _ _ _ _ q => isub_int q
theorem iop_mul : OpR X (inplaceOp .Mult) (rI CMul fun i j => .int (i * j)) := opI fun _ _ _ _ _ _ _ hc q => imul_int q hc.ok
theorem iop_fdiv : OpR X (inplaceOp .FloorDiv) (rI CDiv fun i j => .int (i / j)) := opI fun i j _ _ _ _ _ hc q => by
  have h1 : (0 : Int) < j := hc.1
  have h2 : j < 1073741824 := hc.2
  exact ifloordiv_int (by omega) (by rw [Int.fdiv_eq_ediv_of_nonneg i (by omega)]; exact q) (.inl (PyProof.noPylong_small (by omega)))
theorem iop_mod : OpR X (inplaceOp .Mod) (rI (fun _ j => 0 < j) fun i j => .int (i % j)) := opI fun i j _ _ _ _ _ hc q => by
  have h1 : (0 : Int) < j := hc
  exact imod_int (by omega) (by rw [Int.fmod_eq_emod_of_nonneg i (by omega)]; exact q)
theorem iop_shl : OpR X (inplaceOp .LShift) (rI CPow fun i j => .int (i * 2 ^ j.toNat)) := opI fun _ _ _ _ _ _ _ hc q => ilshift_int_small hc.1 hc.2.1 hc.2.2 q
theorem iop_shr : OpR X (inplaceOp .RShift) (rI (fun _ j => 0 ≤ j) fun i j => .int (i / 2 ^ j.toNat)) := opI fun i j _ _ _ _ _ hc q =>
  irshift_int hc (by rw [Int.fdiv_eq_ediv_of_nonneg i (two_pow_nn _)]; exact q)
theorem iop_and : OpR X (inplaceOp .BitAnd) (rI0 fun i j => .int (Builtin.bitAnd i j)) := opI0 fun _ _ _ _ _ _ _ q => iand_int q
theorem iop_or : OpR X (inplaceOp .BitOr) (rI0 fun i j => .int (Builtin.bitOr i j)) := opI0 fun _ _ _ _ _ _ _ q => ior_int q
theorem iop_xor : OpR X (inplaceOp .BitXor) (rI0 fun i j => .int (Builtin.bitXor i j)) := opI0 fun _ _ _ _ _ _ _ q => ixor_int q

theorem unI {f : Value → Sem Value} {g : Int → Int}
    (rule : ∀ (i : Int) (t : Tok) (s : Shared) (Q : Value → Shared → Prop) (E : Value → Shared → Prop), Q (.int (g i) s.toks) { s with toks := s.toks + 1 } → wpAny (model X.prog X.w) X.A (f (.int i t)) Q E s) :
    UnR X f (rU fun i => .int (g i)) := by
  intro pins s σ H x v Q I rx h
  obtain ⟨i, rfl, q⟩ := h
  obtain ⟨t, rfl⟩ := rx
  exact rule i t s _ _ ⟨.int (g i), H, I.tok _, ⟨_, rfl⟩, q⟩
theorem un_neg : UnR X (unaryOp .USub) (rU fun i => .int (-i)) := unI fun _ _ _ _ _ q => neg_int q
theorem un_inv : UnR X (unaryOp .Invert) (rU fun i => .int (Builtin.bitNot i)) := unI fun _ _ _ _ _ q => invert_int q

/-! ### bools among ints: n += (a < b) -/
theorem op_add_ib : OpR X (binaryOp .Add) (fun x y H Q => ∃ i k, x = .int i ∧ y = .bl k ∧ Q (.int (i + b2i k)) H) := by
  intro pins s σ H x y v u Q I rx ry h
  obtain ⟨i, k, rfl, rfl, q⟩ := h
  obtain ⟨t, rfl⟩ := rx
  cases ry
  exact add_int_bool ⟨.int (i + b2i k), H, I.tok _, ⟨_, rfl⟩, q⟩
end

/-! ### comparisons -/
/-- the scalars that == tells apart as data does -/
def scal : V → V → Bool
  | .non, .non => true | .non, .int _ => true | .int _, .non => true | .non, .bl _ => true | .bl _, .non => true | .non, .str _ => true | .str _, .non => true
  | .int _, .int _ => true | .bl _, .bl _ => true | .str _, .str _ => true | .byt _, .byt _ => true
  | .int _, .str _ => true | .str _, .int _ => true | .bl _, .str _ => true | .str _, .bl _ => true
  | _, _ => false
def rEq : R2 := fun x y H Q => scal x y = true ∧ Q (.bl (decide (x = y))) H
def rNe : R2 := fun x y H Q => scal x y = true ∧ Q (.bl (!decide (x = y))) H

theorem dec_int {i j : Int} : decide (V.int i = V.int j) = (i == j) := by
  rw [Bool.eq_iff_iff]
  simp
theorem dec_bl {i j : Bool} : decide (V.bl i = V.bl j) = (i == j) := by
  rw [Bool.eq_iff_iff]
  simp
theorem dec_str {i j : Str} : decide (V.str i = V.str j) = (i == j) := by
  rw [Bool.eq_iff_iff]
  simp
theorem dec_byt {i j : Array UInt8} : decide (V.byt i = V.byt j) = (i.toList == j.toList) := by
  rw [Bool.eq_iff_iff]
  cases i
  cases j
  simp

section
variable {X : Cx} {a b c : Expr} {ta tb tc : TE} {pos : Pos}
theorem fin_bl {pins : List (Addr × Obj)} {σ : St} {H : Hp} {s : Shared} {Q : VK} {k k' : Bool} (I : Inv X pins σ H s) (q : Q (.bl k) H) (e : k = k') : EP X pins σ Q (.bool k') s := by
  subst e
  exact ⟨.bl k, H, I, rfl, q⟩
theorem op_eq : OpR X (compareOp .Eq) rEq := by
  intro pins s σ H x y v u Q I rx ry h
  obtain ⟨hs, q⟩ := h
  cases x with
  | non =>
    cases rx
    cases y with
    | non => cases ry; exact PySem.EqNone.eq_none_none (fin_bl I q (by simp))
    | bl j => cases ry; exact PySem.EqNone.eq_none_bool (fin_bl I q (by simp))
    | int j => obtain ⟨t', rfl⟩ := ry; exact PySem.EqNone.eq_none_int (fin_bl I q (by simp))
    | str j => obtain ⟨t', rfl⟩ := ry; exact PySem.EqNone.eq_none_str (fin_bl I q (by simp))
    | _ => exact absurd (show false = true from hs) Bool.false_ne_true
  | bl i =>
    cases rx
    cases y with
    | non => cases ry; exact PySem.EqNone.eq_bool_none (fin_bl I q (by simp))
    | bl j => cases ry; exact eq_bool (fin_bl I q dec_bl)
    | str j => obtain ⟨t', rfl⟩ := ry; exact PySem.EqMixed.eq_bool_str (fin_bl I q (by simp))
    | _ => exact absurd (show false = true from hs) Bool.false_ne_true
  | int i =>
    obtain ⟨t, rfl⟩ := rx
    cases y with
    | non => cases ry; exact PySem.EqNone.eq_int_none (fin_bl I q (by simp))
    | int j => obtain ⟨t', rfl⟩ := ry; exact eq_int (fin_bl I q dec_int)
    | str j => obtain ⟨t', rfl⟩ := ry; exact PySem.EqMixed.eq_int_str (fin_bl I q (by simp))
    | _ => exact absurd (show false = true from hs) Bool.false_ne_true
  | str i =>
    obtain ⟨t, rfl⟩ := rx
    cases y with
    | non => cases ry; exact PySem.EqNone.eq_str_none (fin_bl I q (by simp))
    | bl j => cases ry; exact PySem.EqMixed.eq_str_bool (fin_bl I q (by simp))
    | int j => obtain ⟨t', rfl⟩ := ry; exact PySem.EqMixed.eq_str_int (fin_bl I q (by simp))
    | str j => obtain ⟨t', rfl⟩ := ry; exact eq_str (fin_bl I q dec_str)
    | _ => exact absurd (show false = true from hs) Bool.false_ne_true
  | byt i =>
    obtain ⟨t, rfl⟩ := rx
    cases y with
    | byt j => obtain ⟨t', rfl⟩ := ry; exact PySem.W.eq_bytes (fin_bl I q dec_byt)
    | _ => exact absurd (show false = true from hs) Bool.false_ne_true
  | _ => cases y <;> exact absurd (show false = true from hs) Bool.false_ne_true
theorem op_ne : OpR X (compareOp .NotEq) rNe := by
  intro pins s σ H x y v u Q I rx ry h
  obtain ⟨hs, q⟩ := h
  cases x with
  | non =>
    cases rx
    cases y with
    | non => cases ry; exact PySem.EqNone.ne_none_none (fin_bl I q (by simp))
    | bl j => cases ry; exact PySem.EqNone.ne_none_bool (fin_bl I q (by simp))
    | int j => obtain ⟨t', rfl⟩ := ry; exact PySem.EqNone.ne_none_int (fin_bl I q (by simp))
    | str j => obtain ⟨t', rfl⟩ := ry; exact PySem.EqNone.ne_none_str (fin_bl I q (by simp))
    | _ => exact absurd (show false = true from hs) Bool.false_ne_true
  | bl i =>
    cases rx
    cases y with
    | non => cases ry; exact PySem.EqNone.ne_bool_none (fin_bl I q (by simp))
    | bl j => cases ry; exact ne_bool (fin_bl I q (congrArg not dec_bl))
    | str j => obtain ⟨t', rfl⟩ := ry; exact PySem.EqMixed.ne_bool_str (fin_bl I q (by simp))
    | _ => exact absurd (show false = true from hs) Bool.false_ne_true
  | int i =>
    obtain ⟨t, rfl⟩ := rx
    cases y with
    | non => cases ry; exact PySem.EqNone.ne_int_none (fin_bl I q (by simp))
    | int j => obtain ⟨t', rfl⟩ := ry; exact ne_int (fin_bl I q (congrArg not dec_int))
    | str j => obtain ⟨t', rfl⟩ := ry; exact PySem.EqMixed.ne_int_str (fin_bl I q (by simp))
    | _ => exact absurd (show false = true from hs) Bool.false_ne_true
  | str i =>
    obtain ⟨t, rfl⟩ := rx
    cases y with
    | non => cases ry; exact PySem.EqNone.ne_str_none (fin_bl I q (by simp))
    | bl j => cases ry; exact PySem.EqMixed.ne_str_bool (fin_bl I q (by simp))
    | int j => obtain ⟨t', rfl⟩ := ry; exact PySem.EqMixed.ne_str_int (fin_bl I q (by simp))
    | str j => obtain ⟨t', rfl⟩ := ry; exact ne_str (fin_bl I q (congrArg not dec_str))
    | _ => exact absurd (show false = true from hs) Bool.false_ne_true
  | byt i =>
    obtain ⟨t, rfl⟩ := rx
    cases y with
    | byt j => obtain ⟨t', rfl⟩ := ry; exact PySem.W.ne_bytes (fin_bl I q (congrArg not dec_byt))
    | _ => exact absurd (show false = true from hs) Bool.false_ne_true
  | _ => cases y <;> exact absurd (show false = true from hs) Bool.false_ne_true

theorem op_lt : OpR X (compareOp .Lt) (rI0 fun i j => .bl (decide (i < j))) := opB0 fun _ _ _ _ _ _ _ q => lt_int q
theorem op_le : OpR X (compareOp .LtE) (rI0 fun i j => .bl (decide (i ≤ j))) := opB0 fun _ _ _ _ _ _ _ q => le_int q
theorem op_gt : OpR X (compareOp .Gt) (rI0 fun i j => .bl (decide (j < i))) := opB0 fun _ _ _ _ _ _ _ q => gt_int q
theorem op_ge : OpR X (compareOp .GtE) (rI0 fun i j => .bl (decide (j ≤ i))) := opB0 fun _ _ _ _ _ _ _ q => ge_int q
theorem op_lt_str : OpR X (compareOp .Lt) (fun x y H Q => ∃ i j, x = .str i ∧ y = .str j ∧ Q (.bl (decide (i.cps.toList < j.cps.toList))) H) := by
  intro pins s σ H x y v u Q I rx ry h
  obtain ⟨i, j, rfl, rfl, q⟩ := h
  obtain ⟨t, rfl⟩ := rx
  obtain ⟨t', rfl⟩ := ry
  exact lt_str (fin_bl I q rfl)
/-- the one string within the other -/
theorem op_in_str : OpR X (compareOp .In) (fun x y H Q => ∃ i j, x = .str i ∧ y = .str j ∧ Q (.bl (!(Builtin.Str.occurrences j i 0 j.length 1).isEmpty)) H) := by
  intro pins s σ H x y v u Q I rx ry h
  obtain ⟨i, j, rfl, rfl, q⟩ := h
  obtain ⟨t, rfl⟩ := rx
  obtain ⟨t', rfl⟩ := ry
  exact in_str (fin_bl I q rfl)

/-- is None, is not None: the right side a value none -/
theorem op_isN : OpR X (compareOp .Is) (fun x y H Q => y = .non ∧ Q (.bl (decide (x = .non))) H) := by
  intro pins s σ H x y v u Q I rx ry h
  obtain ⟨rfl, q⟩ := h
  cases ry
  refine is_none_gen (fin_bl I q ?_)
  cases x <;> first
    | (cases rx; rfl)
    | (obtain ⟨t, rfl⟩ := rx; rfl)
theorem op_notN : OpR X (compareOp .IsNot) (fun x y H Q => y = .non ∧ Q (.bl (!decide (x = .non))) H) := by
  intro pins s σ H x y v u Q I rx ry h
  obtain ⟨rfl, q⟩ := h
  cases ry
  refine isnot_none_gen (fin_bl I q ?_)
  cases x <;> first
    | (cases rx; rfl)
    | (obtain ⟨t, rfl⟩ := rx; rfl)

theorem op_notin_str : OpR X (compareOp .NotIn) (fun x y H Q => ∃ i j, x = .str i ∧ y = .str j ∧ Q (.bl (!(!(Builtin.Str.occurrences j i 0 j.length 1).isEmpty))) H) := by
  intro pins s σ H x y v u Q I rx ry h
  obtain ⟨i, j, rfl, rfl, q⟩ := h
  obtain ⟨t, rfl⟩ := rx
  obtain ⟨t', rfl⟩ := ry
  exact notIn_str (fin_bl I q rfl)
/-- is, is not of two objects that are tracked lists or instances -/
def isObj : HO → Bool
  | .lst _ => true
  | .ins _ _ _ => true
  | _ => false
theorem obj_there {pins : List (Addr × Obj)} {s : Shared} {σ : St} {H : Hp} {a : Addr} {o : HO} (I : Inv X pins σ H s) (h : H a = some o) (p : isObj o = true) : ∃ ob, s.heap.get? a = some ob ∧ ob.cls ≠ .type "tuple" := by
  cases o with
  | lst xs =>
    obtain ⟨_, its, n, _, e⟩ : xs.length ≤ sizeLine ∧ ∃ (its : List Value) (n : Nat), Vals xs its ∧ s.heap.get? a = some { cls := .type "list", data := .seq its.toArray n } := I.hok a _ h
    exact ⟨_, e, (by show Value.type "list" ≠ .type "tuple"; decide +kernel)⟩
  | ins C dx fs =>
    have x := I.hok a _ h
    obtain ⟨_, _, _, e, _⟩ := x
    exact ⟨_, e, (by show Value.ref C ≠ .type "tuple"; exact fun z => by cases z)⟩
  | _ => exact absurd (show false = true from p) Bool.false_ne_true
theorem op_is_ref : OpR X (compareOp .Is) (fun x y H Q => ∃ a b oa ob, x = .ref a ∧ y = .ref b ∧ H a = some oa ∧ isObj oa = true ∧ H b = some ob ∧ isObj ob = true ∧ Q (.bl (decide (a = b))) H) := by
  intro pins s σ H x y v u Q I rx ry h
  obtain ⟨a, b, oa, ob, rfl, rfl, ha, pa, hb, pb, q⟩ := h
  cases rx
  cases ry
  obtain ⟨o1, e1, n1⟩ := obj_there I ha pa
  obtain ⟨o2, e2, _⟩ := obj_there I hb pb
  by_cases z : a = b
  · subst z
    exact wpAny_is_ref_self (fin_bl I q (by simp))
  · exact wpAny_is_ref_other z e1 e2 n1 (fin_bl I q (by simp [z]))
theorem op_isnot_ref : OpR X (compareOp .IsNot) (fun x y H Q => ∃ a b oa ob, x = .ref a ∧ y = .ref b ∧ H a = some oa ∧ isObj oa = true ∧ H b = some ob ∧ isObj ob = true ∧ Q (.bl (!decide (a = b))) H) := by
  intro pins s σ H x y v u Q I rx ry h
  obtain ⟨a, b, oa, ob, rfl, rfl, ha, pa, hb, pb, q⟩ := h
  cases rx
  cases ry
  obtain ⟨o1, e1, n1⟩ := obj_there I ha pa
  obtain ⟨o2, e2, _⟩ := obj_there I hb pb
  by_cases z : a = b
  · subst z
    exact wpAny_isNot_ref_self (fin_bl I q (by simp))
  · exact wpAny_isNot_ref_other z e1 e2 n1 (fin_bl I q (by simp [z]))

/-- two rules for one operation: by cases -/
theorem OpR.or {f : Value → Value → Sem Value} {r r' : R2} (h : OpR X f r) (h' : OpR X f r') : OpR X f (fun x y H Q => r x y H Q ∨ r' x y H Q) := by
  intro pins s σ H x y v u Q I rx ry q
  rcases q with q | q
  · exact h pins s σ H x y v u Q I rx ry q
  · exact h' pins s σ H x y v u Q I rx ry q

theorem nomark (b : Expr) {op : CmpOp} (h : op ≠ .In := by decide) (h2 : op ≠ .NotIn := by decide) : behindInMarks op b = false := by
  have e1 : (op == CmpOp.In) = false := by cases op <;> first | rfl | exact absurd rfl h
  have e2 : (op == CmpOp.NotIn) = false := by cases op <;> first | rfl | exact absurd rfl h2
  cases b <;> simp [behindInMarks, e1, e2]
/-- a comparison as a value; hm: nomark b, or (for in, not in) by with_unfolding_all rfl -/
theorem pe_cmpR {op : CmpOp} {r : R2} (ho : OpR X (compareOp op) r) (ha : PE X a ta) (hb : PE X b tb) (hm : behindInMarks op b = false) : PE X (.Compare a [op] [b] pos) (tOp r ta tb) := by
  intro pins s σ H Q I h
  exact wpAny_Compare1 (binT ha hb I h fun v u s2 x y H2 I2 rx ry q => ho pins s2 σ H2 x y v u Q I2 rx ry q) hm
/-- a reading of a value as a test -/
def tTest (t : TE) : TT := fun σ H Q => t σ H fun x H' => ∃ k, x = .bl k ∧ Q k H'
theorem pt_cmpR {op : CmpOp} {r : R2} (ho : OpR X (compareOp op) r) (ha : PE X a ta) (hb : PE X b tb) (hm : behindInMarks op b = false) : PT X (.Compare a [op] [b] pos) (tTest (tOp r ta tb)) := by
  intro pins s σ H Q I h
  refine wpAny_isTrue_Compare1 (thn (ha pins s σ H _ I h) fun v s1 ⟨x, H1, I1, r1, q1⟩ => thn (hb pins s1 σ H1 _ I1 q1) fun u s2 ⟨y, H2, I2, r2, q2⟩ =>
    thn (ho pins s2 σ H2 x y v u _ I2 r1 r2 q2) fun c s3 ⟨z, H3, I3, r3, k, e, q3⟩ => ?_) hm
  subst e
  cases r3
  exact wpAny_truthy_bool ⟨H3, I3, q3⟩
/-- a op1 b op2 c -/
def tChain (r r' : R2) (ta tb tc : TE) : TE := fun σ H Q => ta σ H fun x H1 => tb σ H1 fun y H2 => r x y H2 fun z H3 => ∃ k, z = .bl k ∧
  (if k = true then tc σ H3 fun w' H4 => r' y w' H4 Q else Q (.bl false) H3)
theorem pe_chain {op op' : CmpOp} {r r' : R2} (ho : OpR X (compareOp op) r) (ho' : OpR X (compareOp op') r') (ha : PE X a ta) (hb : PE X b tb) (hc : PE X c tc)
    (hm : lastMarks [op, op'] [b, c] = false := by with_unfolding_all rfl) : PE X (.Compare a [op, op'] [b, c] pos) (tChain r r' ta tb tc) := by
  intro pins s σ H Q I h
  refine Compare_chain (thn (ha pins s σ H _ I h) fun v s1 ⟨x, H1, I1, r1, q1⟩ => chain_link (thn (hb pins s1 σ H1 _ I1 q1) fun u s2 ⟨y, H2, I2, r2, q2⟩ =>
    thn (ho pins s2 σ H2 x y v u _ I2 r1 r2 q2) fun d s3 ⟨z, H3, I3, r3, k, e, q3⟩ => ?_)) hm
  subst e
  cases r3
  refine wpAny_truthy_bool ?_
  cases k with
  | false => exact ite_ff ⟨.bl false, H3, I3, rfl, q3⟩
  | true => exact ite_tt (chain_last (thn (hc pins s3 σ H3 _ I3 q3) fun w' s4 ⟨z', H4, I4, r4, q4⟩ => ho' pins s4 σ H4 y z' u w' Q I4 r2 r4 q4))
theorem pt_chain {op op' : CmpOp} {r r' : R2} (ho : OpR X (compareOp op) r) (ho' : OpR X (compareOp op') r') (ha : PE X a ta) (hb : PE X b tb) (hc : PE X c tc)
    (hm : lastMarks [op, op'] [b, c] = false := by with_unfolding_all rfl) : PT X (.Compare a [op, op'] [b, c] pos) (tTest (tChain r r' ta tb tc)) := by
  intro pins s σ H Q I h
  refine isTrue_chain (thn (ha pins s σ H _ I h) fun v s1 ⟨x, H1, I1, r1, q1⟩ => test_link (thn (hb pins s1 σ H1 _ I1 q1) fun u s2 ⟨y, H2, I2, r2, q2⟩ =>
    thn (ho pins s2 σ H2 x y v u _ I2 r1 r2 q2) fun d s3 ⟨z, H3, I3, r3, k, e, q3⟩ => ?_)) hm
  subst e
  cases r3
  refine wpAny_truthy_bool ?_
  cases k with
  | false =>
    obtain ⟨k', e', q'⟩ := q3
    cases e'
    exact ite_ff ⟨H3, I3, q'⟩
  | true =>
    refine ite_tt (test_last (thn (hc pins s3 σ H3 _ I3 q3) fun w' s4 ⟨z', H4, I4, r4, q4⟩ => thn (ho' pins s4 σ H4 y z' u w' _ I4 r2 r4 q4) fun d' s5 ⟨z2, H5, I5, r5, k2, e2, q5⟩ => ?_))
    subst e2
    cases r5
    exact wpAny_truthy_bool ⟨H5, I5, q5⟩

/-! ### truth -/
/-- a value's truth by the abstract heap -/
def TruV (K : PySem.W.Frag) (x : V) (H : Hp) (k : Bool) : Prop :=
  match x with
  | .non => k = false
  | .bl b => k = b
  | .int i => k = (i != 0)
  | .str y => y.length ≤ sizeLine ∧ k = ((y.length : Int) != 0)
  | .byt y => y.size ≤ sizeLine ∧ k = ((y.size : Int) != 0)
  | .ref p => (∃ xs, SqL K H p xs ∧ k = !xs.isEmpty) ∨ (∃ xs, SqT K H p xs ∧ k = !xs.isEmpty) ∨ ∃ kvs, H p = some (.dK kvs) ∧ k = !kvs.isEmpty
  | _ => False
theorem isEmpty_kv {κ : Type} {kvs : List (κ × V)} {vs : List (κ × Value)} (r : KV kvs vs) : (!vs.isEmpty) = !kvs.isEmpty := by
  cases r <;> rfl
theorem isEmpty_of {xs : List V} {its : List Value} (r : Vals xs its) : (!its.toArray.isEmpty) = !xs.isEmpty := by
  cases r <;> simp
theorem line63 : (sizeLine : Nat) < 2 ^ 63 := by rw [sizeLine_eq]; decide
theorem tru_ok : TruR X (fun x H Q => ∃ k, TruV X.K x H k ∧ Q k H) := by
  intro pins s σ H x v Q I rx h
  obtain ⟨k, e, q⟩ := h
  have hl := line63
  have hs : sizeLine = 16777216 := sizeLine_eq
  cases x with
  | non =>
    cases rx
    have e' : k = false := e
    subst e'
    exact truthy_none ⟨H, I, q⟩
  | bl b =>
    cases rx
    have e' : k = b := e
    subst e'
    exact wpAny_truthy_bool ⟨H, I, q⟩
  | int i =>
    obtain ⟨t, rfl⟩ := rx
    have e' : k = (i != 0) := e
    subst e'
    exact PySem.P.truthy_int ⟨H, I, q⟩
  | str y =>
    obtain ⟨t, rfl⟩ := rx
    obtain ⟨hy, e'⟩ : y.length ≤ sizeLine ∧ k = ((y.length : Int) != 0) := e
    subst e'
    exact PySem.P.truthy_str (by omega) ⟨H, I.tok _, q⟩
  | byt y =>
    obtain ⟨t, rfl⟩ := rx
    obtain ⟨hy, e'⟩ : y.size ≤ sizeLine ∧ k = ((y.size : Int) != 0) := e
    subst e'
    exact PySem.W.truthy_bytes (by omega) ⟨H, I.tok _, q⟩
  | ref p =>
    cases rx
    have e' : (∃ xs, SqL X.K H p xs ∧ k = !xs.isEmpty) ∨ (∃ xs, SqT X.K H p xs ∧ k = !xs.isEmpty) ∨ ∃ kvs, H p = some (.dK kvs) ∧ k = !kvs.isEmpty := e
    rcases e' with ⟨xs, hx, e'⟩ | ⟨xs, hx, e'⟩ | ⟨kvs, hx, e'⟩
    · subst e'
      obtain ⟨its, r, pl, hz⟩ := I.list hx
      have hlen := r.length
      exact wpAny_truthy_list pl.isList (by simp only [List.size_toArray]; omega) ⟨H, I.tok _, by rw [isEmpty_of r]; exact q⟩
    · subst e'
      obtain ⟨its, r, pl, hz⟩ := I.tuple hx
      have hlen := r.length
      exact truthy_tuple pl (by simp only [List.size_toArray]; omega) ⟨H, I.tok _, by rw [isEmpty_of r]; exact q⟩
    · subst e'
      obtain ⟨hz, hS, vs, r, m⟩ : kvs.length ≤ sizeLine ∧ (p == sysModules) = false ∧ ∃ vs, KV kvs vs ∧ s.heap.DictOf (mixKind X.prog X.w) p vs := I.hok p _ hx
      have hlen : kvs.length = vs.length := Paired.length r
      exact wpAny_truthy_dict hS m (by omega) ⟨H, I.tok _, by rw [isEmpty_kv r]; exact q⟩
  | _ => exact (show False from e).elim
/-- any expression whose test is its value's truth (a name, a call, a subscript, a field ..: he by fun _ => rfl) -/
theorem pt_truth (ha : PE X a ta) (he : ∀ whole, isTrue a X.env whole = (do let v ← whole; standAt a.pos; holding [v] (truthy v))) :
    PT X a (fun σ H Q => ta σ H fun x H' => ∃ k, TruV X.K x H' k ∧ Q k H') := by
  intro pins s σ H Q I h
  exact isTrue_plain (thn (ha pins s σ H _ I h) fun v s1 ⟨x, H1, I1, r1, q1⟩ => tru_ok pins s1 σ H1 x v Q I1 r1 q1) (he _)

/-! ### strs and bytes -/
theorem pe_byt {x : List UInt8} {k : Nat} : PE X (.Constant (.bytes x) k pos) (fun _ H Q => Q (.byt x.toArray) H) := fun _ _ _ H _ I h => PySem.W.Constant_bytes ⟨.byt x.toArray, H, I.tok _, ⟨_, rfl⟩, h⟩
theorem op_add_str : OpR X (binaryOp .Add) (fun x y H Q => ∃ i j, x = .str i ∧ y = .str j ∧ i.length + j.length ≤ sizeLine ∧ Q (.str (i ++ j)) H) := by
  intro pins s σ H x y v u Q I rx ry h
  obtain ⟨i, j, rfl, rfl, hz, q⟩ := h
  obtain ⟨t, rfl⟩ := rx
  obtain ⟨t', rfl⟩ := ry
  exact add_str (fun t' tk => ⟨.str (i ++ j), H, I.tok _, ⟨_, rfl⟩, q⟩) hz
theorem iop_add_str : OpR X (inplaceOp .Add) (fun x y H Q => ∃ i j, x = .str i ∧ y = .str j ∧ i.length + j.length ≤ sizeLine ∧ Q (.str (i ++ j)) H) := by
  intro pins s σ H x y v u Q I rx ry h
  obtain ⟨i, j, rfl, rfl, hz, q⟩ := h
  obtain ⟨t, rfl⟩ := rx
  obtain ⟨t', rfl⟩ := ry
  exact iadd_str (fun t' tk => ⟨.str (i ++ j), H, I.tok _, ⟨_, rfl⟩, q⟩) hz
theorem op_add_byt : OpR X (binaryOp .Add) (fun x y H Q => ∃ i j, x = .byt i ∧ y = .byt j ∧ i.size + j.size ≤ 16777216 ∧ Q (.byt (i ++ j)) H) := by
  intro pins s σ H x y v u Q I rx ry h
  obtain ⟨i, j, rfl, rfl, hz, q⟩ := h
  obtain ⟨t, rfl⟩ := rx
  obtain ⟨t', rfl⟩ := ry
  exact PySem.W.KBy.add_bytes hz (fun t' tk => ⟨.byt (i ++ j), H, I.tok _, ⟨_, rfl⟩, q⟩)

def PlainIxT (b : Expr) : Prop := ∀ o i, subscripted b false o i = operate [o, i] (getItem o i)
/-- s[i], 0 ≤ i < len -/
theorem pe_item_str (ha : PE X a ta) (hb : PE X b tb) (hs : PlainIxT b) :
    PE X (.Subscript a b pos) (tOp (fun x y H Q => ∃ z i c, x = .str z ∧ y = .int i ∧ 0 ≤ i ∧ i < 2 ^ 63 ∧ i < z.length ∧ z.cps[i.toNat]? = some c ∧ Q (.str ⟨#[c]⟩) H) ta tb) := by
  intro pins s σ H Q I h
  refine Subscript_ (binT ha hb I h fun v u s2 x y H2 I2 rx ry q => ?_)
  obtain ⟨z, i, c, rfl, rfl, h0, h63, h1, hc, q⟩ := q
  obtain ⟨t, rfl⟩ := rx
  obtain ⟨t', rfl⟩ := ry
  have e : seqIndex? i z.length = some i.toNat := PySem.StrLaws.seqIndex_nonneg h0 h1
  exact tail_any (typeIs_str s2 z t) slot_str_getitem.lookup (getItem_str (c := c) (by
    have e1 : decide (i < -(2 ^ 63 : Int)) = false := decide_eq_false (by omega)
    have e2 : decide (i ≥ 2 ^ 63) = false := decide_eq_false (by omega)
    rw [e1, e2] <;> rfl) (by rw [e]; exact hc) ⟨.str ⟨#[c]⟩, H2, I2.tok _, ⟨_, rfl⟩, q⟩) (hs _ _)
/-- b[i], 0 ≤ i < len -/
theorem pe_item_byt (ha : PE X a ta) (hb : PE X b tb) (hs : PlainIxT b) :
    PE X (.Subscript a b pos) (tOp (fun x y H Q => ∃ (z : List UInt8) (i : Int), x = .byt z.toArray ∧ y = .int i ∧ z.length ≤ sizeLine ∧ 0 ≤ i ∧ i < z.length ∧ Q (.int ((z.getD i.toNat 0).toNat : Nat)) H) ta tb) := by
  intro pins s σ H Q I h
  refine Subscript_ (binT ha hb I h fun v u s2 x y H2 I2 rx ry q => ?_)
  obtain ⟨z, i, rfl, rfl, hz, h0, h1, q⟩ := q
  obtain ⟨t, rfl⟩ := rx
  obtain ⟨t', rfl⟩ := ry
  have hl : sizeLine = 16777216 := sizeLine_eq
  exact tail_any (PySem.W.typeIs_bytes s2 z.toArray t) PySem.W.FB.slot_bytes_getitem.lookup (PySem.W.getItem_bytes (by omega) h0 h1 ⟨.int ((z.getD i.toNat 0).toNat : Nat), H2, I2.tok _, ⟨_, rfl⟩, q⟩) (hs _ _)

/-! ### scalar builtins, by CallR -/
theorem vals1 {x : V} {us : List Value} (r : Vals [x] us) : ∃ u, us = [u] ∧ RelV x u := by
  cases r with
  | cons r1 r2 => cases r2; exact ⟨_, rfl, r1⟩
theorem vals2 {x y : V} {us : List Value} (r : Vals [x, y] us) : ∃ u w', us = [u, w'] ∧ RelV x u ∧ RelV y w' := by
  cases r with
  | cons r1 r2 =>
    cases r2 with
    | cons r3 r4 => cases r4; exact ⟨_, _, rfl, r1, r3⟩
theorem call_abs : CallR X (.builtin "abs") (fun xs H Q => ∃ i, xs = [.int i] ∧ Q (.int (if i < 0 then -i else i)) H) := by
  intro pins s σ H xs us Q I r h
  obtain ⟨i, rfl, q⟩ := h
  obtain ⟨u, rfl, t, rfl⟩ := vals1 r
  exact call_abs_int fun u tk => ⟨.int (if i < 0 then -i else i), H, I.tok _, ⟨_, rfl⟩, q⟩
theorem call_max2 (hc : X.calm = true) : CallR X (.builtin "max") (fun xs H Q => ∃ i j, xs = [.int i, .int j] ∧ Q (.int (if j > i then j else i)) H) := by
  intro pins s σ H xs us Q I r h
  obtain ⟨i, j, rfl, q⟩ := h
  obtain ⟨u, w', rfl, ⟨t, rfl⟩, ⟨t', rfl⟩⟩ := vals2 r
  refine max_two_ints (I.ok.hd hc) fun h' tk k => ⟨_, H, I.kept k, ?_, q⟩
  by_cases hj : j > i
  · rw [if_pos hj, if_pos hj]; exact ⟨_, rfl⟩
  · rw [if_neg hj, if_neg hj]; exact ⟨_, rfl⟩
theorem call_min2 (hc : X.calm = true) : CallR X (.builtin "min") (fun xs H Q => ∃ i j, xs = [.int i, .int j] ∧ Q (.int (if j < i then j else i)) H) := by
  intro pins s σ H xs us Q I r h
  obtain ⟨i, j, rfl, q⟩ := h
  obtain ⟨u, w', rfl, ⟨t, rfl⟩, ⟨t', rfl⟩⟩ := vals2 r
  refine min_two_ints (I.ok.hd hc) fun h' tk k => ⟨_, H, I.kept k, ?_, q⟩
  by_cases hj : j < i
  · rw [if_pos hj, if_pos hj]; exact ⟨_, rfl⟩
  · rw [if_neg hj, if_neg hj]; exact ⟨_, rfl⟩
theorem call_int1 : CallR X (.type "int") (fun xs H Q => (∃ i, xs = [.int i] ∧ Q (.int i) H) ∨ ∃ k, xs = [.bl k] ∧ Q (.int (if k then 1 else 0)) H) := by
  intro pins s σ H xs us Q I r h
  rcases h with ⟨i, rfl, q⟩ | ⟨k, rfl, q⟩
  · obtain ⟨u, rfl, t, rfl⟩ := vals1 r
    exact call_int_int ⟨.int i, H, I, ⟨_, rfl⟩, q⟩
  · obtain ⟨u, rfl, r1⟩ := vals1 r
    cases r1
    exact call_int_bool ⟨.int (if k then 1 else 0), H, I.tok _, ⟨_, rfl⟩, q⟩
theorem call_bool1 : CallR X (.type "bool") (fun xs H Q => (∃ i, xs = [.int i] ∧ Q (.bl (i != 0)) H) ∨ ∃ k, xs = [.bl k] ∧ Q (.bl k) H) := by
  intro pins s σ H xs us Q I r h
  rcases h with ⟨i, rfl, q⟩ | ⟨k, rfl, q⟩
  · obtain ⟨u, rfl, t, rfl⟩ := vals1 r
    exact call_bool_int ⟨.bl (i != 0), H, I, rfl, q⟩
  · obtain ⟨u, rfl, r1⟩ := vals1 r
    cases r1
    exact call_bool_bool ⟨.bl k, H, I, rfl, q⟩
theorem call_str_int : CallR X (.type "str") (fun xs H Q => ∃ i, xs = [.int i] ∧ i.natAbs.log2 < 1920 ∧ Q (.str (toString i)) H) := by
  intro pins s σ H xs us Q I r h
  obtain ⟨i, rfl, hz, q⟩ := h
  obtain ⟨u, rfl, t, rfl⟩ := vals1 r
  exact PySem.P.str_of_int hz ⟨.str _, H, I.tok _, ⟨_, rfl⟩, q⟩
theorem call_ord : CallR X (.builtin "ord") (fun xs H Q => ∃ x, xs = [.str x] ∧ x.length = 1 ∧ Q (.int (x.cps.getD 0 0 : Nat)) H) := by
  intro pins s σ H xs us Q I r h
  obtain ⟨x, rfl, hz, q⟩ := h
  obtain ⟨u, rfl, t, rfl⟩ := vals1 r
  exact ord_of_one hz ⟨.int _, H, I.tok _, ⟨_, rfl⟩, q⟩
theorem call_chr : CallR X (.builtin "chr") (fun xs H Q => ∃ i, xs = [.int i] ∧ 0 ≤ i ∧ i ≤ 1114111 ∧ Q (.str ⟨#[i.toNat]⟩) H) := by
  intro pins s σ H xs us Q I r h
  obtain ⟨i, rfl, h0, h1, q⟩ := h
  obtain ⟨u, rfl, t, rfl⟩ := vals1 r
  exact chr_of_range h0 h1 ⟨.str _, H, I.tok _, ⟨_, rfl⟩, q⟩
/-- len of a str, a bytes, a list, a tuple -/
def LenV (K : PySem.W.Frag) (x : V) (H : Hp) (n : Nat) : Prop :=
  match x with
  | .str y => y.length ≤ sizeLine ∧ n = y.length
  | .byt y => y.size ≤ sizeLine ∧ n = y.size
  | .ref p => (∃ xs, SqL K H p xs ∧ n = xs.length) ∨ ∃ xs, SqT K H p xs ∧ n = xs.length
  | _ => False
theorem call_len : CallR X (.builtin "len") (fun xs H Q => ∃ x n, xs = [x] ∧ LenV X.K x H n ∧ Q (.int n) H) := by
  intro pins s σ H xs us Q I r h
  obtain ⟨x, n, rfl, e, q⟩ := h
  obtain ⟨u, rfl, rx⟩ := vals1 r
  have hl := line63
  have hs : sizeLine = 16777216 := sizeLine_eq
  cases x with
  | str y =>
    obtain ⟨t, rfl⟩ := rx
    obtain ⟨hy, e'⟩ : y.length ≤ sizeLine ∧ n = y.length := e
    subst e'
    exact len_str (by omega) ⟨.int _, H, I.tok _, ⟨_, rfl⟩, q⟩
  | byt y =>
    obtain ⟨t, rfl⟩ := rx
    obtain ⟨hy, e'⟩ : y.size ≤ sizeLine ∧ n = y.size := e
    subst e'
    exact PySem.W.len_bytes (by omega) ⟨.int _, H, I.tok _, ⟨_, rfl⟩, q⟩
  | ref p =>
    cases rx
    have e' : (∃ xs, SqL X.K H p xs ∧ n = xs.length) ∨ ∃ xs, SqT X.K H p xs ∧ n = xs.length := e
    rcases e' with ⟨xs, hx, e'⟩ | ⟨xs, hx, e'⟩
    · subst e'
      obtain ⟨its, r', pl, hz⟩ := I.list hx
      have hlen := r'.length
      exact Calls.call_len_list pl.isList (by simp only [List.size_toArray]; omega) ⟨.int xs.length, H, I.tok _, ⟨_, by simp only [List.size_toArray]; rw [hlen]⟩, q⟩
    · subst e'
      obtain ⟨its, r', pl, hz⟩ := I.tuple hx
      have hlen := r'.length
      exact len_tuple pl (by simp only [List.size_toArray]; omega) ⟨.int xs.length, H, I.tok _, ⟨_, by simp only [List.size_toArray]; rw [hlen]⟩, q⟩
  | _ => exact (show False from e).elim
/-- divmod: a new tuple -/
theorem call_divmod : CallR X (.builtin "divmod") (fun xs H Q => ∃ i j, xs = [.int i, .int j] ∧ CDiv i j ∧ ∀ p, H p = none → Q (.ref p) (upd H p (.tup [.int (i / j), .int (i % j)]))) := by
  intro pins s σ H xs us Q I r h
  obtain ⟨i, j, rfl, ⟨h1, h2⟩, q⟩ := h
  obtain ⟨u, w', rfl, ⟨t, rfl⟩, ⟨t', rfl⟩⟩ := vals2 r
  refine divmod_int (by omega) ?_ (.inl (PyProof.noPylong_small (by omega)))
  rw [Int.fdiv_eq_ediv_of_nonneg i (by omega), Int.fmod_eq_emod_of_nonneg i (by omega)]
  have hn : H s.heap.objs.size = none := I.hok.fresh (Nat.le_refl _)
  refine ⟨.ref s.heap.objs.size, _, ?_, rfl, q _ hn⟩
  refine I.laid (fun b o e => Heap.get?_push_of_some _ e) (Nat.le_refl _) ⟨by simp only [List.length_cons, List.length_nil]; rw [sizeLine_eq]; decide, [.int (i / j) s.toks, .int (i % j) (s.toks + 1)], .cons ⟨_, rfl⟩ (.cons ⟨_, rfl⟩ .nil), ?_⟩
  exact ⟨_, Heap.get?_push_size s.heap rfl, rfl, 0, rfl⟩
end
end L2

namespace L2
open PySem PySem.Spec PyProof.Rows

/-! ### an instance, its attributes a map -/
structure ObjM (h : Heap) (x dx C : Addr) (mA : Str → Option Value) : Prop where
  obj : h.get? x = some (PySem.W.instObj C dx)
  ns : h.Ns1 dx mA
  ne : dx ≠ x

theorem lookIn_ns {h : Heap} {dx : Addr} {mA : Str → Option Value} (n : h.Ns1 dx mA) : ∃ od, h.get? dx = some od ∧ ∀ name, PySem.W.lookIn name od = some (mA name) := by
  obtain ⟨o, es, ep, ho, hd, hk, _, hm⟩ := n
  refine ⟨o, ho, fun name => ?_⟩
  have e := hm name
  unfold nsFind findBy at e
  rw [← Array.find?_toList] at e
  unfold PySem.W.lookIn
  rw [hd]
  dsimp only
  split
  · rename_i y q
    rw [q] at e
    exact congrArg some e
  · rename_i q
    rw [q] at e
    have a : es.toList.any (·.refKey) = false := by
      rw [List.any_eq_false]
      intro y hy
      obtain ⟨z, t, hkey⟩ := hk y (Array.mem_toList_iff.mp hy)
      simp [DictEntry.refKey, hkey]
    have a' : ¬ es.toList.any (·.refKey) = true := by rw [a]; exact Bool.false_ne_true
    rw [if_neg a']
    exact congrArg some e

theorem ObjM.look {h : Heap} {x dx C : Addr} {mA : Str → Option Value} (I : ObjM h x dx C mA) : ∃ od, PySem.W.InstAt h x (PySem.W.instObj C dx) C (some od) ∧ ∀ name, PySem.W.lookIn name od = some (mA name) :=
  let ⟨od, ho, hl⟩ := lookIn_ns I.ns
  ⟨od, ⟨I.obj, rfl, rfl, ho⟩, hl⟩

section
variable {prog : Program} {w : World} {A : Around} {E : Value → Shared → Prop} {s : Shared} {K : PySem.W.Frag} {x dx C f : Addr} {mA : Str → Option Value} {name : Str} {v : Value}

theorem get_map {expr : Bool} {Q : Value → Shared → Prop} (X : K.In s.heap) (I : ObjM s.heap x dx C mA) (hg : PySem.W.plainGet K C name = true) (hh : PySem.W.hasDictIn K C = true)
    (ha : PySem.W.findIn K (.ref C) name = some none) (hv : mA name = some v) (hv' : PySem.W.handedIn v = true) (h : Q v { s with toks := s.toks + 1 }) :
    wpAny (model prog w) A (getAttr (.ref x) name expr) Q E s := by
  obtain ⟨od, J, hl⟩ := I.look
  exact PySem.W.get_value X J (PySem.W.plainGet_of hg).1 (PySem.W.findObj_own hh ha rfl (by rw [hl, hv])) hv' h

theorem get_const {expr : Bool} {a : Value} {Q : Value → Shared → Prop} (X : K.In s.heap) (I : ObjM s.heap x dx C mA) (hg : PySem.W.plainGet K C name = true) (hh : PySem.W.hasDictIn K C = true)
    (ha : PySem.W.findIn K (.ref C) name = some (some a)) (hn : PySem.W.specialIn K a "__get__" = some none) (hc : PySem.W.copiedNames.contains name = false) (hv : mA name = none) (hv' : PySem.W.handedIn a = true)
    (h : Q a { s with toks := s.toks + 1 }) : wpAny (model prog w) A (getAttr (.ref x) name expr) Q E s := by
  obtain ⟨od, J, hl⟩ := I.look
  exact PySem.W.get_value X J (PySem.W.plainGet_of hg).1 (PySem.W.findObj_cls hh ha hn hv' hc (by rw [hl, hv])) hv' h

theorem get_meth {pl : Sem Bool} {Q : Value × List Value → Shared → Prop} (X : K.In s.heap) (I : ObjM s.heap x dx C mA) (hg : PySem.W.plainGet K C name = true)
    (hf : PySem.W.findIn K (.ref C) name = some (some (.ref f))) (ht : PySem.W.isFn K (.ref f) = true) (hv : mA name = none) (h : Q (.ref f, [.ref x]) s) :
    wpAny (model prog w) A (getMethod (.ref x) name pl) Q E s := by
  obtain ⟨od, J, hl⟩ := I.look
  exact PySem.W.method_fn X J (PySem.W.plainGet_of hg).1 (PySem.W.plainGet_of hg).2 hf (beq_iff_eq.mp ht) (by show (PySem.W.lookIn name od).map (·.isSome) = some false; rw [hl, hv]; rfl) h

theorem set_map {ns : List Str} {Q : Unit → Shared → Prop} (X : K.In s.heap) (I : ObjM s.heap x dx C mA)
    (hs : PySem.W.findIn K (.ref C) "__setattr__" = some (some (.builtin "object.__setattr__"))) (hp : PySem.W.plainOver K C = true) (ht : PySem.W.takerIn K C name = some none) (hh : PySem.W.hasDictIn K C = true)
    (hw : PySem.Within mA ns) (hsz : ns.length ≤ sizeLine)
    (h : ∀ h', ObjM h' x dx C (fun y => if y = name then some v else mA y) → Heap.SameBut dx s.heap h' → Q () { s with heap := h', toks := s.toks + 2 }) :
    wpAny (model prog w) A (setAttr (.ref x) name v) Q E s := by
  obtain ⟨od, J, hl⟩ := I.look
  refine PySem.W.set_plain X J hs (PySem.W.osa_open (s := { s with toks := s.toks + 1 }) (r := none) X J hp ht fun b => ?_)
  obtain ⟨cd, hc, hd'⟩ := PySem.W.any_some hh
  have hx : s.heap.get? x = some ⟨.ref C, some dx, .plain, #[]⟩ := I.obj
  refine wpAny_bind (wpAny_pure (wpAny_bind (wpAny_bind (wpAny_loadPart hx (wpAny_bind (PySem.W.Looks.here (s := { s with toks := s.toks + 1 }) (PySem.W.looks_clsIn X hc) ?_))))))
  rw [hd']
  refine wpAny_pure (a := some dx) (wpAny_bind (wpAny_pure (wpAny_bind ?_)))
  refine wpAny_nsSet1 (s := { s with toks := s.toks + 1 }) I.ns fun h' hn2 hs2 => ?_
  obtain ⟨oD, esD, epD, hoD, hdD, hcD⟩ := hn2.count (PySem.Within.cons name v hw)
  refine wpAny_bind (wpAny_lookBehind hoD (by rw [hdD]; exact pastItsLine_dict (Nat.le_trans hcD (by rw [List.length_cons]; omega))) ?_)
  exact wpAny_pure (h _ ⟨(hs2.2 _ (Ne.symm I.ne)).trans I.obj, hn2, I.ne⟩ hs2)

/-- C(..): the dict at the heap's end, the instance behind it; then its __init__ -/
theorem make_map {R : Result → Shared → Prop} {vs : List Value} {kw : List (Str × Value)} (X : K.In s.heap) (hm : PySem.W.makesIn K C = true)
    (hi : PySem.W.findIn K (.ref C) "__init__" = some (some (.ref f))) (hf : PySem.W.typeIn K (.ref f) = some (.type "function"))
    (h : codeAny (model prog w) (A.under (.builtin "type.__call__" ⟨.ref C :: vs, kw⟩)) (.call (.ref f) ⟨.ref (s.heap.objs.size + 1) :: vs, kw⟩) (PySem.W.InitBack (s.heap.objs.size + 1) R)
      { s with heap := (s.heap.push PySem.W.emptyDict).push (PySem.W.instObj C s.heap.objs.size) }) :
    codeAny (model prog w) A (.call (.ref C) ⟨vs, kw⟩) R s := by
  obtain ⟨hh, g, d, t, os⟩ := s
  exact PySem.W.make_core (PySem.W.makes_of X hm) (PySem.W.looks_findIn X hi) (fun self => PySem.W.bind_fn X self hf) (.inl rfl) h
/-- C() where there is no __init__ but object's -/
theorem make_map0 {R : Result → Shared → Prop} (X : K.In s.heap) (hm : PySem.W.makesIn K C = true)
    (hi : PySem.W.findIn K (.ref C) "__init__" = some (some (.builtin "object.__init__")))
    (hb : ∀ self, PySem.W.Looks (model prog w) s.heap (bindSpecial (.builtin "object.__init__") self) (.builtin "object.__init__", [self]))
    (h : codeAny (model prog w) (A.under (.builtin "type.__call__" ⟨[.ref C], []⟩)) (.call (.builtin "object.__init__") ⟨[.ref (s.heap.objs.size + 1)], []⟩) (PySem.W.InitBack (s.heap.objs.size + 1) R)
      { s with heap := (s.heap.push PySem.W.emptyDict).push (PySem.W.instObj C s.heap.objs.size) }) :
    codeAny (model prog w) A (.call (.ref C) ⟨[], []⟩) R s := by
  obtain ⟨hh, g, d, t, os⟩ := s
  exact PySem.W.make_core (PySem.W.makes_of X hm) (PySem.W.looks_findIn X hi) hb (.inr ⟨rfl, rfl⟩) h
end

/-! ### the attributes as a list of pairs -/
def putF (f : Str) (v : V) : List (Str × V) → List (Str × V)
  | [] => [(f, v)]
  | (g, x) :: r => if g = f then (g, v) :: r else (g, x) :: putF f v r
theorem lookup_putF (f g : Str) (v : V) : ∀ fs : List (Str × V), (putF f v fs).lookup g = if g = f then some v else fs.lookup g
  | [] => by
    show List.lookup g [(f, v)] = _
    by_cases h : g = f
    · have hb : (g == f) = true := beq_iff_eq.mpr h
      simp only [List.lookup, hb, if_pos h]
    · have hb : (g == f) = false := beq_eq_false_iff_ne.mpr h
      simp only [List.lookup, hb, if_neg h]
  | (k, x) :: r => by
    have ih := lookup_putF f g v r
    rw [show putF f v ((k, x) :: r) = (if k = f then (k, v) :: r else (k, x) :: putF f v r) from rfl]
    by_cases hk : k = f
    · rw [if_pos hk]
      by_cases h : g = k
      · have hb : (g == k) = true := beq_iff_eq.mpr h
        simp only [List.lookup, hb, if_pos (h.trans hk)]
      · have hb : (g == k) = false := beq_eq_false_iff_ne.mpr h
        simp only [List.lookup, hb, if_neg (fun e : g = f => h (e.trans hk.symm))]
    · rw [if_neg hk]
      by_cases h : g = k
      · have hb : (g == k) = true := beq_iff_eq.mpr h
        simp only [List.lookup, hb, if_neg (fun e : g = f => hk (h.symm.trans e))]
      · have hb : (g == k) = false := beq_eq_false_iff_ne.mpr h
        simp only [List.lookup, hb]
        exact ih
theorem keys_putF (f : Str) (v : V) : ∀ fs : List (Str × V), f ∈ (putF f v fs).map (·.1) ∧ ∀ g, g ∈ fs.map (·.1) → g ∈ (putF f v fs).map (·.1)
  | [] => ⟨by simp [putF], fun g h => by simp at h⟩
  | (k, x) :: r => by
    obtain ⟨i1, i2⟩ := keys_putF f v r
    rw [show putF f v ((k, x) :: r) = (if k = f then (k, v) :: r else (k, x) :: putF f v r) from rfl]
    by_cases hk : k = f
    · rw [if_pos hk]
      subst hk
      exact ⟨by simp, fun g h => by simpa using h⟩
    · rw [if_neg hk]
      refine ⟨?_, fun g h => ?_⟩
      · rw [List.map_cons]
        exact List.mem_cons_of_mem _ i1
      · rw [List.map_cons] at h ⊢
        rcases List.mem_cons.mp h with e | e
        · exact List.mem_cons.mpr (.inl e)
        · exact List.mem_cons_of_mem _ (i2 g e)
theorem length_putF (f : Str) (v : V) : ∀ fs : List (Str × V), (putF f v fs).length ≤ fs.length + 1
  | [] => by simp [putF]
  | (k, x) :: r => by
    have ih := length_putF f v r
    rw [show putF f v ((k, x) :: r) = (if k = f then (k, v) :: r else (k, x) :: putF f v r) from rfl]
    by_cases hk : k = f
    · rw [if_pos hk, List.length_cons, List.length_cons]; omega
    · rw [if_neg hk, List.length_cons, List.length_cons]; omega

theorem RelO.some_of {v : V} {o : Option Value} (r : RelO (some v) o) : ∃ u, o = some u ∧ RelV v u := by
  cases o with
  | none => exact (show False from r).elim
  | some u => exact ⟨u, rfl, r⟩
theorem RelO.none_of {o : Option Value} (r : RelO none o) : o = none := by
  cases o with
  | none => rfl
  | some u => exact (show False from r).elim
theorem handed_of {v : V} {u : Value} (r : RelV v u) : PySem.W.handedIn u = true := by
  cases v with
  | non => cases (show u = Value.none from r); rfl
  | bl b => cases (show u = Value.bool b from r); rfl
  | int i => obtain ⟨t, e⟩ := (show ∃ t, u = Value.int i t from r); cases e; rfl
  | str x => obtain ⟨t, e⟩ := (show ∃ t, u = Value.str x t from r); cases e; rfl
  | byt b => obtain ⟨t, e⟩ := (show ∃ t, u = Value.bytes b t from r); cases e; rfl
  | flt b => obtain ⟨t, e⟩ := (show ∃ t, u = Value.float b t from r); cases e; rfl
  | ref a => cases (show u = Value.ref a from r); rfl
  | ty n => cases (show u = Value.type n from r); rfl

section
variable {P : Program} {w : World} {H H' : Hp} {h h' : Heap} {a C dx : Addr} {fs fs' : List (Str × V)}
theorem ins_get (hok : HOk P w H h) (e : H a = some (.ins C dx fs)) : ∃ mA, ObjM h a dx C mA ∧ (∀ f, RelO (fs.lookup f) (mA f)) ∧ PySem.Within mA (fs.map (·.1)) ∧ fs.length ≤ 1000 ∧ H dx = some (.own a) := by
  obtain ⟨d, z, ne, ob, mA, n, r, q⟩ := (show ObjOk P w H h a (.ins C dx fs) from hok a _ e)
  exact ⟨mA, ⟨ob, n, ne⟩, r, q, z, d⟩
end

/-! ### what of the text a class must have -/
structure Cls (K : PySem.W.Frag) (C : Addr) : Prop where
  pg : PySem.W.plainGet K C Str.empty = true
  hd : PySem.W.hasDictIn K C = true
  po : PySem.W.plainOver K C = true
  sa : PySem.W.findIn K (.ref C) "__setattr__" = some (some (.builtin "object.__setattr__"))
theorem Cls.get {K : PySem.W.Frag} {C : Addr} (c : Cls K C) (f : Str) : PySem.W.plainGet K C f = true := c.pg
/-- no class of it has the name -/
def NoAttr (K : PySem.W.Frag) (C : Addr) (f : Str) : Prop := PySem.W.findIn K (.ref C) f = some none
theorem NoAttr.taker {K : PySem.W.Frag} {C : Addr} {f : Str} (n : NoAttr K C f) : PySem.W.takerIn K C f = some none := by
  unfold PySem.W.takerIn
  rw [show PySem.W.findIn K (.ref C) f = some none from n]
  rfl
/-- a constant of the class -/
structure Con (K : PySem.W.Frag) (C : Addr) (f : Str) (v : V) (u : Value) : Prop where
  at_ : PySem.W.findIn K (.ref C) f = some (some u)
  rel : RelV v u
  get : PySem.W.specialIn K u "__get__" = some none
  cp : PySem.W.copiedNames.contains f = false
/-- a method: a plain def of the class or of one above it -/
structure Meth (K : PySem.W.Frag) (C : Addr) (m : Str) (f : Addr) : Prop where
  at_ : PySem.W.findIn K (.ref C) m = some (some (.ref f))
  fn : PySem.W.isFn K (.ref f) = true
  kp : PySem.W.keepIn K (.ref f) = true

section
variable {X : Cx} {pins : List (Addr × Obj)} {σ : St} {H : Hp} {s : Shared} {a C dx : Addr} {fs : List (Str × V)} {f : Str} {v : V} {A : Around} {E : Value → Shared → Prop}

theorem getattr_ok {b : Bool} {Q : Value → Shared → Prop} (I : Inv X pins σ H s) (e : H a = some (.ins C dx fs)) (c : Cls X.K C) (n : NoAttr X.K C f) (l : fs.lookup f = some v)
    (h : ∀ u s', Inv X pins σ H s' → RelV v u → Q u s') : wpAny (model X.prog X.w) A (getAttr (.ref a) f b) Q E s := by
  obtain ⟨mA, O, r, _, _, _⟩ := ins_get I.hok e
  obtain ⟨u, hu, ru⟩ := RelO.some_of (v := v) (o := mA f) (by rw [← l]; exact r f)
  exact get_map I.kIn O (c.get f) c.hd n hu (handed_of ru) (h u _ (I.tok _) ru)

theorem getcon_ok {b : Bool} {u : Value} {Q : Value → Shared → Prop} (I : Inv X pins σ H s) (e : H a = some (.ins C dx fs)) (c : Cls X.K C) (k : Con X.K C f v u) (l : fs.lookup f = none)
    (h : ∀ s', Inv X pins σ H s' → Q u s') : wpAny (model X.prog X.w) A (getAttr (.ref a) f b) Q E s := by
  obtain ⟨mA, O, r, _, _, _⟩ := ins_get I.hok e
  have hn : mA f = none := RelO.none_of (by rw [← l]; exact r f)
  exact get_const I.kIn O (c.get f) c.hd k.at_ k.get k.cp hn (handed_of k.rel) (h _ (I.tok _))

theorem getmeth_ok {m : Str} {g : Addr} {pl : Sem Bool} {Q : Value × List Value → Shared → Prop} (I : Inv X pins σ H s) (e : H a = some (.ins C dx fs)) (c : Cls X.K C) (k : Meth X.K C m g) (l : fs.lookup m = none)
    (h : Q (.ref g, [.ref a]) s) : wpAny (model X.prog X.w) A (getMethod (.ref a) m pl) Q E s := by
  obtain ⟨mA, O, r, _, _, _⟩ := ins_get I.hok e
  have hn : mA m = none := RelO.none_of (by rw [← l]; exact r m)
  exact get_meth I.kIn O (c.get m) k.at_ k.fn hn h

theorem setattr_ok {y : V} {u : Value} {Q : Unit → Shared → Prop} (I : Inv X pins σ H s) (e : H a = some (.ins C dx fs)) (c : Cls X.K C) (n : NoAttr X.K C f) (hl : fs.length < 1000) (ry : RelV y u)
    (h : ∀ s', Inv X pins σ (upd H a (.ins C dx (putF f y fs))) s' → Q () s') : wpAny (model X.prog X.w) A (setAttr (.ref a) f u) Q E s := by
  obtain ⟨mA, O, r, wi, _, ho⟩ := ins_get I.hok e
  have hz : (fs.map (·.1)).length ≤ sizeLine := by rw [List.length_map, sizeLine_eq]; omega
  refine set_map I.kIn O c.sa c.po n.taker c.hd wi hz fun h' O' sb => h _ ?_
  have hd : ∃ o, h'.get? dx = some o := let ⟨o, _, _, e', _⟩ := O'.ns; ⟨o, e'⟩
  refine I.write (x := a) (e := dx) (by rw [e]; exact True.intro) (.inr ho) (fun b q hb z => (sb.2 b hb).trans z) hd ?_
  refine ⟨by rw [upd_ne O.ne]; exact ho, ?_, O.ne, O'.obj, _, O'.ns, fun g => ?_, fun g hg => ?_⟩
  · have := length_putF f y fs; omega
  · show RelO ((putF f y fs).lookup g) (if g = f then some u else mA g)
    rw [lookup_putF]
    by_cases q : g = f
    · rw [if_pos q, if_pos q]; exact ry
    · rw [if_neg q, if_neg q]; exact r g
  · by_cases q : g = f
    · rw [q]; exact (keys_putF f y fs).1
    · refine (keys_putF f y fs).2 g (wi g fun z => hg ?_)
      show (if g = f then some u else mA g) = none
      rw [if_neg q]; exact z

/-- a new instance, tracked, without attributes -/
theorem Inv.made (I : Inv X pins σ H s) : Inv X pins σ (upd (upd H s.heap.objs.size (.own (s.heap.objs.size + 1))) (s.heap.objs.size + 1) (.ins C s.heap.objs.size []))
    { s with heap := (s.heap.push PySem.W.emptyDict).push (PySem.W.instObj C s.heap.objs.size) } := by
  have e1 : (s.heap.push PySem.W.emptyDict).get? s.heap.objs.size = some PySem.W.emptyDict := Heap.get?_push_size s.heap rfl
  have e2 : ((s.heap.push PySem.W.emptyDict).push (PySem.W.instObj C s.heap.objs.size)).get? (s.heap.objs.size + 1) = some (PySem.W.instObj C s.heap.objs.size) := by
    have := Heap.get?_push_size (s.heap.push PySem.W.emptyDict) (o := PySem.W.instObj C s.heap.objs.size) rfl
    rwa [Heap.size_push] at this
  have e3 : (s.heap.push PySem.W.emptyDict).Ns s.heap.objs.size (fun _ => none) := ⟨PySem.W.emptyDict, #[], _, e1, rfl, (fun e he => absurd he (by simp)), fun _ => rfl⟩
  have I1 := I.laid (a := s.heap.objs.size) (o := .own (s.heap.objs.size + 1)) (h' := s.heap.push PySem.W.emptyDict) (t' := s.toks) (fun b u q => Heap.get?_push_of_some _ q) (Nat.le_refl _) ⟨_, e1⟩
  refine I1.laid (a := s.heap.objs.size + 1) (o := .ins C s.heap.objs.size []) (t' := s.toks) (fun b u q => Heap.get?_push_of_some _ q) (Nat.le_of_eq (Heap.size_push _ _)) ?_
  have ne : s.heap.objs.size ≠ s.heap.objs.size + 1 := Nat.ne_of_lt (Nat.lt_succ_self _)
  refine ⟨by rw [upd_ne ne, upd_same], Nat.zero_le _, ne, e2, fun _ => none, (Heap.Ns1.of_empty e3).at fun o q => Heap.get?_push_of_some _ q, fun _ => True.intro, fun y hy => absurd rfl hy⟩

/-- e.f where nothing but the object is asked: through attributeBase (super) and the last hold -/
theorem attr_of {prog : Program} {w : World} {env : Env} {e : Expr} {f : Str} {pos : Pos} {s : Shared} {Q : Value → Shared → Prop} (hb : attributeBase e f env (eval e env) = eval e env)
    (h : wpAny (model prog w) A (eval e env) (fun o s₁ => wpAny (model prog w) A (getAttr o f true) Q E s₁) E s) : wpAny (model prog w) A (eval (.Attribute e f pos) env) Q E s :=
  Attribute_any_ h (by rw [arm_eval_Attribute, hb])
end

/-! ### readings and rules -/
/-- e.f, an attribute of the instance -/
def tFld (K : PySem.W.Frag) (ta : TE) (f : Str) : TE := fun σ H Q => ta σ H fun x H1 => ∃ a C dx fs v, x = .ref a ∧ H1 a = some (.ins C dx fs) ∧ Cls K C ∧ NoAttr K C f ∧ fs.lookup f = some v ∧ Q v H1
/-- e.f, a constant of the class -/
def tCon (K : PySem.W.Frag) (ta : TE) (f : Str) : TE := fun σ H Q => ta σ H fun x H1 => ∃ a C dx fs v u, x = .ref a ∧ H1 a = some (.ins C dx fs) ∧ Cls K C ∧ Con K C f v u ∧ fs.lookup f = none ∧ Q v H1
/-- e.f = value -/
def sFld (K : PySem.W.Frag) (ta tv : TE) (f : Str) : TS := fun D σ H => tv σ H fun y H1 => ta σ H1 fun x H2 => ∃ a C dx fs, x = .ref a ∧ H2 a = some (.ins C dx fs) ∧ Cls K C ∧ NoAttr K C f ∧ fs.length < 1000 ∧
  D.nx σ (upd H2 a (.ins C dx (putF f y fs)))
/-- an augmented operator on two values -/
def InOp (X : Cx) (op : Operator) (rd : V → V → Hp → VK → Prop) : Prop :=
  ∀ (pins : List (Addr × Obj)) (s : Shared) (σ : St) (H : Hp) (x y : V) (u v : Value) (Q : VK), Inv X pins σ H s → RelV x u → RelV y v → rd x y H Q → wpAny (model X.prog X.w) X.A (inplaceOp op u v) (EP X pins σ Q) X.xe s
/-- e.f op= value -/
def sFldAug (K : PySem.W.Frag) (ta tv : TE) (rd : V → V → Hp → VK → Prop) (f : Str) : TS := fun D σ H => ta σ H fun x H1 => ∃ a C dx fs v, x = .ref a ∧ H1 a = some (.ins C dx fs) ∧ Cls K C ∧ NoAttr K C f ∧ fs.lookup f = some v ∧
  tv σ H1 fun y H2 => rd v y H2 fun z H3 => ∃ dx' fs', H3 a = some (.ins C dx' fs') ∧ fs'.length < 1000 ∧ D.nx σ (upd H3 a (.ins C dx' (putF f z fs')))

section
variable {X : Cx} {o e value : Expr} {f : Str} {pos pos' tpos : Pos} {ta tv : TE}
theorem pe_fld (he : PE X e ta) (hb : attributeBase e f X.env (eval e X.env) = eval e X.env) : PE X (.Attribute e f pos) (tFld X.K ta f) := by
  intro pins s σ H Q I h
  refine attr_of hb (thn (he pins s σ H _ I h) fun u s1 ⟨x, H1, I1, rx, a, C, dx, fs, v, ex, ea, c, n, l, q⟩ => ?_)
  subst ex
  obtain rfl : u = Value.ref a := rx
  exact getattr_ok I1 ea c n l fun u' s2 I2 ru => ⟨v, H1, I2, ru, q⟩
theorem pe_con (he : PE X e ta) (hb : attributeBase e f X.env (eval e X.env) = eval e X.env) : PE X (.Attribute e f pos) (tCon X.K ta f) := by
  intro pins s σ H Q I h
  refine attr_of hb (thn (he pins s σ H _ I h) fun u s1 ⟨x, H1, I1, rx, a, C, dx, fs, v, u0, ex, ea, c, k, l, q⟩ => ?_)
  subst ex
  obtain rfl : u = Value.ref a := rx
  exact getcon_ok I1 ea c k l fun s2 I2 => ⟨v, H1, I2, k.rel, q⟩
theorem ps_fld (ha : PE X o ta) (hv : PE X value tv) (hs : swapsWith value (some (.Attribute o f pos')) pos.line X.env = pure false) : PS X (.Assign [.Attribute o f pos'] value pos) (sFld X.K ta tv f) := by
  intro pins s σ H D I h
  refine plainObj_wpAny_Assign_Attribute (thn (hv pins s σ H _ I h) fun u s1 ⟨y, H1, I1, ry, q⟩ => thn (ha pins s1 σ H1 _ I1 q) fun ov s2 ⟨x, H2, I2, rx, a, C, dx, fs, ex, ea, c, n, l, q2⟩ => ?_) hs
  subst ex
  obtain rfl : ov = Value.ref a := rx
  exact setattr_ok I2 ea c n l ry fun s3 I3 => ⟨σ, _, I3, q2⟩
theorem ps_fldaug {op : Operator} {rd : V → V → Hp → VK → Prop} (ha : PE X o ta) (hv : PE X value tv) (hop : InOp X op rd) : PS X (.AugAssign (.Attribute o f tpos) op value pos) (sFldAug X.K ta tv rd f) := by
  intro pins s σ H D I h
  refine wpAny_AugAssign_AttributeAny (thn (ha pins s σ H _ I h) fun ov s1 ⟨x, H1, I1, rx, a, C, dx, fs, v, ex, ea, c, n, l, q⟩ => ?_)
  subst ex
  obtain rfl : ov = Value.ref a := rx
  refine getattr_ok I1 ea c n l fun u s2 I2 ru => thn (hv pins s2 σ H1 _ I2 q) fun w3 s3 ⟨y, H2, I3, ry, q3⟩ => thn (hop pins s3 σ H2 v y u w3 _ I3 ru ry q3) fun w4 s4 ⟨z, H3, I4, rz, dx', fs', ea', l', q4⟩ => ?_
  exact setattr_ok I4 ea' c n l' rz fun s5 I5 => ⟨σ, _, I5, q4⟩
def rAdd : V → V → Hp → VK → Prop := fun x y H Q => ∃ i j, x = .int i ∧ y = .int j ∧ Q (.int (i + j)) H
def rSub : V → V → Hp → VK → Prop := fun x y H Q => ∃ i j, x = .int i ∧ y = .int j ∧ Q (.int (i - j)) H
theorem in_add : InOp X .Add rAdd := by
  rintro pins s σ H x y u v Q I rx ry ⟨i, j, rfl, rfl, q⟩
  obtain ⟨t, rfl⟩ := (show ∃ t, u = Value.int i t from rx)
  obtain ⟨t', rfl⟩ := (show ∃ t', v = Value.int j t' from ry)
  exact PyProof.Rows.iadd_int ⟨.int (i + j), H, I.tok _, ⟨_, rfl⟩, q⟩
theorem in_sub : InOp X .Sub rSub := by
  rintro pins s σ H x y u v Q I rx ry ⟨i, j, rfl, rfl, q⟩
  obtain ⟨t, rfl⟩ := (show ∃ t, u = Value.int i t from rx)
  obtain ⟨t', rfl⟩ := (show ∃ t', v = Value.int j t' from ry)
  exact PyProof.Rows.isub_int ⟨.int (i - j), H, I.tok _, ⟨_, rfl⟩, q⟩

/-- what is between an instance and its method: the tree of a method call -/
theorem methcall_of {pl : Sem Bool} {m : Str} {apos : Pos} {args : List Expr} {pins : List (Addr × Obj)} {s : Shared} {σ : St} {H : Hp} {Q : Value → Shared → Prop} {te : TE} (he : PE X e te) (I : Inv X pins σ H s)
    (h : te σ H fun x H1 => ∃ a C dx fs g, x = .ref a ∧ H1 a = some (.ins C dx fs) ∧ Cls X.K C ∧ Meth X.K C m g ∧ fs.lookup m = none ∧
      ∀ s1, Inv X pins σ H1 s1 → wpAny (model X.prog X.w) X.A (callWith pos (.ref g) [.ref a] (backTo pos (starEach args X.env)) (backToKw pos (keywordEach [] X.env))) Q X.xe s1)
    (ht : eval (.Call (.Attribute e m apos) args [] pos) X.env = (do
      let ov ← eval e X.env
      standAt apos.atName
      let (f, first) ← holding [ov] (getMethod ov m pl)
      callWith pos f first (backTo pos (starEach args X.env)) (backToKw pos (keywordEach [] X.env)))) :
    wpAny (model X.prog X.w) X.A (eval (.Call (.Attribute e m apos) args [] pos) X.env) Q X.xe s := by
  refine PySem.W.methodCall_KW (pl := pl) (thn (he pins s σ H _ I h) fun u s1 ⟨x, H1, I1, rx, a, C, dx, fs, g, ex, ea, c, k, l, q⟩ => ?_) ht
  subst ex
  obtain rfl : u = Value.ref a := rx
  exact getmeth_ok I1 ea c k l (q s1 I1)
end

/-! ### isinstance -/
section
variable {X : Cx} {pins : List (Addr × Obj)} {σ : St} {H : Hp} {s : Shared} {A : Around} {E : Value → Shared → Prop} {Q : Value → Shared → Prop} {c : Value} {b : Bool}
/-- the type of a value, as the fragment's deciders take it; for an instance its class -/
inductive TyOf (K : PySem.W.Frag) (H : Hp) : V → Value → Prop where
  | non : TyOf K H .non (.type "NoneType")
  | bl (x : Bool) : TyOf K H (.bl x) (.type "bool")
  | int (i : Int) : TyOf K H (.int i) (.type "int")
  | str (x : Str) : TyOf K H (.str x) (.type "str")
  | flt (x : UInt64) : TyOf K H (.flt x) (.type "float")
  | lst {a : Addr} {xs : List V} (e : H a = some (.lst xs)) : TyOf K H (.ref a) (.type "list")
  | frz {a : Addr} {o : Obj} {xs : List V} (e : H a = some (.frz o (.lst xs))) : TyOf K H (.ref a) (.type "list")
  | tup {a : Addr} {xs : List V} (e : H a = some (.tup xs)) : TyOf K H (.ref a) (.type "tuple")
  | dK {a : Addr} {kvs : List (Key × V)} (e : H a = some (.dK kvs)) : TyOf K H (.ref a) (.type "dict")
  | dT {a : Addr} {kvs : List (List Key × V)} (e : H a = some (.dT kvs)) : TyOf K H (.ref a) (.type "dict")
  | ins {a C dx : Addr} {fs : List (Str × V)} (e : H a = some (.ins C dx fs)) (cl : Cls K C) (ha : PySem.W.findIn K (.ref C) "__class__" = some (some (.builtin "object.__class__")))
      (hn : PySem.W.specialIn K (.builtin "object.__class__") "__get__" = some (some (.builtin "getset_descriptor.__get__"))) (htk : PySem.W.takesIn K (.builtin "object.__class__") = some true)
      (hm : PySem.W.mroIn K C (.type "object") = some true) : TyOf K H (.ref a) (.ref C)
/-- isinstance(x, c) for one class c, a built-in or an own one: kitOne's answer -/
theorem isinst_ok {x : V} {u t : Value} (I : Inv X pins σ H s) (rx : RelV x u) (ty : TyOf X.K H x t) (e : PySem.W.kitOne X.K t c = some b) (h : ∀ tk, Q (.bool b) { s with toks := tk }) :
    wpAny (model X.prog X.w) A (call (.builtin "isinstance") [u, c]) Q E s := by
  cases ty with
  | non => cases (show u = Value.none from rx); exact PySem.W.kia_one PySem.W.kitx_none I.kIn True.intro e (fun z => nomatch z) h
  | bl y => cases (show u = Value.bool y from rx); exact PySem.W.kia_one PySem.W.kitx_bool I.kIn True.intro e (fun z => nomatch z) h
  | int i => obtain ⟨t, q⟩ := (show ∃ t, u = Value.int i t from rx); cases q; exact PySem.W.kia_one PySem.W.kitx_int I.kIn True.intro e (fun z => nomatch z) h
  | str y => obtain ⟨t, q⟩ := (show ∃ t, u = Value.str y t from rx); cases q; exact PySem.W.kia_one PySem.W.kitx_str I.kIn True.intro e (fun z => nomatch z) h
  | flt y => obtain ⟨t, q⟩ := (show ∃ t, u = Value.float y t from rx); cases q; exact PySem.W.kia_one PySem.W.kitx_float I.kIn True.intro e (fun z => nomatch z) h
  | @lst a xs ea =>
    cases (show u = Value.ref a from rx)
    obtain ⟨_, _, n, _, h1⟩ := (show ObjOk X.prog X.w H s.heap a (.lst xs) from I.hok a _ ea)
    exact PySem.W.kia_one PySem.W.kitx_list I.kIn ⟨_, h1, rfl⟩ e (fun z => nomatch z) h
  | @frz a ob xs ea =>
    cases (show u = Value.ref a from rx)
    obtain ⟨_, _, _, n, _, h1⟩ := (show ObjOk X.prog X.w H s.heap a (.frz ob (.lst xs)) from I.hok a _ ea)
    exact PySem.W.kia_one PySem.W.kitx_list I.kIn ⟨_, h1, rfl⟩ e (fun z => nomatch z) h
  | @tup a xs ea =>
    cases (show u = Value.ref a from rx)
    obtain ⟨_, _, _, p⟩ := (show ObjOk X.prog X.w H s.heap a (.tup xs) from I.hok a _ ea)
    obtain ⟨o, h1, h2, _⟩ := p
    exact PySem.W.kia_one PySem.W.kitx_tuple I.kIn ⟨o, h1, h2⟩ e (fun z => nomatch z) h
  | @dK a kvs ea =>
    cases (show u = Value.ref a from rx)
    obtain ⟨_, _, vs, _, p⟩ := (show ObjOk X.prog X.w H s.heap a (.dK kvs) from I.hok a _ ea)
    obtain ⟨o, es, ep, h1, h2, _⟩ := p
    exact PySem.W.kia_one PySem.W.kitx_dict I.kIn ⟨o, h1, h2.1⟩ e (fun z => nomatch z) h
  | @dT a kvs ea =>
    cases (show u = Value.ref a from rx)
    obtain ⟨_, _, xs, _, o, es, ep, h1, h2, _⟩ := (show ObjOk X.prog X.w H s.heap a (.dT kvs) from I.hok a _ ea)
    exact PySem.W.kia_one PySem.W.kitx_dict I.kIn ⟨o, h1, h2.1⟩ e (fun z => nomatch z) h
  | @ins a C dx fs ea cl ha hn htk hm =>
    cases (show u = Value.ref a from rx)
    obtain ⟨mA, O, _⟩ := ins_get I.hok ea
    obtain ⟨od, J, _⟩ := O.look
    exact PySem.W.kia_one (PySem.W.kitx_own (cl.get _) cl.hd ha hn htk hm) I.kIn J e (fun z => nomatch z) h
end
end L2

namespace L2
open PySem PySem.Spec PyProof.Rows

/-! ### room -/
structure Room (k : Nat) (A : Around) : Prop where
  hd : A.handled = none
  dp : A.depth + 3 * k + 5 < recursionLimit
  un : A.units + 16 * k + 200 < cLine
theorem Room.mono {j k : Nat} {A : Around} (r : Room k A) (h : j ≤ k) : Room j A := ⟨r.hd, by have := r.dp; omega, by have := r.un; omega⟩
theorem Room.deeper {k : Nat} {A : Around} (r : Room (k + 1) A) (env : Env) : Room k (A.deeper env) :=
  ⟨r.hd, by have := r.dp; show A.depth + 1 + 3 * k + 5 < _; omega, by have := r.un; show A.units + 3 + 16 * k + 200 < _; omega⟩
theorem Room.in1 {k : Nat} {A : Around} (r : Room (k + 1) A) : Room k A.in1 :=
  ⟨r.hd, by have := r.dp; show A.depth + 3 * k + 5 < _; omega, by have := r.un; show A.units + 1 + 16 * k + 200 < _; omega⟩
theorem make_depth {A : Around} {C : Addr} {us : List Value} {kw : List (Str × Value)} : (A.under (.builtin "type.__call__" ⟨.ref C :: us, kw⟩)).depth = A.depth + 1 := by
  first | rfl | simp [Around.under, Code.weight, Code.isCreation, Code.isGuard, Code.isCaller, Code.frames, Code.isFrame, guardIds]
theorem make_units {A : Around} {C : Addr} {us : List Value} {kw : List (Str × Value)} : (A.under (.builtin "type.__call__" ⟨.ref C :: us, kw⟩)).units = A.units + 1 := by
  first | rfl | simp [Around.under, Code.cUnits, Code.frames, Code.isFrame]
theorem Room.make {k : Nat} {A : Around} (r : Room (k + 1) A) (C : Addr) (us : List Value) (kw : List (Str × Value)) : Room k (A.under (.builtin "type.__call__" ⟨.ref C :: us, kw⟩)) :=
  ⟨r.hd, by have := r.dp; rw [make_depth]; omega, by have := r.un; rw [make_units]; omega⟩
theorem Room.depth {k : Nat} {A : Around} (r : Room k A) : A.depth < recursionLimit := by have := r.dp; omega
theorem Room.units {k : Nat} {A : Around} (r : Room k A) : A.units + 64 < cLine := by have := r.un; omega
theorem Room.units0 {k : Nat} {A : Around} (r : Room k A) : A.units < cLine := by have := r.un; omega

/-! ### argument lists and displays -/
def tNil : TA := fun _ H Q => Q [] H
def tCons (ta : TE) (tr : TA) : TA := fun σ H Q => ta σ H fun x H1 => tr σ H1 fun xs H2 => Q (x :: xs) H2
section
variable {X : Cx} {e : Expr} {es : List Expr} {te : TE} {t : TA} {pos : Pos}
theorem pa_nil : PA X [] tNil := fun _ _ _ _ H Q I h => Calls.spliced_nil ⟨[], H, I, .nil, h⟩
theorem pa_cons (ha : PE X e te) (hr : PA X es t) (hs : starEach (e :: es) X.env = (false, eval e X.env) :: starEach es X.env := by rfl) : PA X (e :: es) (tCons te t) := by
  intro pos pins s σ H Q I h
  rw [hs]
  show wpAny _ _ (spliced ((false, eval e X.env) :: backTo pos (starEach es X.env))) _ _ s
  refine Calls.spliced_cons (thn (ha pins s σ H _ I h) fun u s1 ⟨x, H1, I1, r1, q1⟩ => ?_)
  exact thn (hr pos pins s1 σ H1 _ I1 q1) fun us s2 ⟨xs, H2, I2, r2, q2⟩ => ⟨x :: xs, H2, I2, .cons r1 r2, q2⟩

/-- a tuple, a list of written items -/
def tTup (t : TA) : TE := fun σ H Q => t σ H fun xs H1 => xs.length ≤ sizeLine ∧ ∀ p, H1 p = none → Q (.ref p) (upd H1 p (.tup xs))
def tLst (t : TA) : TE := fun σ H Q => t σ H fun xs H1 => xs.length ≤ sizeLine ∧ ∀ p, H1 p = none → Q (.ref p) (upd H1 p (.lst xs))
theorem pe_tup {x1} (h : PA X es t) : PE X (.Tuple es x1 pos) (tTup t) := by
  intro pins s σ H Q I hq
  refine wpAny_Tuple_spliced (thn (h pos pins s σ H _ I hq) fun us s1 ⟨xs, H1, I1, r, z, q⟩ => ⟨by rw [← r.length]; exact z, ?_⟩)
  have hf : H1 s1.heap.objs.size = none := I1.hok.fresh (Nat.le_refl _)
  refine ⟨.ref s1.heap.objs.size, upd H1 s1.heap.objs.size (.tup xs), I1.laid (t' := s1.toks) (fun b u e => Heap.get?_push_of_some _ e) (Nat.le_refl _) ?_, rfl, q _ hf⟩
  exact ⟨z, us, r, ⟨_, Heap.get?_push_size _ rfl, rfl, _, rfl⟩⟩
theorem pe_lst (h : PA X es t) : PE X (.List es pos) (tLst t) := by
  intro pins s σ H Q I hq
  refine wpAny_List_spliced (thn (h pos pins s σ H _ I hq) fun us s1 ⟨xs, H1, I1, r, z, q⟩ => ⟨by rw [← r.length]; exact z, ?_⟩)
  have hf : H1 s1.heap.objs.size = none := I1.hok.fresh (Nat.le_refl _)
  refine ⟨.ref s1.heap.objs.size, upd H1 s1.heap.objs.size (.lst xs), I1.laid (t' := s1.toks) (fun b u e => Heap.get?_push_of_some _ e) (Nat.le_refl _) ?_, rfl, q _ hf⟩
  exact ⟨z, us, 0, r, Heap.get?_push_size _ rfl⟩
end

/-! ### what a def promises -/
/-- a def's promise: the bound arguments in the parameters' order, the heap, the wanted end, the wanted exception -/
abbrev Sp := List V → Hp → VK → XK → Prop
/-- how an exception lies behind a call (file 08 gives it): the callers' frames, abstract heap and state ahead of the call, the wish, the exception, the state -/
abbrev CXT := List Env → Hp → Shared → XK → Value → Shared → Prop

/-- the state at a call -/
structure Env0 (P : Program) (w : World) (K : PySem.W.Frag) (mg : Str → Option Value) (base : Heap) (A : Around) (outer : List Env) (s : Shared) (H : Hp) : Prop where
  frames : A.frames = some outer
  mod : Mod K mg base
  bs : ∀ b o, base.get? b = some o → s.heap.get? b = some o ∧ H b = none
  bsz : base.objs.size ≤ s.heap.objs.size
  funs : s.heap.FunFrames base outer
  frf : ∀ b ∈ frs outer, H b = none
  hok : HOk P w H s.heap
  bare : AllBare s.gens
/-- a call's end -/
def CE (outer : List Env) (P : Program) (w : World) (H : Hp) (s : Shared) (Q : VK) (u : Value) (s' : Shared) : Prop :=
  ∃ v H', s'.os = s.os ∧ AllBare s'.gens ∧ Un (frs outer) [] H H' s.heap s'.heap ∧ HOk P w H' s'.heap ∧ RelV v u ∧ Q v H'
def CR (CX : CXT) (outer : List Env) (P : Program) (w : World) (H : Hp) (s : Shared) (Q : VK) (E : XK) (r : Result) (s' : Shared) : Prop :=
  match r with
  | .ok (.ret u) => CE outer P w H s Q u s'
  | .ok _ => False
  | .error e => CX outer H s E e s'
structure FnOk (P : Program) (w : World) (K : PySem.W.Frag) (mg : Str → Option Value) (base : Heap) (CX : CXT) (k : Nat) (f : Addr) (fd : FuncData) (ps : List Str) (sp : Sp) : Prop where
  len : ∀ vs H Q E, sp vs H Q E → vs.length = ps.length
  run : ∀ (A : Around) (outer : List Env) (s : Shared) (H : Hp) (args : Args) (us : List Value) (vs : List V) (Q : VK) (E : XK), Room k A → Env0 P w K mg base A outer s H → BindsTo s fd args (ps.zip us) → Vals vs us → sp vs H Q E →
    codeAny (model P w) A (.call (.ref f) args) (CR CX outer P w H s Q E) s
theorem FnOk.mono {P : Program} {w : World} {K : PySem.W.Frag} {mg : Str → Option Value} {base : Heap} {CX : CXT} {j k : Nat} {f : Addr} {fd : FuncData} {ps : List Str} {sp : Sp} (F : FnOk P w K mg base CX j f fd ps sp) (h : j ≤ k) :
    FnOk P w K mg base CX k f fd ps sp := ⟨F.len, fun A outer s H args us vs Q E hr => F.run A outer s H args us vs Q E (hr.mono h)⟩
/-- a weaker promise -/
theorem FnOk.imp {P : Program} {w : World} {K : PySem.W.Frag} {mg : Str → Option Value} {base : Heap} {CX : CXT} {k : Nat} {f : Addr} {fd : FuncData} {ps : List Str} {sp sp' : Sp} (F : FnOk P w K mg base CX k f fd ps sp)
    (h : ∀ vs H Q E, sp' vs H Q E → sp vs H Q E) : FnOk P w K mg base CX k f fd ps sp' :=
  ⟨fun vs H Q E q => F.len vs H Q E (h _ _ _ _ q), fun A outer s H args us vs Q E hr he hb hv hs => F.run A outer s H args us vs Q E hr he hb hv (h _ _ _ _ hs)⟩

theorem Env0.make {P : Program} {w : World} {K : PySem.W.Frag} {mg : Str → Option Value} {base : Heap} {A : Around} {outer : List Env} {s : Shared} {H : Hp} (e : Env0 P w K mg base A outer s H) (C : Addr) (us : List Value) (kw : List (Str × Value)) :
    Env0 P w K mg base (A.under (.builtin "type.__call__" ⟨.ref C :: us, kw⟩)) outer s H := ⟨by first | exact e.frames | (simpa [Around.under, Code.envs, Code.isFrame, pushEnvs] using e.frames), e.mod, e.bs, e.bsz, e.funs, e.frf, e.hok, e.bare⟩
theorem Env0.in1 {P : Program} {w : World} {K : PySem.W.Frag} {mg : Str → Option Value} {base : Heap} {A : Around} {outer : List Env} {s : Shared} {H : Hp} (e : Env0 P w K mg base A outer s H) :
    Env0 P w K mg base A.in1 outer s H := ⟨e.frames, e.mod, e.bs, e.bsz, e.funs, e.frf, e.hok, e.bare⟩

section
variable {X : Cx} {pins : List (Addr × Obj)} {σ : St} {H : Hp} {s s' : Shared}
/-- from a body: what a callee wants -/
theorem Inv.env0 (I : Inv X pins σ H s) : Env0 X.prog X.w X.K X.mg X.base X.A X.stack s H :=
  ⟨I.ok.frames, I.ok.mod, I.bs, Nat.le_trans I.ok.bsz I.sz, I.stack, I.stkFree, I.hok, I.bare⟩
/-- behind a call -/
theorem Inv.after {Q : VK} {u : Value} (I : Inv X pins σ H s) (h : CE X.stack X.prog X.w H s Q u s') : EP X pins σ Q u s' := by
  obtain ⟨v, H', os, bare, un, hok, r, q⟩ := h
  obtain ⟨hh, g, d, t, os'⟩ := s'
  obtain rfl : os' = s.os := os
  exact ⟨v, H', I.call (h' := hh) (g' := g) (d' := d) (t' := t) (ch := []) un hok bare (fun b z => absurd z (by simp)), r, q⟩
end

/-! ### calls -/
/-- f(..): the written arguments, then the defaults dvs; E: what is wanted of an exception -/
def tCall (sp : Sp) (dvs : List V) (E : XK) (t : TA) : TE := fun σ H Q => t σ H fun vs H1 => sp (vs ++ dvs) H1 Q E
/-- o.m(..) of an instance of the class at C -/
def tMeth (C : Addr) (m : Str) (sp : Sp) (dvs : List V) (E : XK) (ta : TE) (t : TA) : TE := fun σ H Q => ta σ H fun x H1 => ∃ a dx fs, x = .ref a ∧ H1 a = some (.ins C dx fs) ∧ fs.lookup m = none ∧
  t σ H1 fun vs H2 => sp (x :: (vs ++ dvs)) H2 Q E
/-- C(..): a new instance and its dict, then __init__ -/
def tMake (C : Addr) (sp : Sp) (dvs : List V) (E : XK) (t : TA) : TE := fun σ H Q => t σ H fun vs H1 => ∀ x dx, H1 x = none → H1 dx = none → dx ≠ x →
  sp (.ref x :: (vs ++ dvs)) (upd (upd H1 dx (.own x)) x (.ins C dx [])) (fun v H2 => v = .non ∧ Q (.ref x) H2) E

/-- how the parameters are bound: us the positional arguments, kw the keywords' values by name, ds the defaults that fill up -/
def Binds (K : PySem.W.Frag) (fd : FuncData) (ps : List Str) (ds : List Value) : Prop :=
  ∀ (s : Shared) (us : List Value), K.In s.heap → (us ++ ds).length = ps.length → BindsTo s fd ⟨us, []⟩ (ps.zip (us ++ ds))
/-- every parameter is given -/
theorem Binds.all {K : PySem.W.Frag} {fd : FuncData} {ps : List Str} (h : ∀ us : List Value, us.length = ps.length → bindArgs fd ⟨us, []⟩ = pure (ps.zip us)) : Binds K fd ps [] := fun s us _ hl => by
  rw [List.append_nil] at hl ⊢
  exact .of_eq (h us hl)

/-- an exception of a callee reaches what this body wants of exceptions -/
def Passes (CX : CXT) (X : Cx) (E : XK) : Prop := ∀ (pins : List (Addr × Obj)) (σ : St) (H : Hp) (s : Shared) (e : Value) (s' : Shared), Inv X pins σ H s → CX X.stack H s E e s' → X.xe e s'

section
variable {X : Cx} {CX : CXT} {k : Nat} {f C : Addr} {fd : FuncData} {ps : List Str} {sp : Sp} {dvs : List V} {ds : List Value} {E : XK} {x m : Str} {p pos apos : Pos} {e o : Expr} {es : List Expr} {ta : TE} {t : TA}

/-- the callee runs -/
theorem run_fn {pins : List (Addr × Obj)} {σ : St} {H : Hp} {s : Shared} {Q : VK} {us : List Value} {vs : List V} (F : FnOk X.prog X.w X.K X.mg X.base CX k f fd ps sp) (hr : Room k X.A) (hb : Binds X.K fd ps ds) (hd : Vals dvs ds) (hx : Passes CX X E)
    (I : Inv X pins σ H s) (r : Vals vs us) (h : sp (vs ++ dvs) H Q E) : wpAny (model X.prog X.w) X.A (call (.ref f) us) (EP X pins σ Q) X.xe s := by
  have r2 : Vals (vs ++ dvs) (us ++ ds) := r.append hd
  have hl : (us ++ ds).length = ps.length := by rw [← r2.length]; exact F.len _ _ _ _ h
  refine wpAny_call (codeAny_mono (F.run X.A X.stack s H ⟨us, []⟩ (us ++ ds) (vs ++ dvs) Q E hr I.env0 (hb s us I.kIn hl) r2 h) fun r s' hq => ?_)
  cases r with
  | error e => exact hx pins σ H s e s' I hq
  | ok fl =>
    cases fl with
    | ret u => exact I.after hq
    | next => exact False.elim hq
    | brk => exact False.elim hq
    | cont => exact False.elim hq

theorem pe_call (F : FnOk X.prog X.w X.K X.mg X.base CX k f fd ps sp) (hr : Room k X.A) (hg : Gl X x) (hm : X.mg x = some (.ref f)) (hk : PySem.W.keepIn X.K (.ref f) = true) (hb : Binds X.K fd ps ds) (hd : Vals dvs ds) (hx : Passes CX X E)
    (ha : PA X (e :: es) t) (hdb : (x == ("__debug__" : Str)) = false := by decide) (he : starEach (e :: es) X.env = (false, eval e X.env) :: starEach es X.env := by rfl) (hpl : (backTo pos (starEach es X.env)).any (·.1) = false := by rfl) :
    PE X (.Call (.Name x p) (e :: es) [] pos) (tCall sp dvs E t) := by
  intro pins s σ H Q I h
  refine wpAny_Call_Name_kw (ld_glob I hg hm ?_ hdb)
  refine PySem.W.callWith_K (h₀ := X.base) I.ok.mod.kin hk (thn (ha pos pins s σ H _ I h) fun us s1 ⟨vs, H1, I1, r, q⟩ => ⟨I1.kIn, ?_⟩) he hpl
  exact run_fn F hr hb hd hx I1 r q
theorem pe_call0 (F : FnOk X.prog X.w X.K X.mg X.base CX k f fd ps sp) (hr : Room k X.A) (hg : Gl X x) (hm : X.mg x = some (.ref f)) (hk : PySem.W.keepIn X.K (.ref f) = true) (hb : Binds X.K fd ps ds) (hd : Vals dvs ds) (hx : Passes CX X E)
    (hdb : (x == ("__debug__" : Str)) = false := by decide) : PE X (.Call (.Name x p) [] [] pos) (tCall sp dvs E tNil) := by
  intro pins s σ H Q I h
  refine wpAny_Call_Name_kw (ld_glob I hg hm ?_ hdb)
  exact PySem.W.callWith_K0 I.kIn hk (run_fn (us := []) F hr hb hd hx I .nil h)

/-- o.m(e, ..) -/
theorem pe_meth {pl : Sem Bool} (he : PE X o ta) (c : Cls X.K C) (hm : Meth X.K C m f) (F : FnOk X.prog X.w X.K X.mg X.base CX k f fd ps sp) (hr : Room k X.A) (hb : Binds X.K fd ps ds) (hd : Vals dvs ds) (hx : Passes CX X E) (ha : PA X (e :: es) t)
    (hst : starEach (e :: es) X.env = (false, eval e X.env) :: starEach es X.env := by rfl) (hpl : (backTo pos (starEach es X.env)).any (·.1) = false := by rfl)
    (ht : eval (.Call (.Attribute o m apos) (e :: es) [] pos) X.env = (do
      let ov ← eval o X.env
      standAt apos.atName
      let (f, first) ← holding [ov] (getMethod ov m pl)
      callWith pos f first (backTo pos (starEach (e :: es) X.env)) (backToKw pos (keywordEach [] X.env))) := by rfl) :
    PE X (.Call (.Attribute o m apos) (e :: es) [] pos) (tMeth C m sp dvs E ta t) := by
  intro pins s σ H Q I h
  refine PySem.W.methodCall_KW (pl := pl) (thn (he pins s σ H _ I h) fun u s1 ⟨x, H1, I1, rx, a, dx, fs, ex, ea, l, q⟩ => ?_) ht
  subst ex
  obtain rfl : u = Value.ref a := rx
  refine getmeth_ok I1 ea c hm l ?_
  refine PySem.W.callWith_K (first := [.ref a]) (h₀ := X.base) I.ok.mod.kin hm.kp (thn (ha pos pins s1 σ H1 _ I1 q) fun us s2 ⟨vs, H2, I2, r, q2⟩ => ⟨I2.kIn, ?_⟩) hst hpl
  exact run_fn (us := .ref a :: us) (vs := .ref a :: vs) F hr hb hd hx I2 (.cons rfl r) q2
/-- o.m() -/
theorem pe_meth0 {pl : Sem Bool} (he : PE X o ta) (c : Cls X.K C) (hm : Meth X.K C m f) (F : FnOk X.prog X.w X.K X.mg X.base CX k f fd ps sp) (hr : Room k X.A) (hb : Binds X.K fd ps ds) (hd : Vals dvs ds) (hx : Passes CX X E)
    (ht : eval (.Call (.Attribute o m apos) [] [] pos) X.env = (do
      let ov ← eval o X.env
      standAt apos.atName
      let (f, first) ← holding [ov] (getMethod ov m pl)
      callWith pos f first (backTo pos (starEach [] X.env)) (backToKw pos (keywordEach [] X.env))) := by rfl) :
    PE X (.Call (.Attribute o m apos) [] [] pos) (tMeth C m sp dvs E ta tNil) := by
  intro pins s σ H Q I h
  refine PySem.W.methodCall_KW (pl := pl) (thn (he pins s σ H _ I h) fun u s1 ⟨x, H1, I1, rx, a, dx, fs, ex, ea, l, q⟩ => ?_) ht
  subst ex
  obtain rfl : u = Value.ref a := rx
  refine getmeth_ok I1 ea c hm l ?_
  exact PySem.W.callWith_K0 (first := [.ref a]) I1.kIn hm.kp (run_fn (us := [.ref a]) (vs := [.ref a]) F hr hb hd hx I1 (.cons rfl .nil) q)

/-- what a class must have to be made -/
structure Mk (K : PySem.W.Frag) (C f : Addr) : Prop where
  makes : PySem.W.makesIn K C = true
  init : PySem.W.findIn K (.ref C) "__init__" = some (some (.ref f))
  fn : PySem.W.isFn K (.ref f) = true
  kp : PySem.W.keepIn K (.ref C) = true

theorem run_make {pins : List (Addr × Obj)} {σ : St} {H : Hp} {s : Shared} {Q : VK} {us : List Value} {vs : List V} (M : Mk X.K C f) (F : FnOk X.prog X.w X.K X.mg X.base CX k f fd ps sp) (hr : Room (k + 1) X.A) (hb : Binds X.K fd ps ds) (hd : Vals dvs ds)
    (hx : Passes CX X E) (I : Inv X pins σ H s) (r : Vals vs us)
    (h : ∀ x dx, H x = none → H dx = none → dx ≠ x → sp (.ref x :: (vs ++ dvs)) (upd (upd H dx (.own x)) x (.ins C dx [])) (fun v H2 => v = .non ∧ Q (.ref x) H2) E) :
    wpAny (model X.prog X.w) X.A (call (.ref C) us) (EP X pins σ Q) X.xe s := by
  have hq := h (s.heap.objs.size + 1) s.heap.objs.size (I.hok.fresh (Nat.le_succ _)) (I.hok.fresh (Nat.le_refl _)) (Nat.ne_of_lt (Nat.lt_succ_self _))
  have I2 := Inv.made (C := C) I
  have r2 : Vals (V.ref (s.heap.objs.size + 1) :: (vs ++ dvs)) (Value.ref (s.heap.objs.size + 1) :: (us ++ ds)) := .cons rfl (r.append hd)
  have hl : (Value.ref (s.heap.objs.size + 1) :: us ++ ds).length = ps.length := by
    have e := r2.length
    rw [F.len _ _ _ _ hq] at e
    exact e.symm
  refine wpAny_call (make_map (f := f) I.kIn M.makes M.init (beq_iff_eq.mp M.fn) (codeAny_mono (F.run _ X.stack _ _ ⟨Value.ref (s.heap.objs.size + 1) :: us, []⟩ (Value.ref (s.heap.objs.size + 1) :: (us ++ ds)) _ _ E (hr.make C us [])
    (I2.env0.make C us []) (hb _ (Value.ref (s.heap.objs.size + 1) :: us) I2.kIn hl) r2 hq) fun r s' hq' => ?_))
  cases r with
  | error e => exact hx pins σ _ _ e s' I2 hq'
  | ok fl =>
    cases fl with
    | ret u =>
      obtain ⟨v, H', I3, rv, ev, q3⟩ := I2.after hq'
      subst ev
      exact ⟨rv, ⟨V.ref (s.heap.objs.size + 1), H', I3, rfl, q3⟩⟩
    | next => exact False.elim hq'
    | brk => exact False.elim hq'
    | cont => exact False.elim hq'
theorem pe_make (M : Mk X.K C f) (F : FnOk X.prog X.w X.K X.mg X.base CX k f fd ps sp) (hr : Room (k + 1) X.A) (hg : Gl X x) (hm : X.mg x = some (.ref C)) (hb : Binds X.K fd ps ds) (hd : Vals dvs ds) (hx : Passes CX X E)
    (ha : PA X (e :: es) t) (hdb : (x == ("__debug__" : Str)) = false := by decide) (he : starEach (e :: es) X.env = (false, eval e X.env) :: starEach es X.env := by rfl) (hpl : (backTo pos (starEach es X.env)).any (·.1) = false := by rfl) :
    PE X (.Call (.Name x p) (e :: es) [] pos) (tMake C sp dvs E t) := by
  intro pins s σ H Q I h
  refine wpAny_Call_Name_kw (ld_glob I hg hm ?_ hdb)
  refine PySem.W.callWith_K (h₀ := X.base) I.ok.mod.kin M.kp (thn (ha pos pins s σ H _ I h) fun us s1 ⟨vs, H1, I1, r, q⟩ => ⟨I1.kIn, ?_⟩) he hpl
  exact run_make M F hr hb hd hx I1 r q
theorem pe_make0 (M : Mk X.K C f) (F : FnOk X.prog X.w X.K X.mg X.base CX k f fd ps sp) (hr : Room (k + 1) X.A) (hg : Gl X x) (hm : X.mg x = some (.ref C)) (hb : Binds X.K fd ps ds) (hd : Vals dvs ds) (hx : Passes CX X E)
    (hdb : (x == ("__debug__" : Str)) = false := by decide) : PE X (.Call (.Name x p) [] [] pos) (tMake C sp dvs E tNil) := by
  intro pins s σ H Q I h
  refine wpAny_Call_Name_kw (ld_glob I hg hm ?_ hdb)
  exact PySem.W.callWith_K0 I.kIn M.kp (run_make (us := []) M F hr hb hd hx I .nil h)
end

/-! ### keywords -/
/-- the values of the keywords, from the left -/
def PK (X : Cx) (kws : List Keyword) (t : TA) : Prop :=
  ∀ (pos : Pos) (pins : List (Addr × Obj)) (s : Shared) (σ : St) (H : Hp) (Q : List V → Hp → Prop), Inv X pins σ H s → t σ H Q → wpAny (model X.prog X.w) X.A (evalAll ((backToKw pos (keywordEach kws X.env)).map (·.2))) (AP X pins σ Q) X.xe s
section
variable {X : Cx} {CX : CXT} {k : Nat} {f C : Addr} {fd : FuncData} {ps ks : List Str} {sp : Sp} {E : XK} {x m : Str} {p pos apos kpos : Pos} {e o : Expr} {es : List Expr} {kws : List Keyword} {te ta : TE} {t tk : TA} {nm : Option Str}
theorem pk_nil : PK X [] tNil := fun _ _ _ _ H Q I h => wpAny_evalAll_nil ⟨[], H, I, .nil, h⟩
theorem pk_cons (ha : PE X e te) (hr : PK X kws t) : PK X (⟨nm, e, kpos⟩ :: kws) (tCons te t) := by
  intro pos pins s σ H Q I h
  show wpAny _ _ (evalAll ((do let v ← eval e X.env; standAt pos; pure v) :: (backToKw pos (keywordEach kws X.env)).map (·.2))) _ _ s
  refine wpAny_evalAll_cons (wpAny_bind (thn (ha pins s σ H _ I h) fun u s1 ⟨x, H1, I1, r1, q1⟩ => wpAny_bind (wpAny_standAt (wpAny_pure ?_))))
  exact thn (hr pos pins s1 σ H1 _ I1 q1) fun us s2 ⟨xs, H2, I2, r2, q2⟩ => ⟨x :: xs, H2, I2, .cons r1 r2, q2⟩

/-- how a call with keywords binds: g puts the positional values us and the keywords' values ws (names ks) in the parameters' order, defaults among them -/
structure KBinds (K : PySem.W.Frag) (fd : FuncData) (ps ks : List Str) (g : List Value → List Value → List Value) (gV : List V → List V → List V) : Prop where
  to : ∀ (s : Shared) (us ws : List Value), K.In s.heap → (g us ws).length = ps.length → BindsTo s fd ⟨us, ks.zip ws⟩ (ps.zip (g us ws))
  rel : ∀ {vs : List V} {us : List Value} {zs : List V} {ws : List Value}, Vals vs us → Vals zs ws → Vals (gV vs zs) (g us ws)
def tCallK (sp : Sp) (gV : List V → List V → List V) (E : XK) (t tk : TA) : TE := fun σ H Q => t σ H fun vs H1 => tk σ H1 fun zs H2 => sp (gV vs zs) H2 Q E
variable {g : List Value → List Value → List Value} {gV : List V → List V → List V}
theorem run_fnk {pins : List (Addr × Obj)} {σ : St} {H : Hp} {s : Shared} {Q : VK} {us ws : List Value} {vs zs : List V} (F : FnOk X.prog X.w X.K X.mg X.base CX k f fd ps sp) (hr : Room k X.A) (hb : KBinds X.K fd ps ks g gV) (hx : Passes CX X E)
    (I : Inv X pins σ H s) (r : Vals vs us) (rz : Vals zs ws) (h : sp (gV vs zs) H Q E) : wpAny (model X.prog X.w) X.A (call (.ref f) us (ks.zip ws)) (EP X pins σ Q) X.xe s := by
  have r2 := hb.rel r rz
  have hl : (g us ws).length = ps.length := by rw [← r2.length]; exact F.len _ _ _ _ h
  refine wpAny_call (codeAny_mono (F.run X.A X.stack s H ⟨us, ks.zip ws⟩ (g us ws) (gV vs zs) Q E hr I.env0 (hb.to s us ws I.kIn hl) r2 h) fun r s' hq => ?_)
  cases r with
  | error e => exact hx pins σ H s e s' I hq
  | ok fl =>
    cases fl with
    | ret u => exact I.after hq
    | next => exact False.elim hq
    | brk => exact False.elim hq
    | cont => exact False.elim hq
/-- f(e, .., k = v, ..) -/
theorem pe_callK (F : FnOk X.prog X.w X.K X.mg X.base CX k f fd ps sp) (hr : Room k X.A) (hg : Gl X x) (hm : X.mg x = some (.ref f)) (hk : PySem.W.keepIn X.K (.ref f) = true) (hb : KBinds X.K fd ps ks g gV) (hx : Passes CX X E)
    (ha : PA X (e :: es) t) (hkw : PK X kws tk) (hall : (backToKw pos (keywordEach kws X.env)).all (·.1.isSome) = true := by rfl) (hks : (backToKw pos (keywordEach kws X.env)).filterMap (·.1) = ks := by rfl)
    (hdb : (x == ("__debug__" : Str)) = false := by decide) (he : starEach (e :: es) X.env = (false, eval e X.env) :: starEach es X.env := by rfl)
    (hpl : ((backTo pos (starEach (e :: es) X.env)).any (·.1) || (backToKw pos (keywordEach kws X.env)).any (·.1.isNone)) = false := by rfl) :
    PE X (.Call (.Name x p) (e :: es) kws pos) (tCallK sp gV E t tk) := by
  intro pins s σ H Q I h
  refine wpAny_Call_Name_kw (ld_glob I hg hm ?_ hdb)
  refine PySem.W.callWith_KW (h₀ := X.base) I.ok.mod.kin hk hall (thn (ha pos pins s σ H _ I h) fun us s1 ⟨vs, H1, I1, r, q⟩ => ?_) hpl he
  refine thn (hkw pos pins s1 σ H1 _ I1 q) fun ws s2 ⟨zs, H2, I2, rz, q2⟩ => ⟨I2.kIn, ?_⟩
  rw [hks]
  exact run_fnk F hr hb hx I2 r rz q2
end

/-! ### a def's body keeps its promise -/
/-- names: the parameters first -/
structure FnScope (N P : List Str) (sc : Scope) : Prop where
  kind : sc.kind = .function
  co : sc.isCoroutine = false
  gen : sc.isGenerator = false
  nd : N.Nodup
  pre : N.take P.length = P
  par : ∀ x ∈ P, sc.names.lookup x = some .local ∨ sc.names.lookup x = some .cell
  nofree : ∀ y ∈ sc.names, y.2 ≠ .free

theorem bindL_out {kindOf : Str → Option NameKind} {x : Str} : ∀ {binds : List (Str × Value)} {m : Str → Option Value}, (∀ v, (x, v) ∉ binds) → bindL kindOf binds m x = m x
  | [], _, _ => rfl
  | (n, v) :: r, m, h => by
    unfold bindL
    rw [bindL_out fun w hw => h w (List.mem_cons_of_mem _ hw)]
    split
    · have : x ≠ n := by rintro rfl; exact h v List.mem_cons_self
      simp [this]
    · rfl
theorem bindC_out {kindOf : Str → Option NameKind} {x : Str} : ∀ {binds : List (Str × Value)} {m : Str → Option Value}, (∀ v, (x, v) ∉ binds) → bindC kindOf binds m x = m x
  | [], _, _ => rfl
  | (n, v) :: r, m, h => by
    unfold bindC
    rw [bindC_out fun w hw => h w (List.mem_cons_of_mem _ hw)]
    split
    · rfl
    · have : x ≠ n := by rintro rfl; exact h v List.mem_cons_self
      simp [this]
theorem bindL_get {kindOf : Str → Option NameKind} {x : Str} {v : Value} : ∀ {P : List Str} {vs : List Value} {i : Nat} {m : Str → Option Value}, P.Nodup → P[i]? = some x → vs[i]? = some v → kindOf x = some .local →
    bindL kindOf (P.zip vs) m x = some v
  | [], _, _, _, _, h, _, _ => by simp at h
  | _ :: _, [], _, _, _, _, h, _ => by simp at h
  | p :: P, w :: vs, 0, m, nd, h1, h2, hk => by
    simp at h1 h2; subst h1; subst h2
    show bindL kindOf ((p, w) :: P.zip vs) m p = _
    unfold bindL
    rw [bindL_out fun v hv => (List.nodup_cons.mp nd).1 (List.of_mem_zip hv).1, if_pos hk]
    simp
  | p :: P, w :: vs, i + 1, m, nd, h1, h2, hk => by
    show bindL kindOf ((p, w) :: P.zip vs) m x = _
    unfold bindL
    exact bindL_get (i := i) (List.nodup_cons.mp nd).2 (by simpa using h1) (by simpa using h2) hk
theorem bindC_get {kindOf : Str → Option NameKind} {x : Str} {v : Value} : ∀ {P : List Str} {vs : List Value} {i : Nat} {m : Str → Option Value}, P.Nodup → P[i]? = some x → vs[i]? = some v → kindOf x ≠ some .local →
    bindC kindOf (P.zip vs) m x = some v
  | [], _, _, _, _, h, _, _ => by simp at h
  | _ :: _, [], _, _, _, _, h, _ => by simp at h
  | p :: P, w :: vs, 0, m, nd, h1, h2, hk => by
    simp at h1 h2; subst h1; subst h2
    show bindC kindOf ((p, w) :: P.zip vs) m p = _
    unfold bindC
    rw [bindC_out fun v hv => (List.nodup_cons.mp nd).1 (List.of_mem_zip hv).1, if_neg hk]
    simp
  | p :: P, w :: vs, i + 1, m, nd, h1, h2, hk => by
    show bindC kindOf ((p, w) :: P.zip vs) m x = _
    unfold bindC
    exact bindC_get (i := i) (List.nodup_cons.mp nd).2 (by simpa using h1) (by simpa using h2) hk

/-- the names' values at the entry -/
def start (N : List Str) (vs : List V) : St := vs.map some ++ List.replicate (N.length - vs.length) none

/-- the context of a def's body, at its entry; an exception leaves the frame, then lies as CX says -/
def cxOf (CX : CXT) (P : Program) (w : World) (K : PySem.W.Frag) (mg : Str → Option Value) (base : Heap) (N : List Str) (qual : Str) (scope : Scope) (f : Addr) (cd : Value) (A : Around) (outer : List Env) (s : Shared) (H : Hp) (E : XK) : Cx where
  prog := P
  w := w
  K := K
  mg := mg
  base := base
  A := A.deeper (envOfC qual scope s.heap.objs.size f cd)
  N := N
  s₀ := s
  H₀ := H
  env := envOfC qual scope s.heap.objs.size f cd
  outer := outer
  stack := envOfC qual scope s.heap.objs.size f cd :: outer
  ex := []
  calm := true
  fn := fun _ => true
  pn := []
  xe := fun e s' => wpAny (model P w) (A.deeper (envOfC qual scope s.heap.objs.size f cd)) (leaving (envOfC qual scope s.heap.objs.size f cd) e) (fun _ s'' => CX outer H s E e s'') (fun e' s'' => CX outer H s E e' s'') s'

theorem cell_has {sc : Scope} {n : Nat} {x : Str} (h : sc.names.lookup x = some .cell) : ∃ c, (cellsFrom n sc.names []).lookup x = some c := by
  have q := PySem.W.cellsFrom_some sc.names n [] (.inl h)
  exact Option.isSome_iff_exists.mp q

theorem inv_start {CX : CXT} {P : Program} {w : World} {K : PySem.W.Frag} {mg : Str → Option Value} {base : Heap} {N ps : List Str} {qual : Str} {scope : Scope} {f : Addr} {cd : Value} {A : Around} {outer : List Env} {s s1 : Shared} {H : Hp} {E : XK} {us : List Value} {vs : List V}
    (S : FnScope N ps scope) (hd : A.handled = none) (e0 : Env0 P w K mg base A outer s H) (hl : vs.length = ps.length) (r : Vals vs us)
    (x : InCallC s s.heap.objs.size (bindL (envOfC qual scope s.heap.objs.size f cd).kindOf (ps.zip us) fun _ => none) (cellsFrom (s.heap.objs.size + 1) scope.names []) (bindC (envOfC qual scope s.heap.objs.size f cd).kindOf (ps.zip us) fun _ => none) s1) :
    Inv (cxOf CX P w K mg base N qual scope f cd A outer s H E) [] (start N vs) H s1 := by
  have hpl : ps.length ≤ N.length := by have := congrArg List.length S.pre; rw [List.length_take] at this; omega
  obtain ⟨h1, tk, rfl, hk⟩ := x.done
  have noA : ∀ b : Addr, b ∉ (cxOf CX P w K mg base N qual scope f cd A outer s H E).ex := fun b z => absurd (show b ∈ ([] : List Addr) from z) (by simp)
  refine ⟨⟨e0.mod, S.kind, rfl, rfl, Nat.le_refl _, fun y z c h1 h2 => ?_, fun y hy => ?_, fun y c _ h => ?_, fun _ => hd, Around.frames_deeper e0.frames, .inr ⟨rfl, rfl⟩, fun b z => absurd z (noA b), e0.bs, e0.bsz, fun b _ _ => noA b, fun b z => absurd z (noA b), e0.funs, e0.frf⟩,
    rfl, e0.bare, Un.kept hk, ⟨_, x.toInCall.ns, fun i y v h1 h2 h3 => ?_⟩, fun y c h => ⟨_, x.cell y c h⟩, e0.hok.fresh (Nat.le_refl _), fun y c h => ?_, fun p hp => absurd (show p ∈ ([] : List (Addr × Obj)) from hp) (by simp), e0.hok.kept hk, ?_⟩
  · exact name_of_addr x.apart (PySem.mem_of_lookup h1) (PySem.mem_of_lookup h2)
  · have hy : scope.names.lookup y = some .cell ∨ scope.names.lookup y = some .free := hy
    rcases hy with hy | hy
    · exact cell_has hy
    · exact absurd rfl (S.nofree _ (PySem.mem_of_lookup hy))
  · exact Nat.le_of_lt (x.above y c (PySem.mem_of_lookup h))
  · have hi : i < vs.length := by
      unfold start at h2
      by_cases hi : i < vs.length
      · exact hi
      · rw [List.getElem?_append_right (by simpa using hi)] at h2
        rw [List.getElem?_replicate] at h2
        split at h2 <;> cases h2
    have ha : vs[i]? = some v := by
      unfold start at h2
      rw [List.getElem?_append_left (by simpa using hi), List.getElem?_map] at h2
      cases e : vs[i]? with
      | none => rw [e] at h2; cases h2
      | some a => rw [e] at h2; cases h2; rfl
    obtain ⟨u, hu, rv⟩ := r.get ha
    have hp : ps[i]? = some y := by
      rw [← S.pre, List.getElem?_take_of_lt (by omega)]; exact h1
    have ndP : ps.Nodup := by rw [← S.pre]; exact S.nd.sublist (List.take_sublist _ _)
    refine ⟨u, rv, ?_⟩
    rcases S.par y (List.mem_of_getElem? hp) with k | k
    · exact .inl ⟨k, bindL_get ndP hp hu k⟩
    · obtain ⟨c, e⟩ := cell_has (n := s.heap.objs.size + 1) k
      refine .inr ⟨.inl k, c, e, ?_⟩
      have q := x.cell y c e
      rw [bindC_get ndP hp hu (by show scope.names.lookup y ≠ _; rw [k]; decide)] at q
      exact q
  · exact e0.hok.fresh (Nat.le_of_lt (x.above y c (PySem.mem_of_lookup h)))
  · unfold start
    show _ = N.length
    rw [List.length_append, List.length_map, List.length_replicate]
    omega

/-- THE RULE: a def (or a method) of the text, by its body. The body's reading t is chosen for each entry; it is run at the parameters' values -/
theorem fn_of {CX : CXT} {P : Program} {w : World} {K : PySem.W.Frag} {mg : Str → Option Value} {base : Heap} {k : Nat} {f : Addr} {name qual : Str} {params : Arguments} {body : List Stmt} {scope : Scope} {dV kV doc pm cdv ct oc : Value} {an od : Option Addr}
    {osl : Array (Option Value)} {N ps : List Str} {sp : Sp} (lk : K.lookup f = some ⟨oc, od, .func (PySem.W.fnOf name qual params body scope dV kV doc pm an cdv ct), osl⟩) (hcd : PySem.W.codeIn K cdv qual = true) (S : FnScope N ps scope)
    (len : ∀ vs H Q E, sp vs H Q E → vs.length = ps.length)
    (hbody : ∀ (A : Around) (outer : List Env) (s : Shared) (H : Hp) (vs : List V) (Q : VK) (E : XK), Room k (A.deeper (envOfC qual scope s.heap.objs.size f cdv)) → sp vs H Q E →
      ∃ t, PSs (cxOf CX P w K mg base N qual scope f cdv A outer s H E) body t ∧ t { nx := fun _ H' => Q .non H', rt := Q } (start N vs) H) :
    FnOk P w K mg base CX (k + 1) f (PySem.W.fnOf name qual params body scope dV kV doc pm an cdv ct) ps sp := by
  refine ⟨len, fun A outer s H args us vs Q E hr e0 hb r hsp => ?_⟩
  have hl := len _ _ _ _ hsp
  have KX : K.In s.heap := e0.mod.kin.keeps fun b o e => (e0.bs b o e).1
  have lim : s.heap.NoLimit := e0.mod.nolimit.keeps fun b o e => (e0.bs b o e).1
  have hkind : ∀ y ∈ ps.zip us, scope.names.lookup y.1 = some .local ∨ (scope.names.lookup y.1 = some .cell ∧ ((cellsFrom (s.heap.objs.size + 1) scope.names []).lookup y.1).isSome = true) := fun ⟨n, v⟩ hy => by
    rcases S.par n (List.of_mem_zip hy).1 with q | q
    · exact .inl q
    · exact .inr ⟨q, PySem.W.cellsFrom_some _ _ _ (.inl q)⟩
  refine codeAny_call_function hr.depth (KX _ _ lk) rfl S.co S.gen rfl (PySem.W.codeRec_of KX hcd) (hb _ _ _ _ ?_)
  refine wpAny_newFunctionEnv_cells S.kind hkind fun env he s1 x => ?_
  subst he
  refine ⟨lim.keeps x.toInCall.keep, codeAny_func ?_⟩
  obtain ⟨t, ht, hq⟩ := hbody A outer s H vs Q E (hr.deeper _) hsp
  have I : Inv (cxOf CX P w K mg base N qual scope f cdv A outer s H E) [] (start N vs) H s1 := inv_start S hr.hd e0 hl r x
  refine wpAny_mono (ht [] s1 (start N vs) H _ I hq) (fun fl s' hs => ?_) fun e s' hs => hs
  have fin : ∀ {σ' : St} {H' : Hp} {v : V} {u : Value}, Inv (cxOf CX P w K mg base N qual scope f cdv A outer s H E) [] σ' H' s' → RelV v u → Q v H' → CE outer P w H s Q u s' :=
    fun {σ' H' v u} J rv q => ⟨v, H', J.os, J.bare, J.base, J.hok, rv, q⟩
  cases fl with
  | ret u =>
    obtain ⟨v, σ', H', J, rv, q⟩ := hs
    exact fin J rv q
  | next =>
    obtain ⟨σ', H', J, q⟩ := hs
    exact fin (v := V.non) (u := Value.none) J rfl q
  | brk =>
    obtain ⟨_, _, _, q⟩ := hs
    exact False.elim q
  | cont =>
    obtain ⟨_, _, _, q⟩ := hs
    exact False.elim q
end L2

namespace L2
open PySem PySem.Spec PyProof.Rows
section
variable {X : Cx} {x : Str} {p pos : Pos} {e : Expr} {es : List Expr} {t : TA} {id T : String} {r : List V → Hp → VK → Prop}

def tCB (r : List V → Hp → VK → Prop) (t : TA) : TE := fun σ H Q => t σ H fun vs H1 => r vs H1 Q
/-- f(e, ..), f a built-in function -/
theorem pe_callB (hc : CallR X (.builtin id) r) (hg : Gl X x) (hm : X.mg x = none) (hv : bootBuiltins x = some (.builtin id)) (ha : PA X (e :: es) t) (hn : x ≠ "__name__" := by decide) (hdb : (x == ("__debug__" : Str)) = false := by decide)
    (he : starEach (e :: es) X.env = (false, eval e X.env) :: starEach es X.env := by rfl) (hpl : (backTo pos (starEach es X.env)).any (·.1) = false := by rfl) : PE X (.Call (.Name x p) (e :: es) [] pos) (tCB r t) := by
  intro pins s σ H Q I h
  refine wpAny_Call_Name_kw (ld_blt I hg hm hv ?_ hn hdb)
  exact PyProof.Rows.callWith_builtin1 (thn (ha pos pins s σ H _ I h) fun us s1 ⟨vs, H1, I1, r1, q1⟩ => hc pins s1 σ H1 vs us Q I1 r1 q1) he hpl
/-- T(e, ..), T a built-in type -/
theorem pe_callTy (hc : CallR X (.type T) r) (hg : Gl X x) (hm : X.mg x = none) (hv : bootBuiltins x = some (.type T)) (ha : PA X (e :: es) t) (hn : x ≠ "__name__" := by decide) (hdb : (x == ("__debug__" : Str)) = false := by decide)
    (he : starEach (e :: es) X.env = (false, eval e X.env) :: starEach es X.env := by rfl) (hpl : (backTo pos (starEach es X.env)).any (·.1) = false := by rfl) : PE X (.Call (.Name x p) (e :: es) [] pos) (tCB r t) := by
  intro pins s σ H Q I h
  refine wpAny_Call_Name_kw (ld_blt I hg hm hv ?_ hn hdb)
  exact PyProof.Rows.callWith_type1 (thn (ha pos pins s σ H _ I h) fun us s1 ⟨vs, H1, I1, r1, q1⟩ => hc pins s1 σ H1 vs us Q I1 r1 q1) he hpl
/-- T() -/
theorem pe_callTy0 (hc : CallR X (.type T) r) (hg : Gl X x) (hm : X.mg x = none) (hv : bootBuiltins x = some (.type T)) (hn : x ≠ "__name__" := by decide) (hdb : (x == ("__debug__" : Str)) = false := by decide) :
    PE X (.Call (.Name x p) [] [] pos) (tCB r tNil) := by
  intro pins s σ H Q I h
  refine wpAny_Call_Name_kw (ld_blt I hg hm hv ?_ hn hdb)
  exact PyProof.Rows.callWith_type0 (hc pins s σ H [] [] Q I .nil h)
end
end L2

namespace HT
open PySem PyProof.Rows

/-- t < u of tuples of ints -/
def lexLt : List Int → List Int → Bool
  | [], [] => false
  | [], _ :: _ => true
  | _ :: _, [] => false
  | x :: xs, y :: ys => if x = y then lexLt xs ys else decide (x < y)
theorem lexLt_cons (x y : Int) (xs ys : List Int) : lexLt (x :: xs) (y :: ys) = if x = y then lexLt xs ys else decide (x < y) := rfl
theorem lexLt_nil_nil : lexLt [] [] = false := rfl
theorem lexLt_nil_cons (y : Int) (ys : List Int) : lexLt [] (y :: ys) = true := rfl
theorem lexLt_cons_nil (x : Int) (xs : List Int) : lexLt (x :: xs) [] = false := rfl

theorem eqAt_int (A : Around) (s : Shared) (a : Int) (t : Tok) (c : Int) (u : Tok) : ∃ e, SeqAt.EqAt A s (.int a t) (.int c u) e ∧ (e = true ↔ a = c) :=
  ⟨(a == c), SeqAt.EqAt.int_int a t c u, by simp⟩
theorem rcLt_int (A : Around) (s : Shared) (a : Int) (t : Tok) (c : Int) (u : Tok) (prog : Program) (w : World) (E : Value → Shared → Prop) (Q : Value → Shared → Prop) (h : Q (.bool (decide (a < c))) s) :
    wpAny (model prog w) A (richCompare .Lt (.int a t) (.int c u)) Q E s :=
  (PyProof.Rows.lt_int h : wpAny (model prog w) A (compareOp .Lt (.int a t) (.int c u)) Q E s)

section
open PySem.SeqAt
open PySem.AutoSeq1 (wpAny_loadPart')
open PySem.MeetsSeq PySem.MeetsSeq2 PySem.MeetsSeq3

theorem tuple_lt_ints (l b : Addr) (items items2 : Array Value) (n n2 : Nat) (dd dd2 : Option Addr) (sl sl2 : Array (Option Value)) (ns ms : List Int) (hi : IntsAre items.toList ns) (hj : IntsAre items2.toList ms) :
    Meets (Builtin.«tuple.__lt__» ⟨[.ref l, .ref b], []⟩)
      (fun _ R s => s.heap.get? l = some { cls := .type "tuple", dict := dd, data := .seq items n, slots := sl } ∧ s.heap.get? b = some { cls := .type "tuple", dict := dd2, data := .seq items2 n2, slots := sl2 } ∧
        R (.ok (.ret (.bool (lexLt ns ms)))) s) :=
  .of_wp fun prog w A R s h => by
    obtain ⟨hp, g, d, tk, os⟩ := s; obtain ⟨hl, hb, h⟩ := h
    have f2 := AutoSeq1.sub_tuple_tuple
    have z1 : items.size = ns.length := by rw [← hi.length]; simp
    have z2 : items2.size = ms.length := by rw [← hj.length]; simp
    wp_walk using wpAny_loadPart' hl, wpAny_loadPart' hb, wpAny_forIn_list _ (fun rest b s' => b.1 = none ∧ s' = ⟨hp, g, d, tk, os⟩ ∧ ∃ (vs ws : List Value) (ns' ms' : List Int), rest = vs.zip ws ∧
      IntsAre vs ns' ∧ IntsAre ws ms' ∧ ns'.length + items2.size = ms'.length + items.size ∧ R (.ok (.ret (.bool (lexLt ns' ms')))) ⟨hp, g, d, tk, os⟩) _
    case turn =>
      rintro ⟨y, x⟩ rest b s' ⟨hb', rfl, vs, ws, ns', ms', hz, hvi, hwi, hlen, hR⟩
      cases hvi with
      | nil => rw [List.zip_nil_left] at hz; cases hz
      | cons a t hvi' =>
        cases hwi with
        | nil => rw [List.zip_nil_right] at hz; cases hz
        | cons c u hwi' =>
          rw [List.zip_cons_cons] at hz
          injection hz with hyx hrest
          injection hyx with hy hx
          subst hy hx
          rw [lexLt_cons] at hR
          simp only [List.length_cons] at hlen
          obtain ⟨e, he, hiff⟩ := eqAt_int A.in1 ⟨hp, g, d, tk, os⟩ a t c u
          refine wpAny_bind (he prog w _ _ ?_)
          cases e with
          | true =>
            rw [if_pos (hiff.mp rfl)] at hR
            wp_walk
            exact ⟨rfl, rfl, _, _, _, _, hrest, hvi', hwi', by omega, hR⟩
          | false =>
            rw [if_neg (fun q => absurd (hiff.mpr q) Bool.false_ne_true)] at hR
            have hri := rcLt_int A.in1 ⟨hp, g, d, tk, os⟩ a t c u prog w
            wp_walk using hri
            exact ⟨_, rfl, by simpa using hR⟩
    case fin =>
      rintro ⟨b1, b2⟩ s' ⟨hb', rfl, vs, ws, ns', ms', hz, hvi, hwi, hlen, hR⟩
      simp only at hb'
      subst hb'
      have hv : lexLt ns' ms' = decide (items.size < items2.size) := by
        cases hvi with
        | nil =>
          cases hwi with
          | nil =>
            simp only [List.length_nil] at hlen
            rw [lexLt_nil_nil]
            exact (decide_eq_false (by omega)).symm
          | cons c u hw =>
            simp only [List.length_nil, List.length_cons] at hlen
            rw [lexLt_nil_cons]
            exact (decide_eq_true (by omega)).symm
        | cons a t hv =>
          cases hwi with
          | nil =>
            simp only [List.length_nil, List.length_cons] at hlen
            rw [lexLt_cons_nil]
            exact (decide_eq_false (by omega)).symm
          | cons c u hw =>
            rw [List.zip_cons_cons] at hz
            cases hz
      rw [hv] at hR
      wp_walk
      exact ⟨_, rfl, by simpa [Builtin.Tuple.tupleCompareSizes] using hR⟩
    case h =>
      exact ⟨rfl, rfl, items.toList, items2.toList, ns, ms, rfl, hi, hj, by omega, h⟩
end

section
variable {prog : Program} {w : World} {A : Around} {E : Value → Shared → Prop} {s : Shared}

theorem lt_tupInts {l b : Addr} {items items2 : Array Value} {ns ms : List Int} {Q : Value → Shared → Prop} (hl : IsTup s.heap l items) (hb : IsTup s.heap b items2) (hi : IntsAre items.toList ns) (hj : IntsAre items2.toList ms)
    (hu : A.units < cLine) (h : Q (.bool (lexLt ns ms)) s) : wpAny (model prog w) A (compareOp .Lt (.ref l) (.ref b)) Q E s := by
  obtain ⟨⟨cls, dd, data, sl⟩, ho, hc, n, hd⟩ := id hl
  obtain ⟨⟨cls2, dd2, data2, sl2⟩, ho2, hc2, n2, hd2⟩ := id hb
  simp only at hc hd hc2 hd2
  subst hc hd hc2 hd2
  exact richCompare_meets_room (op := .Lt) ⟨_, ho, rfl⟩ ⟨_, ho2, rfl⟩ PySem.F.slot_tuple_lt PySem.F.entry_tuple_lt (PySem.F.args_tuple_lt_2 _ _) (tuple_lt_ints l b items items2 n n2 dd dd2 sl sl2 ns ms hi hj)
    ⟨ho, ho2, show Value.bool (lexLt ns ms) ≠ Value.notImplemented ∧ Q (.bool (lexLt ns ms)) s from ⟨(fun x => nomatch x), h⟩⟩ hu

/-- t + u, t not empty -/
theorem cat_tup {t b : Addr} {vs ws : List Value} {Q : Value → Shared → Prop} (ht : IsTup s.heap t vs.toArray) (hb : IsTup s.heap b ws.toArray) (hv : vs ≠ [])
    (h1 : ws = [] → Q (.ref t) s) (h2 : ws ≠ [] → Q (.ref s.heap.objs.size) { s with heap := s.heap.push { cls := .type "tuple", data := .seq (vs ++ ws).toArray } })
    (hsz : vs.length + ws.length ≤ sizeLine) : wpAny (model prog w) A (binaryOp .Add (.ref t) (.ref b)) Q E s := by
  obtain ⟨⟨cls, dd, data, sl⟩, ho, hc, n, hd⟩ := id ht
  obtain ⟨⟨cls2, dd2, data2, sl2⟩, ho2, hc2, n2, hd2⟩ := id hb
  simp only at hc hd hc2 hd2
  subst hc hd hc2 hd2
  have e : vs.toArray ++ ws.toArray = (vs ++ ws).toArray := by simp
  by_cases hw : ws = []
  · exact concat_meets ⟨_, ho, rfl⟩ ⟨_, ho2, rfl⟩ noFill_tuple_add seq_tuple_add PySem.F.slot_tuple_add PySem.F.entry_tuple_add (PySem.F.args_tuple_add_2 _ _)
      (tuple_addW1 t b vs.toArray ws.toArray n n2 dd dd2 sl sl2 (by simpa using hv) (by simp [hw])) ⟨ho, ho2, h1 hw⟩
  · refine concat_meets ⟨_, ho, rfl⟩ ⟨_, ho2, rfl⟩ noFill_tuple_add seq_tuple_add PySem.F.slot_tuple_add PySem.F.entry_tuple_add (PySem.F.args_tuple_add_2 _ _)
      (tuple_addW2 t b vs.toArray ws.toArray n n2 dd dd2 sl sl2 (by simpa using hv) (by simpa using hw) (by rw [List.size_toArray, List.size_toArray]; exact hsz)) ⟨ho, ho2, ?_⟩
    rw [e]
    exact h2 hw

/-! ### t[a:b], not the whole -/
/-- a slice's bound as a place among n (d where it is left out) -/
def sIx (n d : Nat) : Option Int → Nat
  | none => d
  | some v => if v < 0 then (v + (n : Int)).toNat else min v.toNat n
theorem sIx_none (n d : Nat) : sIx n d none = d := rfl
theorem sIx_nat (n d k : Nat) : sIx n d (some (k : Int)) = min k n := by
  show (if (k : Int) < 0 then ((k : Int) + (n : Int)).toNat else min (k : Int).toNat n) = min k n
  rw [if_neg (by omega), Int.toNat_natCast]
theorem sIx_le (n d : Nat) (hd : d ≤ n) (o : Option Int) : sIx n d o ≤ n := by
  cases o with
  | none => exact hd
  | some v =>
    show (if v < 0 then (v + (n : Int)).toNat else min v.toNat n) ≤ n
    by_cases hv : v < 0
    · rw [if_pos hv]; omega
    · rw [if_neg hv]; exact Nat.min_le_right _ _
theorem clip_eq (v : Int) (n d : Nat) : (if v < 0 then max (v + (n : Int)) 0 else min v (n : Int)) = ((sIx n d (some v) : Nat) : Int) := by
  show (if v < 0 then max (v + (n : Int)) 0 else min v (n : Int)) = (((if v < 0 then (v + (n : Int)).toNat else min v.toNat n) : Nat) : Int)
  by_cases hv : v < 0
  · simp only [if_pos hv]; omega
  · simp only [if_neg hv]; omega
theorem adjust_gen (lo hi : Option Int) (n : Nat) : Builtin.Slice.sliceAdjust lo hi 1 (n : Int) = (((sIx n 0 lo : Nat) : Int), ((sIx n n hi : Nat) : Int)) := by
  have h1 : ¬ ((1 : Int) < 0) := by omega
  unfold Builtin.Slice.sliceAdjust
  simp only [h1, if_false]
  refine Prod.ext ?_ ?_
  · cases lo with
    | none => rfl
    | some v => exact clip_eq v n 0
  · cases hi with
    | none => rfl
    | some v => exact clip_eq v n n
theorem places_gen (i j : Nat) : Builtin.Slice.slicePlaces (i : Int) (j : Int) 1 = j - i := by
  unfold Builtin.Slice.slicePlaces
  have h1 : (1 : Int) > 0 := by omega
  simp only [h1, if_true, Int.ediv_one]
  split <;> omega
theorem slicePart_ {v : Value} {o : Option Int} {Q : Option Int → Shared → Prop} (p : IsPart v o) (h : Q o s) : wpAny (model prog w) A (Builtin.Slice.slicePartIndex v) Q E s := by
  cases p with
  | none => exact slicePart_none h
  | int i t => exact slicePart_int h
theorem sliceApplied_gen {sl : Addr} {vl vu : Value} {lo hi : Option Int} {n : Nat} {Q : Int × Int × Nat → Shared → Prop} (hs : s.heap.IsSliceOf sl vl vu .none) (pl : IsPart vl lo) (pu : IsPart vu hi)
    (h : Q (((sIx n 0 lo : Nat) : Int), 1, sIx n n hi - sIx n 0 lo) s) : wpAny (model prog w) A (Builtin.Slice.sliceApplied (.ref sl) (pure (n : Int))) Q E s := by
  obtain ⟨os, hos, hcs, hds⟩ := id hs
  unfold Builtin.Slice.sliceApplied Builtin.Slice.sliceFields
  refine wpAny_bind (wpAny_bind (wpAny_field hos hds (x := vl) rfl (wpAny_bind (wpAny_field hos hds (x := vu) rfl (wpAny_bind (wpAny_field hos hds (x := .none) rfl (wpAny_pure ?_)))))))
  refine wpAny_bind (slicePart_none ?_)
  show wpAny _ _ (if ((1 : Int) == 0) = true then _ else _) _ _ s
  rw [if_neg (by decide)]
  refine wpAny_bind (slicePart_ pl (wpAny_bind (slicePart_ pu (wpAny_bind (wpAny_pure ?_)))))
  show wpAny _ _ (match Builtin.Slice.sliceAdjust lo hi 1 (n : Int) with | (lo, hi) => pure (lo, (1 : Int), Builtin.Slice.slicePlaces lo hi 1)) _ _ s
  rw [adjust_gen lo hi n]
  show wpAny _ _ (pure (((sIx n 0 lo : Nat) : Int), (1 : Int), Builtin.Slice.slicePlaces ((sIx n 0 lo : Nat) : Int) ((sIx n n hi : Nat) : Int) 1)) _ _ s
  rw [places_gen]
  exact wpAny_pure h
theorem pick_gen (xs : Array Value) (i k : Nat) : ((List.range k).filterMap fun (m : Nat) => xs[((i : Int) + (m : Int) * 1).toNat]?).toArray = ((xs.toList.drop i).take k).toArray := by
  have e : (fun (m : Nat) => xs[((i : Int) + (m : Int) * 1).toNat]?) = fun m => xs[i + m]? := by
    funext m
    have : ((i : Int) + (m : Int) * 1).toNat = i + m := by omega
    rw [this]
  rw [e]
  have := pick_run xs i k
  rw [List.filterMap_map] at this
  have e2 : ((fun x => xs[x]?) ∘ fun x => i + x) = fun m => xs[i + m]? := rfl
  rw [e2] at this
  rw [this]

theorem getItem_tuple_cut {t sl : Addr} {items : Array Value} {vl vu : Value} {lo hi : Option Int} {Q : Value → Shared → Prop} (ht : IsTup s.heap t items) (hs : s.heap.IsSliceOf sl vl vu .none) (pl : IsPart vl lo) (pu : IsPart vu hi)
    (hw : ¬ (sIx items.size 0 lo = 0 ∧ sIx items.size items.size hi = items.size))
    (h : Q (.ref s.heap.objs.size) { s with heap := s.heap.push { cls := .type "tuple", data := .seq ((items.toList.drop (sIx items.size 0 lo)).take (sIx items.size items.size hi - sIx items.size 0 lo)).toArray } })
    (hsz : items.size ≤ sizeLine) : wpAny (model prog w) A (getItem (.ref t) (.ref sl)) Q E s := by
  have htake : sizeOk (.seq ((items.toList.drop (sIx items.size 0 lo)).take (sIx items.size items.size hi - sIx items.size 0 lo)).toArray) := by
    show ((items.toList.drop (sIx items.size 0 lo)).take (sIx items.size items.size hi - sIx items.size 0 lo)).toArray.size ≤ sizeLine
    rw [List.size_toArray, List.length_take, List.length_drop, Array.length_toList]
    omega
  have hj : sIx items.size items.size hi ≤ items.size := sIx_le _ _ (Nat.le_refl _) hi
  obtain ⟨os, hos, hcs, hds⟩ := id hs
  have hTs : s.TypeIs (.ref sl) "slice" := ⟨os, hos, hcs⟩
  unfold getItem
  try with_reducible refine wpAny_holding ?_
  first | refine wpAny_bind (wpAny_pure ?_) | skip
  refine wpAny_bind (wpAny_sequenceKey ht.typeIs (by decide) ?_)
  refine wpAny_bind (wpAny_callSpecial?_slot (name := Str.ofString "__getitem__") ht.typeIs PyProof.Rows.slot_tuple_getitem
    (wpAny_call_entry PyProof.Rows.slot_tuple_getitem ht.typeIs entry_tuple_getitem ?_ (args_tuple_getitem _ _)))
  show wpAny _ _ (Builtin.Tuple.tupleItemsOf (.ref t) >>= _) _ _ s
  refine wpAny_bind (tupleItemsOf_ ht ?_)
  refine wpAny_bind (wpAny_typeOf hTs ?_)
  rw [if_pos (by decide)]
  refine wpAny_bind (sliceApplied_gen hs pl pu ?_)
  have hno : ¬ ((((sIx items.size 0 lo : Nat) : Int) == 0 && (1 : Int) == 1 && (sIx items.size items.size hi - sIx items.size 0 lo) == items.size) = true) := by
    intro q
    rw [Bool.and_eq_true, Bool.and_eq_true] at q
    have q1 : ((sIx items.size 0 lo : Nat) : Int) = 0 := eq_of_beq q.1.1
    have q2 : sIx items.size items.size hi - sIx items.size 0 lo = items.size := eq_of_beq q.2
    exact hw ⟨by omega, by omega⟩
  show wpAny _ _ (if (((sIx items.size 0 lo : Nat) : Int) == 0 && (1 : Int) == 1 && (sIx items.size items.size hi - sIx items.size 0 lo) == items.size) = true then _ else _) _ _ s
  rw [if_neg hno, pick_gen]
  first
    | exact wpAny_bind (m := Builtin.Tuple.tupleExact _) (wpAny_newObj_type (wpAny_pure ⟨_, rfl, wpAny_pure h⟩) htake)
    | exact wpAny_bind (m := Builtin.Tuple.tupleExact _) (wpAny_newObj_type (wpAny_bind (wpAny_pure (wpAny_pure ⟨_, rfl, wpAny_pure h⟩))) htake)
    | exact wpAny_bind (wpAny_bind (m := Builtin.Tuple.tupleExact _) (wpAny_newObj_type (wpAny_pure (wpAny_pure ⟨_, rfl, wpAny_pure h⟩)) htake))
    | exact wpAny_bind (wpAny_bind (m := Builtin.Tuple.tupleExact _) (wpAny_newObj_type (wpAny_pure ⟨_, rfl, wpAny_pure h⟩) htake))
end
end HT

namespace L2
open PySem PySem.Spec PyProof.Rows

/-! ### the parts of a slice -/
abbrev TO := St → Hp → (Option Int → Hp → Prop) → Prop
/-- a slice's part (left out, or an int) -/
def PO (X : Cx) (e : Option Expr) (t : TO) : Prop :=
  ∀ (pins : List (Addr × Obj)) (s : Shared) (σ : St) (H : Hp) (Q : Option Int → Hp → Prop), Inv X pins σ H s → t σ H Q →
    wpAny (model X.prog X.w) X.A (evalPart e X.env) (fun u s' => ∃ o H', Inv X pins σ H' s' ∧ IsPart u o ∧ Q o H') X.xe s
def tNoPart : TO := fun _ H Q => Q none H
def tPart (t : TE) : TO := fun σ H Q => t σ H fun x H1 => ∃ i, x = .int i ∧ Q (some i) H1

theorem intsAre_of {ns : List Int} : ∀ {us : List Value}, Vals (ns.map V.int) us → IntsAre us ns := by
  induction ns with
  | nil => intro us r; rw [List.map_nil] at r; cases r; exact .nil
  | cons n ns ih =>
    intro us r
    rw [List.map_cons] at r
    cases r with
    | cons r1 r2 =>
      obtain ⟨t, e⟩ := r1
      subst e
      exact .cons n t (ih r2)

section
variable {X : Cx} {e : Expr} {te : TE} {lo hi : Option Expr} {tl th : TO} {pos p2 : Pos}

theorem po_none : PO X none tNoPart := by
  intro pins s σ H Q I h
  rw [evalPart_none]
  exact wpAny_pure ⟨none, H, I, .none, h⟩
theorem po_some (h : PE X e te) : PO X (some e) (tPart te) := by
  intro pins s σ H Q I hw
  rw [evalPart_some]
  refine thn (h pins s σ H _ I hw) fun u s1 ⟨x, H1, I1, r1, q1⟩ => ?_
  obtain ⟨i, rfl, q⟩ := q1
  obtain ⟨t, rfl⟩ := r1
  exact ⟨some i, H1, I1, .int i t, q⟩

/-- what a slice of a value is, by values: the slice object stands at sl -/
def SlR (X : Cx) (r : V → Option Int → Option Int → Hp → VK → Prop) : Prop :=
  ∀ (pins : List (Addr × Obj)) (s : Shared) (σ : St) (H : Hp) (x : V) (v vl vu : Value) (lo hi : Option Int) (sl : Addr) (Q : VK), Inv X pins σ H s → RelV x v → s.heap.IsSliceOf sl vl vu .none → IsPart vl lo → IsPart vu hi → r x lo hi H Q →
    ∃ T id, typeLookup (.type T) "__getitem__" = pure (some (.builtin id)) ∧ s.TypeIs v T ∧ wpAny (model X.prog X.w) X.A (getItem v (.ref sl)) (EP X pins σ Q) X.xe s
theorem SlR.or {r r' : V → Option Int → Option Int → Hp → VK → Prop} (h : SlR X r) (h' : SlR X r') : SlR X (fun x lo hi H Q => r x lo hi H Q ∨ r' x lo hi H Q) := by
  intro pins s σ H x v vl vu lo hi sl Q I rx hs pl pu q
  rcases q with q | q
  · exact h pins s σ H x v vl vu lo hi sl Q I rx hs pl pu q
  · exact h' pins s σ H x v vl vu lo hi sl Q I rx hs pl pu q
def tSl (r : V → Option Int → Option Int → Hp → VK → Prop) (te : TE) (tl th : TO) : TE := fun σ H Q => te σ H fun x H1 => tl σ H1 fun l H2 => th σ H2 fun u H3 => r x l u H3 Q
/-- a[lo:hi], any a -/
theorem pe_slice {r : V → Option Int → Option Int → Hp → VK → Prop} (hr : SlR X r) (he : PE X e te) (hl : PO X lo tl) (hu : PO X hi th) : PE X (.Subscript e (.Slice lo hi none p2) pos) (tSl r te tl th) := by
  intro pins s σ H Q I h
  refine Subscript_ (thn (he pins s σ H _ I h) fun v s1 ⟨x, H1, I1, r1, q1⟩ => ?_)
  refine wpAny_Slice (thn (hl pins s1 σ H1 _ I1 q1) fun vl s2 ⟨l, H2, I2, pl, q2⟩ => thn (hu pins s2 σ H2 _ I2 q2) fun vu s3 ⟨u, H3, I3, pu, q3⟩ => ?_)
  rw [evalPart_none]
  refine wpAny_pure ?_
  have I4 : Inv X pins σ H3 { s3 with heap := s3.heap.push { cls := .type "slice", data := .fields #[vl, vu, .none] } } := I3.kept (t' := s3.toks) fun b ob q => Heap.get?_push_of_some _ q
  obtain ⟨T, id, hT, ht, hg⟩ := hr pins { s3 with heap := s3.heap.push { cls := .type "slice", data := .fields #[vl, vu, .none] } } σ H3 x v vl vu l u s3.heap.objs.size Q I4 r1 (Heap.IsSliceOf.new ..) pl pu q3
  show wpAny (model X.prog X.w) X.A (subscriptTail e (.Slice lo hi none p2) v (.ref s3.heap.objs.size)) (EP X pins σ Q) X.xe { s3 with heap := s3.heap.push { cls := .type "slice", data := .fields #[vl, vu, .none] } }
  exact tail_any (ops := [.ref s3.heap.objs.size, v]) ht hT hg (by with_unfolding_all rfl)

/-- the items of xs[lo:hi] -/
def cutV (xs : List V) (lo hi : Option Int) : List V := (xs.drop (HT.sIx xs.length 0 lo)).take (HT.sIx xs.length xs.length hi - HT.sIx xs.length 0 lo)
theorem cutV_length (xs : List V) (lo hi : Option Int) : (cutV xs lo hi).length ≤ xs.length := by
  unfold cutV
  rw [List.length_take, List.length_drop]
  omega
/-- t[lo:hi], not the whole of it (the whole would be t itself) -/
def rSlT (K : PySem.W.Frag) : V → Option Int → Option Int → Hp → VK → Prop := fun x lo hi H Q => ∃ a xs, x = .ref a ∧ SqT K H a xs ∧
  ¬ (HT.sIx xs.length 0 lo = 0 ∧ HT.sIx xs.length xs.length hi = xs.length) ∧ ∀ p, H p = none → Q (.ref p) (upd H p (.tup (cutV xs lo hi)))
theorem sl_tup : SlR X (rSlT X.K) := by
  intro pins s σ H x v vl vu lo hi sl Q I rx hs pl pu h
  obtain ⟨a, xs, rfl, hx, hw, q⟩ := h
  cases rx
  obtain ⟨its, r, ht, hz⟩ := I.tuple hx
  have hlen : its.toArray.size = xs.length := by rw [List.size_toArray]; exact r.length.symm
  refine ⟨"tuple", _, PyProof.Rows.slot_tuple_getitem.lookup, ht.typeIs, ?_⟩
  refine HT.getItem_tuple_cut ht hs pl pu (by rw [hlen]; exact hw) ?_ (by rw [hlen]; exact hz)
  rw [hlen]
  refine ⟨.ref s.heap.objs.size, _, I.laid (t' := s.toks) (o := .tup (cutV xs lo hi)) (fun b ob q => Heap.get?_push_of_some _ q) (Nat.le_refl _) ?_, rfl, q _ (I.hok.fresh (Nat.le_refl _))⟩
  exact ⟨Nat.le_trans (cutV_length xs lo hi) hz, _, (r.drop (HT.sIx xs.length 0 lo)).take (HT.sIx xs.length xs.length hi - HT.sIx xs.length 0 lo), IsTup.new _ _⟩

/-! ### t < u, t + u -/
def rLtT (K : PySem.W.Frag) : R2 := fun x y H Q => ∃ a b ns ms, x = .ref a ∧ y = .ref b ∧ SqT K H a (ns.map V.int) ∧ SqT K H b (ms.map V.int) ∧ Q (.bl (HT.lexLt ns ms)) H
theorem op_ltT (hu : X.A.units < cLine) : OpR X (compareOp .Lt) (rLtT X.K) := by
  intro pins s σ H x y v u Q I rx ry h
  obtain ⟨a, b, ns, ms, rfl, rfl, ha, hb, q⟩ := h
  cases rx
  cases ry
  obtain ⟨its, r1, p1, _⟩ := I.tuple ha
  obtain ⟨its2, r2, p2, _⟩ := I.tuple hb
  have i1 : IntsAre its.toArray.toList ns := intsAre_of r1
  have i2 : IntsAre its2.toArray.toList ms := intsAre_of r2
  exact HT.lt_tupInts p1 p2 i1 i2 hu ⟨.bl (HT.lexLt ns ms), H, I, rfl, q⟩
/-- t + u, t not empty: u empty gives t itself -/
def rCatT (K : PySem.W.Frag) : R2 := fun x y H Q => ∃ a b xs ys, x = .ref a ∧ y = .ref b ∧ SqT K H a xs ∧ SqT K H b ys ∧ xs ≠ [] ∧ xs.length + ys.length ≤ sizeLine ∧
  (ys = [] → Q (.ref a) H) ∧ (ys ≠ [] → ∀ p, H p = none → Q (.ref p) (upd H p (.tup (xs ++ ys))))
theorem Vals.nil_iff {xs : List V} {us : List Value} (r : Vals xs us) : us = [] ↔ xs = [] := by
  cases r with
  | nil => simp
  | cons _ _ => simp
theorem op_catT : OpR X (binaryOp .Add) (rCatT X.K) := by
  intro pins s σ H x y v u Q I rx ry h
  obtain ⟨a, b, xs, ys, rfl, rfl, ha, hb, hx, hz, q1, q2⟩ := h
  cases rx
  cases ry
  obtain ⟨its, r1, p1, _⟩ := I.tuple ha
  obtain ⟨its2, r2, p2, _⟩ := I.tuple hb
  refine HT.cat_tup p1 p2 (fun z => hx (r1.nil_iff.mp z)) (fun z => ⟨.ref a, H, I, rfl, q1 (r2.nil_iff.mp z)⟩) (fun z => ?_) (by rw [← r1.length, ← r2.length]; exact hz)
  refine ⟨.ref s.heap.objs.size, _, I.laid (t' := s.toks) (o := .tup (xs ++ ys)) (fun b ob q => Heap.get?_push_of_some _ q) (Nat.le_refl _) ?_, rfl, q2 (fun w => z (r2.nil_iff.mpr w)) _ (I.hok.fresh (Nat.le_refl _))⟩
  exact ⟨by rw [List.length_append]; exact hz, _, r1.append r2, IsTup.new _ _⟩
/-- tuple(t) -/
theorem call_tupleT : CallR X (.type "tuple") (fun xs H Q => ∃ a ys, xs = [.ref a] ∧ SqT X.K H a ys ∧ Q (.ref a) H) := by
  intro pins s σ H xs us Q I r h
  obtain ⟨a, ys, rfl, ha, q⟩ := h
  obtain ⟨u, rfl, ru⟩ := vals1 r
  cases ru
  obtain ⟨its, _, p1, _⟩ := I.tuple ha
  exact call_tuple_same (items := its.toArray) p1 ⟨.ref a, H, I, rfl, q⟩
end
end L2

namespace L2
open PySem PySem.Spec PyProof.Rows

/-! ### places -/
/-- the place that an index of any sign means -/
def ixN (n : Nat) (i : Int) : Option Nat := if 0 ≤ i then (if i < n then some i.toNat else none) else if -(n : Int) ≤ i then some (i + n).toNat else none
def atI {α : Type} (xs : List α) (i : Int) : Option α := (ixN xs.length i).bind fun j => xs[j]?
theorem ixN_seq {n : Nat} {i : Int} {j : Nat} (h : ixN n i = some j) : seqIndex? i n = some j ∧ j < n ∧ -(n : Int) ≤ i ∧ i < n := by
  unfold ixN at h
  by_cases h0 : 0 ≤ i
  · rw [if_pos h0] at h
    by_cases h1 : i < n
    · rw [if_pos h1] at h
      have e : i.toNat = j := Option.some.inj h
      exact ⟨by rw [seqIndex_of h0 h1, e], by omega, by omega, h1⟩
    · rw [if_neg h1] at h; cases h
  · rw [if_neg h0] at h
    by_cases h1 : -(n : Int) ≤ i
    · rw [if_pos h1] at h
      have e : (i + n).toNat = j := Option.some.inj h
      exact ⟨by rw [seqIndex_neg (by omega) h1, e], by omega, h1, by omega⟩
    · rw [if_neg h1] at h; cases h
theorem atI_get {α : Type} {xs : List α} {i : Int} {v : α} (h : atI xs i = some v) : ∃ j, seqIndex? i xs.length = some j ∧ xs[j]? = some v ∧ j < xs.length ∧ -(xs.length : Int) ≤ i ∧ i < xs.length := by
  unfold atI at h
  cases e : ixN xs.length i with
  | none => rw [e] at h; cases h
  | some j =>
    rw [e] at h
    obtain ⟨h1, h2, h3, h4⟩ := ixN_seq e
    exact ⟨j, h1, h, h2, h3, h4⟩
theorem atI_nat {α : Type} {xs : List α} {j : Nat} {v : α} (h : xs[j]? = some v) : atI xs (j : Int) = some v := by
  have hj : j < xs.length := (List.getElem?_eq_some_iff.mp h).1
  have e : ixN xs.length (j : Int) = some j := by
    unfold ixN
    rw [if_pos (by omega), if_pos (by omega)]; simp
  unfold atI; rw [e]; exact h
theorem atI_last {α : Type} (xs : List α) (v : α) : atI (xs ++ [v]) (-1) = some v := by
  have hl : (xs ++ [v]).length = xs.length + 1 := by simp
  have e : ixN (xs ++ [v]).length (-1) = some xs.length := by
    unfold ixN
    rw [hl, if_neg (by decide), if_pos (by omega)]
    congr 1
    omega
  unfold atI
  rw [e]
  show (xs ++ [v])[xs.length]? = some v
  simp

/-! ### what may be subscripted -/
/-- what stands as an index of a plain subscript -/
def PlainIx (b : Expr) : Prop := ∀ o i, subscripted b false o i = operate [o, i] (getItem o i)
/-- a subscript by values -/
def IxR (X : Cx) (r : R2) : Prop :=
  ∀ (value slice : Expr) (pins : List (Addr × Obj)) (s : Shared) (σ : St) (H : Hp) (x y : V) (v u : Value) (Q : VK), Inv X pins σ H s → RelV x v → RelV y u → r x y H Q →
    subscripted slice false v u = operate [v, u] (getItem v u) → wpAny (model X.prog X.w) X.A (subscriptTail value slice v u) (EP X pins σ Q) X.xe s
/-- a call of a builtin's method by values: the receiver, the arguments -/
def MtR (X : Cx) (id : String) (r : V → List V → Hp → VK → Prop) : Prop :=
  ∀ (pins : List (Addr × Obj)) (s : Shared) (σ : St) (H : Hp) (x : V) (xs : List V) (v : Value) (us : List Value) (Q : VK), Inv X pins σ H s → RelV x v → Vals xs us → r x xs H Q →
    wpAny (model X.prog X.w) X.A (call (.builtin id) (v :: us)) (EP X pins σ Q) X.xe s
section
variable {X : Cx} {a b : Expr} {ta tb : TE} {pos : Pos}
theorem IxR.or {r r' : R2} (h : IxR X r) (h' : IxR X r') : IxR X (fun x y H Q => r x y H Q ∨ r' x y H Q) := by
  intro value slice pins s σ H x y v u Q I rx ry q hs
  rcases q with q | q
  · exact h value slice pins s σ H x y v u Q I rx ry q hs
  · exact h' value slice pins s σ H x y v u Q I rx ry q hs
theorem MtR.or {id : String} {r r' : V → List V → Hp → VK → Prop} (h : MtR X id r) (h' : MtR X id r') : MtR X id (fun x xs H Q => r x xs H Q ∨ r' x xs H Q) := by
  intro pins s σ H x xs v us Q I rx rs q
  rcases q with q | q
  · exact h pins s σ H x xs v us Q I rx rs q
  · exact h' pins s σ H x xs v us Q I rx rs q
/-- a[b] -/
theorem pe_ix {r : R2} (hr : IxR X r) (ha : PE X a ta) (hb : PE X b tb) (hs : PlainIx b) : PE X (.Subscript a b pos) (tOp r ta tb) := by
  intro pins s σ H Q I h
  exact Subscript_ (binT ha hb I h fun v u s2 x y H2 I2 rx ry q => hr a b pins s2 σ H2 x y v u Q I2 rx ry q (hs _ _))

def rIxL (K : PySem.W.Frag) : R2 := fun x y H Q => ∃ p xs i v, x = .ref p ∧ y = .int i ∧ SqL K H p xs ∧ atI xs i = some v ∧ Q v H
def rIxT (K : PySem.W.Frag) : R2 := fun x y H Q => ∃ p xs i v, x = .ref p ∧ y = .int i ∧ SqT K H p xs ∧ atI xs i = some v ∧ Q v H
def rIxS : R2 := fun x y H Q => ∃ z i c, x = .str z ∧ y = .int i ∧ z.length ≤ sizeLine ∧ atI z.cps.toList i = some c ∧ Q (.str ⟨#[c]⟩) H
theorem ix_list : IxR X (rIxL X.K) := by
  intro value slice pins s σ H x y v u Q I rx ry h hs
  obtain ⟨p, xs, i, z, rfl, rfl, hq, he, q⟩ := h
  cases rx
  obtain ⟨t, rfl⟩ := ry
  obtain ⟨its, r, pl, hz⟩ := I.list hq
  obtain ⟨j, h1, h2, h3, h4, h5⟩ := atI_get he
  obtain ⟨w, ew, rw'⟩ := r.get h2
  have hl := r.length
  have hn := line63
  have fin : EP X pins σ Q w s := ⟨z, H, I, rw', q⟩
  by_cases h0 : 0 ≤ i
  · have hj : i.toNat = j := by
      rw [seqIndex_of h0 h5] at h1
      exact Option.some.inj h1
    exact item_listR pl.isList h0 (by omega) (by rw [hj]; simpa using ew) fin hs
  · have hj : (i + (its.toArray.size : Int)).toNat = j := by
      rw [seqIndex_neg (by omega) h4] at h1
      rw [List.size_toArray, ← hl]
      exact Option.some.inj h1
    exact subscriptTail_builtinR (x := w) pl.isList.typeIs slot_list_getitem.lookup
      (wpAny_getItem_list_neg (Q := fun r s' => r = w ∧ EP X pins σ Q r s') pl.isList (by omega) (by rw [List.size_toArray] <;> omega) (by omega) (by rw [hj]; simpa using ew) ⟨rfl, fin⟩) hs
theorem ix_tup : IxR X (rIxT X.K) := by
  intro value slice pins s σ H x y v u Q I rx ry h hs
  obtain ⟨p, xs, i, z, rfl, rfl, hq, he, q⟩ := h
  cases rx
  obtain ⟨t, rfl⟩ := ry
  obtain ⟨its, r, pl, hz⟩ := I.tuple hq
  obtain ⟨j, h1, h2, h3, h4, h5⟩ := atI_get he
  obtain ⟨w, ew, rw'⟩ := r.get h2
  have hl := r.length
  have hn := line63
  have fin : EP X pins σ Q w s := ⟨z, H, I, rw', q⟩
  exact subscriptTail_builtinR (x := w) pl.typeIs slot_tuple_getitem.lookup
    (getItem_tuple (j := j) (Q := fun r s' => r = w ∧ EP X pins σ Q r s') pl (by omega) (by omega) (by rw [List.size_toArray, ← hl]; exact h1) (by simpa using ew) ⟨rfl, fin⟩) hs
theorem ix_str : IxR X rIxS := by
  intro value slice pins s σ H x y v u Q I rx ry h hs
  obtain ⟨z, i, c, rfl, rfl, hz, he, q⟩ := h
  obtain ⟨t, rfl⟩ := rx
  obtain ⟨t', rfl⟩ := ry
  obtain ⟨j, h1, h2, h3, h4, h5⟩ := atI_get he
  have hl : z.cps.toList.length = z.length := by simp [Str.length]
  rw [hl] at h1 h4 h5
  have hn := line63
  exact tail_any (typeIs_str s z t) slot_str_getitem.lookup (getItem_str (c := c) (by
    have e1 : decide (i < -(2 ^ 63 : Int)) = false := decide_eq_false (by omega)
    have e2 : decide (i ≥ 2 ^ 63) = false := decide_eq_false (by omega)
    rw [e1, e2, Bool.or_false]) (by rw [h1]; simpa using h2) ⟨.str ⟨#[c]⟩, H, I.tok _, ⟨_, rfl⟩, q⟩) hs
/-- list, tuple or str -/
def rIx (K : PySem.W.Frag) : R2 := fun x y H Q => rIxL K x y H Q ∨ rIxT K x y H Q ∨ rIxS x y H Q
theorem ix_seq : IxR X (rIx X.K) := ix_list.or (ix_tup.or ix_str)

/-! ### xs[i] = v, any sign -/
/-- the list's object behind a store -/
theorem mapSeq_set (its : List Value) (n j : Nat) (u : Value) : Obj.mapSeq (·.setIfInBounds j u) { cls := .type "list", data := .seq its.toArray n } = { cls := .type "list", data := .seq (its.set j u).toArray n } := by
  simp [Obj.mapSeq]
theorem Inv.lst {pins : List (Addr × Obj)} {σ : St} {H : Hp} {s : Shared} {p : Addr} {xs : List V} (I : Inv X pins σ H s) (h : H p = some (.lst xs)) :
    ∃ (its : List Value) (n : Nat), Vals xs its ∧ s.heap.get? p = some { cls := .type "list", data := .seq its.toArray n } ∧ xs.length ≤ sizeLine := by
  obtain ⟨z, its, n, r, e⟩ := I.hok p _ h
  exact ⟨its, n, r, e, z⟩
/-- the list at p is written by an update of its object -/
theorem Inv.lstUpd {pins : List (Addr × Obj)} {σ : St} {H : Hp} {s : Shared} {p : Addr} {xs ys : List V} {its its' : List Value} {n n' : Nat} {f : Obj → Obj} (I : Inv X pins σ H s) (h : H p = some (.lst xs))
    (ho : s.heap.get? p = some { cls := .type "list", data := .seq its.toArray n }) (hf : f { cls := .type "list", data := .seq its.toArray n } = { cls := .type "list", data := .seq its'.toArray n' }) (r : Vals ys its') (hz : ys.length ≤ sizeLine) (t : Nat) :
    Inv X pins σ (upd H p (.lst ys)) { s with heap := s.heap.update p f, toks := t } := by
  have e : (s.heap.update p f).get? p = some { cls := .type "list", data := .seq its'.toArray n' } := by
    rw [Heap.get?_update_self f ho (by rw [hf] <;> rfl), hf]
  refine I.write (x := p) (e := p) (by rw [h]; trivial) (.inl rfl) (fun b u hb q => (Heap.get?_update_other _ _ (Ne.symm hb)).trans q) ⟨_, e⟩ ?_
  exact ⟨hz, its', n', r, e⟩
def rSetL : V → V → V → Hp → (Hp → Prop) → Prop := fun o i v H Q => ∃ p xs k j, o = .ref p ∧ i = .int k ∧ H p = some (.lst xs) ∧ ixN xs.length k = some j ∧ Q (upd H p (.lst (xs.set j v)))
theorem set_list : PSet X rSetL := by
  intro pins s σ H o i v ov iv u Q I ro ri rv h
  obtain ⟨p, xs, k, j, rfl, rfl, hp, hj, q⟩ := h
  cases ro
  obtain ⟨t, rfl⟩ := ri
  obtain ⟨its, n, r, ho, hz⟩ := I.lst hp
  obtain ⟨h1, h2, h3, h4⟩ := ixN_seq hj
  have hl := r.length
  have hn := line63
  have I' : Inv X pins σ (upd H p (.lst (xs.set j v))) { s with heap := s.heap.update p (Obj.mapSeq (·.setIfInBounds j u)) } :=
    I.lstUpd hp ho (mapSeq_set its n j u) (r.set rv j) (by rw [List.length_set]; exact hz) s.toks
  by_cases h0 : 0 ≤ k
  · have hk : k.toNat = j := by
      rw [seqIndex_of h0 h4] at h1
      exact Option.some.inj h1
    exact PySem.W.ki_setAt ho h0 (by omega) (by rw [List.size_toArray, ← hl]; exact h4) (by rw [hk]; exact ⟨_, I', q⟩)
  · have hk : (k + (its.toArray.size : Int)).toNat = j := by
      rw [seqIndex_neg (by omega) h3] at h1
      rw [List.size_toArray, ← hl]
      exact Option.some.inj h1
    exact PySem.W.ki_setBack ho (by omega) (by rw [List.size_toArray, ← hl]; exact h3) (by omega) (by rw [hk]; exact ⟨_, I', q⟩)

/-! ### slices -/
theorem slice_bounds (lo hi : Option Int) (n : Nat) : (sliceBounds lo hi none n).1 = ((HT.sIx n 0 lo : Nat) : Int) ∧ (sliceBounds lo hi none n).2.1 = ((HT.sIx n n hi : Nat) : Int) ∧ (sliceBounds lo hi none n).2.2 = 1 := by
  refine ⟨?_, ?_, rfl⟩
  · cases lo with
    | none => simp [sliceBounds, HT.sIx]
    | some i =>
      simp only [sliceBounds, HT.sIx, Option.getD_none, show (1 : Int) > 0 by decide, if_true]
      by_cases h : i < 0
      · simp only [h, if_true] <;> omega
      · simp only [h, if_false] <;> omega
  · cases hi with
    | none => simp [sliceBounds, HT.sIx]
    | some i =>
      simp only [sliceBounds, HT.sIx, Option.getD_none, show (1 : Int) > 0 by decide, if_true]
      by_cases h : i < 0
      · simp only [h, if_true] <;> omega
      · simp only [h, if_false] <;> omega
theorem slicePick_cut (its : List Value) (lo hi : Option Int) : slicePick its.toArray lo hi none = ((its.drop (HT.sIx its.length 0 lo)).take (HT.sIx its.length its.length hi - HT.sIx its.length 0 lo)).toArray := by
  obtain ⟨h1, h2, h3⟩ := slice_bounds lo hi its.toArray.size
  unfold slicePick
  rw [h1, h2, h3]
  simp only [sliceRange_one, pick_run, List.size_toArray] <;> rfl
/-- xs[lo:hi] of a list: a new list -/
def rSlL (K : PySem.W.Frag) : V → Option Int → Option Int → Hp → VK → Prop := fun x lo hi H Q => ∃ a xs, x = .ref a ∧ SqL K H a xs ∧ ∀ p, H p = none → Q (.ref p) (upd H p (.lst (cutV xs lo hi)))
theorem sl_list : SlR X (rSlL X.K) := by
  intro pins s σ H x v vl vu lo hi sl Q I rx hs pl pu h
  obtain ⟨a, xs, rfl, hx, q⟩ := h
  cases rx
  obtain ⟨its, r, ht, hz⟩ := I.list hx
  have hlen := r.length
  refine ⟨"list", _, slot_list_getitem.lookup, ht.isList.typeIs, ?_⟩
  refine wpAny_getItem_list_slice ht.isList hs pl pu .none (by simp) ?_ (by rw [List.size_toArray] <;> omega)
  rw [slicePick_cut, ← hlen]
  refine ⟨.ref s.heap.objs.size, _, I.laid (t' := s.toks) (o := .lst (cutV xs lo hi)) (fun b ob q => Heap.get?_push_of_some _ q) (Nat.le_refl _) ?_, rfl, q _ (I.hok.fresh (Nat.le_refl _))⟩
  exact ⟨Nat.le_trans (cutV_length xs lo hi) hz, _, 0, (r.drop (HT.sIx xs.length 0 lo)).take (HT.sIx xs.length xs.length hi - HT.sIx xs.length 0 lo), Heap.get?_push_size _ rfl⟩

/-! ### in, not in: flat items -/
def flatV : V → Bool
  | .non => true
  | .bl _ => true
  | .int _ => true
  | .str _ => true
  | _ => false
/-- == of flat values -/
def eqV : V → V → Bool
  | .non, .non => true
  | .bl a, .bl b => a == b
  | .bl a, .int b => (if a then 1 else 0) == b
  | .int a, .bl b => a == (if b then 1 else 0)
  | .int a, .int b => a == b
  | .str a, .str b => a == b
  | _, _ => false
theorem eqAt_V {A : Around} {s : Shared} {y x : V} {u v : Value} (ry : RelV y u) (rx : RelV x v) (fy : flatV y = true) (fx : flatV x = true) : SeqAt.EqAt A s u v (eqV y x) := by
  cases y with
  | non =>
    cases ry
    cases x with
    | non => cases rx; exact SeqAt.EqAt.same _
    | bl b => cases rx; exact SeqAt.EqAt.none_bool b
    | int b => obtain ⟨t, rfl⟩ := rx; exact SeqAt.EqAt.none_int b t
    | str b => obtain ⟨t, rfl⟩ := rx; exact SeqAt.EqAt.none_str b t
    | _ => exact absurd (show false = true from fx) Bool.false_ne_true
  | bl a =>
    cases ry
    cases x with
    | non => cases rx; exact SeqAt.EqAt.bool_none a
    | bl b => cases rx; exact SeqAt.EqAt.bool_bool a b
    | int b => obtain ⟨t, rfl⟩ := rx; exact SeqAt.EqAt.bool_int a b t
    | str b => obtain ⟨t, rfl⟩ := rx; exact SeqAt.EqAt.bool_str a b t
    | _ => exact absurd (show false = true from fx) Bool.false_ne_true
  | int a =>
    obtain ⟨t', rfl⟩ := ry
    cases x with
    | non => cases rx; exact SeqAt.EqAt.int_none a t'
    | bl b => cases rx; exact SeqAt.EqAt.int_bool a t' b
    | int b => obtain ⟨t, rfl⟩ := rx; exact SeqAt.EqAt.int_int a t' b t
    | str b => obtain ⟨t, rfl⟩ := rx; exact SeqAt.EqAt.int_str a t' b t
    | _ => exact absurd (show false = true from fx) Bool.false_ne_true
  | str a =>
    obtain ⟨t', rfl⟩ := ry
    cases x with
    | non => cases rx; exact SeqAt.EqAt.str_none a t'
    | bl b => cases rx; exact SeqAt.EqAt.str_bool a t' b
    | int b => obtain ⟨t, rfl⟩ := rx; exact SeqAt.EqAt.str_int a t' b t
    | str b => obtain ⟨t, rfl⟩ := rx; exact SeqAt.EqAt.str_str a t' b t
    | _ => exact absurd (show false = true from fx) Bool.false_ne_true
  | _ => exact absurd (show false = true from fy) Bool.false_ne_true
/-- the items' answers, read off the values (a value's own answer does not lean on its token) -/
def eqU (x : V) (u : Value) : Bool := match u with
  | .none => eqV .non x
  | .bool b => eqV (.bl b) x
  | .int i _ => eqV (.int i) x
  | .str z _ => eqV (.str z) x
  | _ => false
theorem eqU_of {x y : V} {u : Value} (r : RelV y u) (f : flatV y = true) : eqU x u = eqV y x := by
  cases y with
  | non => cases r; rfl
  | bl b => cases r; rfl
  | int i => obtain ⟨t, rfl⟩ := r; rfl
  | str z => obtain ⟨t, rfl⟩ := r; rfl
  | _ => exact absurd (show false = true from f) Bool.false_ne_true
theorem any_eqU {x : V} : ∀ {xs : List V} {us : List Value}, Vals xs us → xs.all flatV = true → us.any (eqU x) = xs.any fun y => eqV y x
  | _, _, .nil, _ => rfl
  | y :: xs, u :: us, .cons r t, f => by
    rw [List.all_cons, Bool.and_eq_true] at f
    rw [List.any_cons, List.any_cons, eqU_of r f.1, any_eqU t f.2]
theorem mem_eqAt {A : Around} {s : Shared} {x : V} {v : Value} (rx : RelV x v) (fx : flatV x = true) : ∀ {xs : List V} {us : List Value}, Vals xs us → xs.all flatV = true → ∀ u ∈ us, SeqAt.EqAt A s u v (eqU x u)
  | _, _, .nil, _ => fun u hu => by cases hu
  | y :: xs, u :: us, .cons r t, f => fun u' hu => by
    rw [List.all_cons, Bool.and_eq_true] at f
    rcases List.mem_cons.mp hu with rfl | hu
    · rw [eqU_of r f.1]; exact eqAt_V r rx f.1 fx
    · exact mem_eqAt rx fx t f.2 u' hu
def inV (x : V) (xs : List V) : Bool := xs.any fun y => eqV y x
/-- x in a list or tuple of flat items -/
def rIn (K : PySem.W.Frag) (neg : Bool) : R2 := fun x y H Q => ∃ p xs, y = .ref p ∧ (SqL K H p xs ∨ SqT K H p xs) ∧ flatV x = true ∧ xs.all flatV = true ∧ Q (.bl (if neg then !inV x xs else inV x xs)) H
theorem op_in_seq : OpR X (compareOp .In) (rIn X.K false) := by
  intro pins s σ H x y v u Q I rx ry h
  obtain ⟨p, xs, rfl, hq, fx, fs, q⟩ := h
  cases ry
  rcases hq with hq | hq
  · obtain ⟨its, r, pl, hz⟩ := I.list hq
    refine SeqAt.in_listAt (eqU x) pl.isList (fun w hw => mem_eqAt rx fx r fs w (by simpa using hw)) ⟨.bl _, H, I, rfl, ?_⟩
    rw [show its.toArray.any (eqU x) = its.any (eqU x) by simp, any_eqU r fs]
    exact q
  · obtain ⟨its, r, pl, hz⟩ := I.tuple hq
    refine SeqAt.in_tupleAt (eqU x) pl (fun w hw => mem_eqAt rx fx r fs w (by simpa using hw)) ⟨.bl _, H, I, rfl, ?_⟩
    rw [show its.toArray.any (eqU x) = its.any (eqU x) by simp, any_eqU r fs]
    exact q
theorem op_notIn_seq : OpR X (compareOp .NotIn) (rIn X.K true) := by
  intro pins s σ H x y v u Q I rx ry h
  obtain ⟨p, xs, rfl, hq, fx, fs, q⟩ := h
  cases ry
  rcases hq with hq | hq
  · obtain ⟨its, r, pl, hz⟩ := I.list hq
    refine SeqAt.notIn_listAt (eqU x) pl.isList (fun w hw => mem_eqAt rx fx r fs w (by simpa using hw)) ⟨.bl _, H, I, rfl, ?_⟩
    rw [show its.toArray.any (eqU x) = its.any (eqU x) by simp, any_eqU r fs]
    exact q
  · obtain ⟨its, r, pl, hz⟩ := I.tuple hq
    refine SeqAt.notIn_tupleAt (eqU x) pl (fun w hw => mem_eqAt rx fx r fs w (by simpa using hw)) ⟨.bl _, H, I, rfl, ?_⟩
    rw [show its.toArray.any (eqU x) = its.any (eqU x) by simp, any_eqU r fs]
    exact q
theorem op_notIn_str : OpR X (compareOp .NotIn) (fun x y H Q => ∃ i j, x = .str i ∧ y = .str j ∧ Q (.bl (!(!(Builtin.Str.occurrences j i 0 j.length 1).isEmpty))) H) := by
  intro pins s σ H x y v u Q I rx ry h
  obtain ⟨i, j, rfl, rfl, q⟩ := h
  obtain ⟨t, rfl⟩ := rx
  obtain ⟨t', rfl⟩ := ry
  exact notIn_str ⟨.bl _, H, I, rfl, q⟩

/-! ### len, list(x), tuple(x) of any list or tuple that is read -/
theorem call_len_seq : CallR X (.builtin "len") (fun xs H Q => ∃ p ys, xs = [.ref p] ∧ (SqL X.K H p ys ∨ SqT X.K H p ys) ∧ Q (.int ys.length) H) := by
  intro pins s σ H xs us Q I r h
  obtain ⟨p, ys, rfl, hq, q⟩ := h
  obtain ⟨u, rfl, rx⟩ := vals1 r
  cases rx
  have hn := line63
  rcases hq with hq | hq
  · obtain ⟨its, r', pl, hz⟩ := I.list hq
    have hlen := r'.length
    exact Calls.call_len_list pl.isList (by simp only [List.size_toArray] <;> omega) ⟨.int ys.length, H, I.tok _, ⟨s.toks + 1, by rw [List.size_toArray, hlen]⟩, q⟩
  · obtain ⟨its, r', pl, hz⟩ := I.tuple hq
    have hlen := r'.length
    exact len_tuple pl (by simp only [List.size_toArray] <;> omega) ⟨.int ys.length, H, I.tok _, ⟨s.toks + 1, by rw [List.size_toArray, hlen]⟩, q⟩
theorem call_len_str : CallR X (.builtin "len") (fun xs H Q => ∃ z, xs = [.str z] ∧ z.length ≤ sizeLine ∧ Q (.int z.length) H) := by
  intro pins s σ H xs us Q I r h
  obtain ⟨z, rfl, hz, q⟩ := h
  obtain ⟨u, rfl, t, rfl⟩ := vals1 r
  have hn := line63
  exact len_str (by omega) ⟨.int z.length, H, I.tok _, ⟨_, rfl⟩, q⟩
theorem CallR.or {f : Value} {r r' : List V → Hp → VK → Prop} (h : CallR X f r) (h' : CallR X f r') : CallR X f (fun xs H Q => r xs H Q ∨ r' xs H Q) := by
  intro pins s σ H xs us Q I rs q
  rcases q with q | q
  · exact h pins s σ H xs us Q I rs q
  · exact h' pins s σ H xs us Q I rs q
theorem call_list_of : CallR X (.type "list") (fun xs H Q => ∃ p ys, xs = [.ref p] ∧ (SqL X.K H p ys ∨ SqT X.K H p ys) ∧ ∀ l, H l = none → Q (.ref l) (upd H l (.lst ys))) := by
  intro pins s σ H xs us Q I r h
  obtain ⟨p, ys, rfl, hq, q⟩ := h
  obtain ⟨u, rfl, rx⟩ := vals1 r
  cases rx
  have fin : ∀ (its : List Value), Vals ys its → ys.length ≤ sizeLine → ∀ (h' : Heap) (c' : Nat), (∀ b o', s.heap.get? b = some o' → h'.get? b = some o') →
      h'.get? s.heap.objs.size = some { cls := .type "list", dict := none, data := .seq its.toArray c', slots := #[] } → EP X pins σ Q (.ref s.heap.objs.size) { s with heap := h' } := fun its r' hz h' c' kp e =>
    ⟨.ref s.heap.objs.size, _, I.laid (t' := s.toks) kp (Nat.le_refl _) (show ObjOk X.prog X.w _ h' _ (.lst ys) from ⟨hz, its, c', r', e⟩), rfl, q _ (I.hok.fresh (Nat.le_refl _))⟩
  rcases hq with hq | hq
  · obtain ⟨its, r', pl, hz⟩ := I.list hq
    have hlen := r'.length
    obtain ⟨o, ho, hc, n, hd⟩ := pl.isList
    exact call_list_seq p (.inl rfl) ho hc hd (fun h' c' kp e => fin its r' hz h' c' kp e) (by simp only [List.size_toArray] <;> omega)
  · obtain ⟨its, r', pl, hz⟩ := I.tuple hq
    have hlen := r'.length
    obtain ⟨o, ho, hc, n, hd⟩ := pl
    exact call_list_seq p (.inr rfl) ho hc hd (fun h' c' kp e => fin its r' hz h' c' kp e) (by simp only [List.size_toArray] <;> omega)
theorem call_tuple_of : CallR X (.type "tuple") (fun xs H Q => ∃ p ys, xs = [.ref p] ∧ ((SqL X.K H p ys ∧ ∀ l, H l = none → Q (.ref l) (upd H l (.tup ys))) ∨ (SqT X.K H p ys ∧ Q (.ref p) H))) := by
  intro pins s σ H xs us Q I r h
  obtain ⟨p, ys, rfl, h⟩ := h
  obtain ⟨u, rfl, rx⟩ := vals1 r
  cases rx
  rcases h with ⟨hq, q⟩ | ⟨hq, q⟩
  · obtain ⟨its, r', pl, hz⟩ := I.list hq
    have hlen := r'.length
    refine call_tuple_list pl.isList (fun h' kp => ?_) (by simp only [List.size_toArray] <;> omega)
    have I1 : Inv X pins σ H { s with heap := h' } := I.kept (t' := s.toks) kp
    have I2 : Inv X pins σ (upd H h'.objs.size (.tup ys)) { s with heap := h'.push { cls := .type "tuple", data := .seq its.toArray } } :=
      I1.laid (t' := s.toks) (fun b o e => Heap.get?_push_of_some _ e) (Nat.le_refl _) (show ObjOk X.prog X.w _ _ _ (.tup ys) from ⟨hz, its, r', IsTup.new _ _⟩)
    exact ⟨.ref h'.objs.size, _, I2, rfl, q _ (I1.hok.fresh (Nat.le_refl _))⟩
  · obtain ⟨its, r', pl, hz⟩ := I.tuple hq
    exact call_tuple_same pl ⟨.ref p, H, I, rfl, q⟩

/-! ### the call of a builtin's method: o.m(..) -/
/-- the value is of that builtin type -/
def tyV (K : PySem.W.Frag) (T : String) (x : V) (H : Hp) : Prop := match x with
  | .str _ => T = "str"
  | .int _ => T = "int"
  | .ref p => (T = "list" ∧ ∃ xs, SqL K H p xs) ∨ (T = "tuple" ∧ ∃ o, K.lookup p = some o ∧ o.cls = .type "tuple" ∧ o.dict = none) ∨
      (T = "dict" ∧ ((∃ kvs, H p = some (.dK kvs)) ∨ ∃ kvs, H p = some (.dT kvs))) ∨ (T = "set" ∧ ∃ S n, H p = some (.set S n))
  | _ => False
theorem tyV_is {pins : List (Addr × Obj)} {σ : St} {H : Hp} {s : Shared} {T : String} {x : V} {v : Value} (I : Inv X pins σ H s) (r : RelV x v) (ty : tyV X.K T x H) :
    s.TypeIs v T ∧ ∀ a, v = .ref a → ∃ ob, s.heap.get? a = some ob ∧ ob.dict = none := by
  cases x with
  | str z =>
    obtain ⟨t, rfl⟩ := r
    cases (show T = "str" from ty)
    exact ⟨typeIs_str s z t, fun _ e => nomatch e⟩
  | int i =>
    obtain ⟨t, rfl⟩ := r
    cases (show T = "int" from ty)
    exact ⟨typeIs_int s i t, fun _ e => nomatch e⟩
  | ref p =>
    cases r
    rcases ty with ⟨rfl, xs, hq⟩ | ⟨rfl, o, hk, hc, hd⟩ | ⟨rfl, hk⟩ | ⟨rfl, S, n, hk⟩
    · obtain ⟨its, _, pl, _⟩ := I.list hq
      refine ⟨pl.isList.typeIs, fun a e => ?_⟩
      cases e
      obtain ⟨o, n, e, c, hd, _⟩ := pl
      exact ⟨o, e, hd⟩
    · refine ⟨⟨o, I.kIn p o hk, hc⟩, fun a e => ?_⟩
      cases e
      exact ⟨o, I.kIn _ o hk, hd⟩
    · have z : ∃ o, s.heap.get? p = some o ∧ o.ExactDict := by
        rcases hk with ⟨kvs, hk⟩ | ⟨kvs, hk⟩
        · obtain ⟨_, _, _, _, o, _, _, e, ex, _⟩ := I.hok p _ hk
          exact ⟨o, e, ex⟩
        · obtain ⟨_, _, _, _, o, _, _, e, ex, _⟩ := I.hok p _ hk
          exact ⟨o, e, ex⟩
      obtain ⟨o, e, ex⟩ := z
      refine ⟨⟨o, e, ex.1⟩, fun a e2 => ?_⟩
      cases e2
      exact ⟨o, e, ex.2.1⟩
    · obtain ⟨o, _, _, _, e, ex, _⟩ := I.hok p _ hk
      refine ⟨⟨o, e, ex.1⟩, fun a e2 => ?_⟩
      cases e2
      exact ⟨o, e, ex.2.1⟩
  | _ => exact False.elim ty
def tBM0 (K : PySem.W.Frag) (T : String) (r : V → List V → Hp → VK → Prop) (to : TE) : TE := fun σ H Q => to σ H fun x H1 => tyV K T x H1 ∧ r x [] H1 Q
def tBM (K : PySem.W.Frag) (T : String) (r : V → List V → Hp → VK → Prop) (to : TE) (t : TA) : TE := fun σ H Q => to σ H fun x H1 => tyV K T x H1 ∧ t σ H1 fun xs H2 => r x xs H2 Q
variable {o e : Expr} {es : List Expr} {to : TE} {t : TA} {name : Str} {apos cpos : Pos} {T id : String} {r : V → List V → Hp → VK → Prop}
theorem pe_bm0 (pa : PlainAttrs T) (slot : Slot T name id) (hty : typeOf (.builtin id) = pure (.type "method_descriptor")) (hm : MtR X id r) (ho : PE X o to)
    (hbase : attributeBase o name X.env (eval o X.env) = eval o X.env := by rfl) (hline : (apos.endLine == cpos.line) = true := by rfl) : PE X (.Call (.Attribute o name apos) [] [] cpos) (tBM0 X.K T r to) := by
  intro pins s σ H Q I h
  refine wpAny_Call_method0_late hbase hline (thn (ho pins s σ H _ I h) fun v s1 ⟨x, H1, I1, r1, ty, q1⟩ => ?_)
  obtain ⟨h1, h2⟩ := tyV_is I1 r1 ty
  exact ⟨T, id, pa, slot, hty, h1, h2, Calls.callWith_builtin rfl (PySem.evalArgs_none (hm pins s1 σ H1 x [] v [] Q I1 r1 .nil q1))⟩
theorem pe_bm (pa : PlainAttrs T) (slot : Slot T name id) (hty : typeOf (.builtin id) = pure (.type "method_descriptor")) (hm : MtR X id r) (ho : PE X o to) (ha : PA X (e :: es) t)
    (hbase : attributeBase o name X.env (eval o X.env) = eval o X.env := by rfl)
    (hfew : ((backTo cpos (starEach (e :: es) X.env)).all (fun x => !x.1) && (backToKw cpos (keywordEach [] X.env)).all (fun x => x.1.isSome)
      && decide ((e :: es).length + ([] : List Keyword).length + (if ([] : List Keyword).isEmpty then 0 else 1) < 30)) = true := by rfl)
    (hline : (apos.endLine == cpos.line) = true := by rfl) (hs : starEach (e :: es) X.env = (false, eval e X.env) :: starEach es X.env := by rfl) (hplain : (backTo cpos (starEach es X.env)).any (·.1) = false := by rfl) :
    PE X (.Call (.Attribute o name apos) (e :: es) [] cpos) (tBM X.K T r to t) := by
  intro pins s σ H Q I h
  refine wpAny_Call_method_late hbase hfew hline rfl (thn (ho pins s σ H _ I h) fun v s1 ⟨x, H1, I1, r1, ty, q1⟩ => ?_)
  obtain ⟨h1, h2⟩ := tyV_is I1 r1 ty
  refine ⟨T, id, pa, slot, hty, h1, h2, ?_⟩
  have hA := ha cpos pins s1 σ H1 _ I1 q1
  rw [hs] at hA ⊢
  refine Calls.callWith_builtin (by show (false || (backTo cpos (starEach es X.env)).any (·.1)) = false; rw [hplain] <;> rfl) (Calls.evalArgs_plain ?_)
  exact thn hA fun us s2 ⟨vs, H2, I2, r2, q2⟩ => hm pins s2 σ H2 x vs v us Q I2 r1 r2 q2
/- xs.append(e), list.index on a module's tuple .. are MtR facts of 06m -/
end
end L2

namespace L2
open PySem PySem.Spec PyProof.Rows

def MtM (X : Cx) (id : String) (r : V → List V → Hp → VK → Prop) : Prop :=
  ∀ (pins : List (Addr × Obj)) (s : Shared) (σ : St) (H : Hp) (x : V) (xs : List V) (v : Value) (us : List Value) (Q : VK), Inv X pins σ H s → RelV x v → Vals xs us → r x xs H Q →
    wpAny (model X.prog X.w) X.A (call (.builtin id) (v :: us)) (EP X pins σ Q) X.xe s

/-! ### lists of values -/
theorem Vals.one : ∀ {x : V} {us : List Value}, Vals [x] us → ∃ u, us = [u] ∧ RelV x u
  | _, _, .cons r .nil => ⟨_, rfl, r⟩
theorem Vals.two : ∀ {x y : V} {us : List Value}, Vals [x, y] us → ∃ u v, us = [u, v] ∧ RelV x u ∧ RelV y v
  | _, _, _, .cons r (.cons q .nil) => ⟨_, _, rfl, r, q⟩
theorem Vals.zero : ∀ {us : List Value}, Vals [] us → us = []
  | _, .nil => rfl
theorem Vals.dropLast {xs : List V} {us : List Value} (h : Vals xs us) : Vals xs.dropLast us.dropLast := by
  induction h with
  | nil => exact .nil
  | cons r t ih =>
    cases t with
    | nil => exact .nil
    | cons q t' => exact .cons r ih
theorem Vals.eraseIdx : ∀ {xs : List V} {us : List Value} (i : Nat), Vals xs us → Vals (xs.eraseIdx i) (us.eraseIdx i)
  | _, _, _, .nil => .nil
  | _, _, 0, .cons _ t => t
  | _, _, i + 1, .cons r t => .cons r (Vals.eraseIdx i t)
theorem Vals.reverse {xs : List V} {us : List Value} (h : Vals xs us) : Vals xs.reverse us.reverse := by
  induction h with
  | nil => exact .nil
  | cons r t ih => rw [List.reverse_cons, List.reverse_cons]; exact Vals.append ih (.cons r .nil)
theorem Vals.rep {xs : List V} {us : List Value} (h : Vals xs us) : ∀ k : Nat, Vals (List.replicate k xs).flatten (List.replicate k us).flatten
  | 0 => .nil
  | k + 1 => by
    rw [List.replicate_succ, List.replicate_succ, List.flatten_cons, List.flatten_cons]
    exact Vals.append h (Vals.rep h k)
theorem erase_last {α : Type} (l : List α) : l.eraseIdx (l.length - 1) = l.dropLast := by
  induction l with
  | nil => rfl
  | cons a r ih =>
    cases r with
    | nil => rfl
    | cons b r =>
      have e : (a :: b :: r).length - 1 = ((b :: r).length - 1) + 1 := by
        have h1 : (a :: b :: r).length = r.length + 2 := rfl
        have h2 : (b :: r).length = r.length + 1 := rfl
        omega
      rw [e, List.eraseIdx_cons_succ, ih]
      all_goals rfl
theorem len_erase {α : Type} : ∀ (l : List α) (i : Nat), (l.eraseIdx i).length ≤ l.length
  | [], _ => Nat.le_refl _
  | _ :: _, 0 => Nat.le_succ _
  | _ :: r, i + 1 => Nat.succ_le_succ (len_erase r i)
theorem foldl_rep (its : List Value) : ∀ (k : Nat) (acc : List Value),
    List.foldl (fun x1 x2 => x1 ++ x2) acc.toArray (List.replicate k its.toArray) = (acc ++ (List.replicate k its).flatten).toArray
  | 0, acc => by simp
  | k + 1, acc => by
    have e : acc.toArray ++ its.toArray = (acc ++ its).toArray := by simp
    have e2 : (acc ++ its) ++ (List.replicate k its).flatten = acc ++ (List.replicate (k + 1) its).flatten := by
      rw [List.replicate_succ, List.flatten_cons, List.append_assoc]
    rw [← e2, ← foldl_rep its k (acc ++ its), ← e, List.replicate_succ, List.foldl_cons]

section
variable {X : Cx} {pins : List (Addr × Obj)} {σ : St} {H : Hp} {s : Shared} {l b : Addr} {xs ys zs : List V}

/-! ### the two steps: a tracked list is rewritten, a new list is laid -/
theorem Inv.lset {its its' : List Value} {n : Nat} {f : Array Value → Array Value} {t' : Nat} (I : Inv X pins σ H s) (hH : H l = some (.lst xs))
    (e : s.heap.get? l = some { cls := .type "list", data := .seq its.toArray n }) (hf : f its.toArray = its'.toArray) (hv : Vals ys its') (hz : ys.length ≤ sizeLine) :
    Inv X pins σ (upd H l (.lst ys)) { s with heap := s.heap.update l (Obj.mapSeq f), toks := t' } := by
  have q := PySem.IsL.update e f
  rw [hf] at q
  refine I.write (x := l) (e := l) (by rw [hH]; exact trivial) (.inl rfl) (fun b' u hb hu => (Heap.get?_update_other s.heap (Obj.mapSeq f) (Ne.symm hb)).trans hu) ⟨_, q⟩ ?_
  exact ⟨hz, its', _, hv, q⟩
theorem Inv.lnew {its : List Value} {t' : Nat} (I : Inv X pins σ H s) (hv : Vals ys its) (hz : ys.length ≤ sizeLine) :
    Inv X pins σ (upd H s.heap.objs.size (.lst ys)) { s with heap := s.heap.push { cls := .type "list", data := .seq its.toArray }, toks := t' } :=
  I.laid (fun _ _ q => Heap.get?_push_of_some _ q) (Nat.le_refl _) ⟨hz, its, 0, hv, Heap.get?_push_size _ rfl⟩
theorem Inv.fresh (I : Inv X pins σ H s) : H s.heap.objs.size = none := I.hok.fresh (Nat.le_refl _)
theorem Inv.lstM (I : Inv X pins σ H s) (hH : H l = some (.lst xs)) : xs.length ≤ sizeLine ∧ ∃ (its : List Value) (n : Nat), Vals xs its ∧ xs.length = its.length ∧ s.heap.get? l = some { cls := .type "list", data := .seq its.toArray n } := by
  obtain ⟨z, its, n, r, e⟩ := I.hok l _ hH
  exact ⟨z, its, n, r, r.length, e⟩

theorem notLongL {n : Nat} (h : n ≤ sizeLine) : Builtin.List.listTooLong n = false := by
  unfold Builtin.List.listTooLong
  exact decide_eq_false (by omega)
end

section
variable {X : Cx}

/-! ### methods -/
def rAppend : V → List V → Hp → VK → Prop := fun x vs H Q => ∃ l xs y, x = .ref l ∧ vs = [y] ∧ H l = some (.lst xs) ∧ xs.length < sizeLine ∧ Q .non (upd H l (.lst (xs ++ [y])))
theorem mt_append : MtM X "list.append" rAppend := by
  intro pins s σ H x vs v us Q I rx rv h
  obtain ⟨l, xs, y, rfl, rfl, hH, hz, q⟩ := h
  cases rx
  obtain ⟨u, rfl, ru⟩ := rv.one
  obtain ⟨z, its, n, r, hl, e⟩ := I.lstM hH
  refine call_meets F.slot_list_append ⟨_, e, rfl⟩ F.entry_list_append (F.args_list_append_2 _ _) (PySem.list_append l its.toArray n u (by rw [List.size_toArray]; omega)) ⟨e, ?_⟩
  refine ⟨.non, _, I.lset (its' := its ++ [u]) hH e (by simp) (r.append (.cons ru .nil)) ?_, rfl, q⟩
  rw [List.length_append, List.length_singleton]
  omega

def rExtend : V → List V → Hp → VK → Prop := fun x vs H Q => ∃ l b xs zs, x = .ref l ∧ vs = [.ref b] ∧ H l = some (.lst xs) ∧ H b = some (.lst zs) ∧ xs.length + zs.length ≤ sizeLine ∧ Q .non (upd H l (.lst (xs ++ zs)))
theorem mt_extend : MtM X "list.extend" rExtend := by
  intro pins s σ H x vs v us Q I rx rv h
  obtain ⟨l, b, xs, zs, rfl, rfl, hH, hB, hz, q⟩ := h
  cases rx
  obtain ⟨u, rfl, ru⟩ := rv.one
  cases ru
  obtain ⟨z, its, n, r, hl, e⟩ := I.lstM hH
  obtain ⟨z2, its2, n2, r2, hl2, e2⟩ := I.lstM hB
  have hsz : its.toArray.size + its2.toArray.size ≤ sizeLine := by rw [List.size_toArray, List.size_toArray]; omega
  have hlong : ¬ (!its.toArray.isEmpty && Builtin.List.listTooLong (its.toArray.size + its2.toArray.size)) = true := by
    rw [notLongL hsz, Bool.and_false]
    exact Bool.false_ne_true
  refine call_meets F.slot_list_extend ⟨_, e, rfl⟩ F.entry_list_extend (F.args_list_extend_2 _ _)
    (AutoSeq1.list_extend_list_list_0 l its.toArray n b its2.toArray n2 hlong (by rw [List.size_toArray]; omega) (by omega)) ⟨e, e2, ?_⟩
  refine ⟨.non, _, I.lset (its' := its ++ its2) hH e (by simp) (r.append r2) ?_, rfl, q⟩
  rw [List.length_append]
  omega

def rPop : V → List V → Hp → VK → Prop := fun x vs H Q => ∃ l xs y, x = .ref l ∧ vs = [] ∧ H l = some (.lst xs) ∧ xs[xs.length - 1]? = some y ∧ Q y (upd H l (.lst xs.dropLast))
theorem mt_pop : MtM X "list.pop" rPop := by
  intro pins s σ H x vs v us Q I rx rv h
  obtain ⟨l, xs, y, rfl, rfl, hH, hy, q⟩ := h
  cases rx
  have hus := rv.zero
  subst hus
  obtain ⟨z, its, n, r, hl, e⟩ := I.lstM hH
  obtain ⟨u, hu, ru⟩ := r.get hy
  have hy' : its.toArray[its.toArray.size - 1]? = some u := by
    show its.toArray[its.length - 1]? = some u
    rw [← Array.getElem?_toList, ← hl]
    exact hu
  refine call_meets F.slot_list_pop ⟨_, e, rfl⟩ F.entry_list_pop (F.args_list_pop_1 _) (MeetsSeq.list_pop_last l its.toArray n u hy' (by rw [List.size_toArray]; omega)) ⟨e, ?_⟩
  refine ⟨y, _, I.lset (its' := its.dropLast) hH e ?_ r.dropLast ?_, ru, q⟩
  · show its.toArray.eraseIdxIfInBounds (its.toArray.size - 1) = its.dropLast.toArray
    rw [List.size_toArray, List.eraseIdxIfInBounds_toArray, erase_last]
  · rw [List.length_dropLast]
    omega

def rPopAt : V → List V → Hp → VK → Prop := fun x vs H Q => ∃ l xs i k y, x = .ref l ∧ vs = [.int i] ∧ H l = some (.lst xs) ∧ -(2 ^ 63) ≤ i ∧ i < 2 ^ 63 ∧ seqIndex? i xs.length = some k ∧ xs[k]? = some y ∧ Q y (upd H l (.lst (xs.eraseIdx k)))
theorem mt_popAt : MtM X "list.pop" rPopAt := by
  intro pins s σ H x vs v us Q I rx rv h
  obtain ⟨l, xs, i, k, y, rfl, rfl, hH, h1, h2, hk, hy, q⟩ := h
  cases rx
  obtain ⟨u, rfl, ru⟩ := rv.one
  obtain ⟨t, rfl⟩ := ru
  obtain ⟨z, its, n, r, hl, e⟩ := I.lstM hH
  obtain ⟨w, hw, rw'⟩ := r.get hy
  refine call_meets F.slot_list_pop ⟨_, e, rfl⟩ F.entry_list_pop (F.args_list_pop_2 _ _)
    (MeetsSeq.list_pop_at l its.toArray n i t k w (fitsIndex_both h1 h2) (by rw [List.size_toArray, ← hl]; exact hk) (by rw [← Array.getElem?_toList]; exact hw) (by rw [List.size_toArray]; omega)) ⟨e, ?_⟩
  refine ⟨y, _, I.lset (its' := its.eraseIdx k) hH e ?_ (r.eraseIdx k) ?_, rw', q⟩
  · show its.toArray.eraseIdxIfInBounds k = (its.eraseIdx k).toArray
    rw [List.eraseIdxIfInBounds_toArray]
  · have := len_erase xs k
    omega

def rReverse : V → List V → Hp → VK → Prop := fun x vs H Q => ∃ l xs, x = .ref l ∧ vs = [] ∧ H l = some (.lst xs) ∧ Q .non (upd H l (.lst xs.reverse))
theorem mt_reverse : MtM X "list.reverse" rReverse := by
  intro pins s σ H x vs v us Q I rx rv h
  obtain ⟨l, xs, rfl, rfl, hH, q⟩ := h
  cases rx
  have hus := rv.zero
  subst hus
  obtain ⟨z, its, n, r, hl, e⟩ := I.lstM hH
  refine call_meets F.slot_list_reverse ⟨_, e, rfl⟩ F.entry_list_reverse (F.args_list_reverse_1 _) (AutoSeq1.list_reverse_list_0 l its.toArray n (by rw [List.size_toArray]; omega)) ⟨e, ?_⟩
  refine ⟨.non, _, I.lset (its' := its.reverse) hH e (by simp) r.reverse ?_, rfl, q⟩
  rw [List.length_reverse]
  omega

def rClear : V → List V → Hp → VK → Prop := fun x vs H Q => ∃ l xs, x = .ref l ∧ vs = [] ∧ H l = some (.lst xs) ∧ Q .non (upd H l (.lst []))
theorem mt_clear : MtM X "list.clear" rClear := by
  intro pins s σ H x vs v us Q I rx rv h
  obtain ⟨l, xs, rfl, rfl, hH, q⟩ := h
  cases rx
  have hus := rv.zero
  subst hus
  obtain ⟨z, its, n, r, hl, e⟩ := I.lstM hH
  refine call_meets F.slot_list_clear ⟨_, e, rfl⟩ F.entry_list_clear (F.args_list_clear_1 _) (AutoSeq1.list_clear_list_0 l its.toArray n (by rw [List.size_toArray]; omega)) ⟨e, ?_⟩
  exact ⟨.non, _, I.lset (its' := []) (ys := []) hH e rfl .nil (Nat.zero_le _), rfl, q⟩

/-! ### list + list, list += list, list * int -/
def rCat : R2 := fun x y H Q => ∃ l b xs zs, x = .ref l ∧ y = .ref b ∧ H l = some (.lst xs) ∧ H b = some (.lst zs) ∧ xs.length + zs.length ≤ sizeLine ∧ ∀ p, H p = none → Q (.ref p) (upd H p (.lst (xs ++ zs)))
theorem op_cat : OpR X (binaryOp .Add) rCat := by
  intro pins s σ H x y v u Q I rx ry h
  obtain ⟨l, b, xs, zs, rfl, rfl, hH, hB, hz, q⟩ := h
  cases rx
  cases ry
  obtain ⟨z, its, n, r, hl, e⟩ := I.lstM hH
  obtain ⟨z2, its2, n2, r2, hl2, e2⟩ := I.lstM hB
  refine PySem.P.add_list e e2 ?_ (by rw [List.size_toArray, List.size_toArray]; omega)
  have ea : its.toArray ++ its2.toArray = (its ++ its2).toArray := by simp
  rw [ea]
  exact ⟨.ref _, _, I.lnew (t' := s.toks) (r.append r2) (by rw [List.length_append]; omega), rfl, q _ I.fresh⟩
/-- a list times an int (a negative one is nothing) -/
def rRep : R2 := fun x y H Q => ∃ l k xs, x = .ref l ∧ y = .int k ∧ H l = some (.lst xs) ∧ -(2 ^ 63) ≤ k ∧ k < 2 ^ 63 ∧ xs.length * k.toNat ≤ sizeLine ∧
  ∀ p, H p = none → Q (.ref p) (upd H p (.lst (List.replicate k.toNat xs).flatten))
theorem len_rep {α : Type} (xs : List α) (k : Nat) : (List.replicate k xs).flatten.length = k * xs.length := by
  induction k with
  | zero => simp
  | succ k ih => rw [List.replicate_succ, List.flatten_cons, List.length_append, ih, Nat.succ_mul, Nat.add_comm]
theorem op_rep : OpR X (binaryOp .Mult) rRep := by
  intro pins s σ H x y v u Q I rx ry h
  obtain ⟨l, k, xs, rfl, rfl, hH, h1, h2, hz, q⟩ := h
  cases rx
  obtain ⟨t, rfl⟩ := ry
  obtain ⟨z, its, n, r, hl, e⟩ := I.lstM hH
  have hlen : its.toArray.size * k.toNat ≤ sizeLine := by rw [List.size_toArray, ← hl]; exact hz
  have hcap : ¬ its.toArray.size * k.toNat > (2 ^ 63 - 1) / 8 := by
    have : (sizeLine : Nat) ≤ (2 ^ 63 - 1) / 8 := by decide
    omega
  have hfit : ¬ (!Builtin.List.listFitsIndex k) = true := by
    rw [fitsIndex_both h1 h2]
    exact Bool.false_ne_true
  have hlong : ¬ Builtin.List.listTooLong (its.toArray.size * k.toNat) = true := by
    rw [notLongL hlen]
    exact Bool.false_ne_true
  have hnew : List.foldl (fun x1 x2 => x1 ++ x2) #[] (List.replicate (if its.toArray.isEmpty = true then 0 else k.toNat) its.toArray) = (List.replicate k.toNat its).flatten.toArray := by
    have f0 : ∀ m : Nat, List.foldl (fun x1 x2 => x1 ++ x2) #[] (List.replicate m its.toArray) = (List.replicate m its).flatten.toArray := fun m => by
      have := foldl_rep its m []
      rw [List.nil_append] at this
      exact this
    rw [f0]
    cases its with
    | nil => simp
    | cons a r' => rw [if_neg (by simp)]
  refine wpAny_binaryOp_repeat_ref (T := "list") (U := "int") (by decide) ⟨_, e, rfl⟩ (fun s' => typeIs_int s' k t) noFill_list_mul F.fills_int_mul F.slot_int_rmul repeat_list F.slot_int_index.lookup
    (call_meets F.slot_int_rmul (typeIs_int s k t) F.entry_int_rmul (F.args_int_rmul_2 _ _) (int___rmul___int_list k t l its.toArray n)
      ⟨e, rfl, ⟨_, e, rfl⟩, call_meets F.slot_list_mul ⟨_, e, rfl⟩ F.entry_list_mul (F.args_list_mul_2 _ _) (AutoListH.list___mul___list_int_3 l its.toArray n k t hfit hcap hlong) ⟨e, ?_⟩⟩)
  rw [hnew]
  exact ⟨.ref _, _, I.lnew (t' := s.toks) (r.rep k.toNat) (by rw [len_rep, Nat.mul_comm]; exact hz), rfl, q _ I.fresh⟩

/-! ### del xs[i] -/
theorem del_list {pins : List (Addr × Obj)} {s : Shared} {σ : St} {H : Hp} {l : Addr} {xs : List V} {i : Int} {t : Tok} {k : Nat} {Q : Unit → Shared → Prop} (I : Inv X pins σ H s) (hH : H l = some (.lst xs))
    (h1 : -(2 ^ 63) ≤ i) (h2 : i < 2 ^ 63) (hk : seqIndex? i xs.length = some k) (h : ∀ s', Inv X pins σ (upd H l (.lst (xs.eraseIdx k))) s' → Q () s') :
    wpAny (model X.prog X.w) X.A (delItem (.ref l) (.int i t)) Q X.xe s := by
  obtain ⟨z, its, n, r, hl, e⟩ := I.lstM hH
  refine PySem.P.delItem_list (k := k) e (fitsIndex_both h1 h2) (by rw [List.size_toArray, ← hl]; exact hk) (h _ ?_) (by rw [List.size_toArray]; omega)
  refine I.lset (its' := its.eraseIdx k) (t' := s.toks) hH e ?_ (r.eraseIdx k) ?_
  · show its.toArray.eraseIdxIfInBounds k = (its.eraseIdx k).toArray
    rw [List.eraseIdxIfInBounds_toArray]
  · have := len_erase xs k
    omega
end

/-! ### xs[a:b] = ys -/
section
variable {prog : Program} {w : World} {A : Around} {E : Value → Shared → Prop} {s : Shared}
theorem splice_eq (its its2 : List Value) (a c : Nat) : its.toArray.extract 0 a ++ its2.toArray ++ its.toArray.extract c its.toArray.size = (its.take a ++ its2 ++ its.drop c).toArray := by
  apply Array.toList_inj.mp
  first
    | (simp
       exact List.take_of_length_le (by simp))
    | simp [List.take_of_length_le]
    | simp
theorem bounds_run {a c n : Nat} (hac : a ≤ c) (hc : c ≤ n) : sliceBounds (some (a : Int)) (some (c : Int)) none n = ((a : Int), (c : Int), 1) := by
  simp only [sliceBounds, Option.getD_none]
  have h1 : ¬ ((a : Int) < 0) := by omega
  have h2 : ¬ ((c : Int) < 0) := by omega
  simp only [h1, h2, if_false, show (1 : Int) > 0 by decide, if_true]
  congr 1
  · omega
  · congr 1; omega
set_option maxRecDepth 100000 in
/-- list.__setitem__ with a slice of step one and another list -/
theorem setItem_slice {l b sl : Addr} {items new : Array Value} {n n2 : Nat} {vl vu : Value} {a c : Nat} {Q : Unit → Shared → Prop}
    (e : s.heap.get? l = some { cls := .type "list", data := .seq items n }) (e2 : s.heap.get? b = some { cls := .type "list", data := .seq new n2 }) (hne : l ≠ b)
    (hs : s.heap.IsSliceOf sl vl vu .none) (pl : IsPart vl (some (a : Int))) (pu : IsPart vu (some (c : Int))) (hac : a ≤ c) (hc : c ≤ items.size)
    (hsz : items.size + new.size ≤ sizeLine) (h : Q () { s with heap := s.heap.update l (Obj.mapSeq fun xs => xs.extract 0 a ++ new ++ xs.extract c xs.size) }) :
    wpAny (model prog w) A (setItem (.ref l) (.ref sl) (.ref b)) Q E s := by
  have hl : s.heap.IsList l items := PySem.IsL.isList e
  have hb : s.heap.IsList b new := PySem.IsL.isList e2
  obtain ⟨os, hos, hcs, hds⟩ := id hs
  have hTs : s.TypeIs (.ref sl) "slice" := ⟨os, hos, hcs⟩
  have hstep : ¬ ((rawPart none == rawInt 0) = true) := Bool.false_ne_true
  have hsame : Builtin.List.listSameRef (.ref l) (.ref b) = false := by
    unfold Builtin.List.listSameRef
    exact beq_eq_false_iff_ne.mpr hne
  have hmax : (max (a : Int) (c : Int)).toNat = c := by omega
  have hz' : ((fun xs : Array Value => xs.extract 0 a ++ new ++ xs.extract c xs.size) items).size ≤ sizeLine + 1 := by
    simp only [Array.size_append, Array.size_extract]
    omega
  unfold setItem
  try with_reducible refine wpAny_holding ?_
  first | refine wpAny_bind (wpAny_pure ?_) | skip
  refine wpAny_bind (wpAny_sequenceKey hl.typeIs (by decide) ?_)
  refine wpAny_bind (wpAny_callSpecial?_slot (name := Str.ofString "__setitem__") hl.typeIs slot_list_setitem
    (wpAny_call_entry slot_list_setitem hl.typeIs entry_list_setitem ?_ (args_list_setitem _ _ _)))
  show wpAny _ _ (Builtin.List.listSubscript? (.ref sl) >>= _) _ _ s
  refine wpAny_bind ?_
  unfold Builtin.List.listSubscript?
  refine wpAny_bind (wpAny_specialOf hTs slice_no_index ?_)
  simp only [Option.isNone_none, if_true]
  refine wpAny_pure ?_
  show wpAny _ _ (typeOf (.ref sl) >>= _) _ _ s
  refine wpAny_bind (wpAny_typeOf hTs ?_)
  first
    | rw [if_neg (by decide)]
    | refine PySem.W.KFB.if_not (by decide) ?_
  rw [listSliceParts_eq]
  refine wpAny_bind (wpAny_bind (wpAny_field hos hds (x := .none) rfl (wpAny_bind (wpAny_listPart .none ?_))))
  rw [if_neg hstep]
  refine wpAny_bind (wpAny_field hos hds (x := vl) rfl (wpAny_bind (wpAny_listPart pl ?_)))
  refine wpAny_bind (wpAny_field hos hds (x := vu) rfl (wpAny_bind (wpAny_listPart pu (wpAny_pure ?_))))
  first
    | simp only [hsame, Bool.false_eq_true, if_false]
    | refine PySem.W.KFB.if_not hsame ?_
    | (dsimp only
       rw [if_neg (by rw [hsame]; exact Bool.false_ne_true)])
  refine wpAny_bind (m := Builtin.List.listAllItems (.ref b) "must assign iterable to extended slice") ?_
  unfold Builtin.List.listAllItems
  refine wpAny_bind (wpAny_typeOf hb.typeIs ?_)
  first
    | refine PySem.W.KFB.if_so (by decide) ?_
    | rw [if_pos (by decide)]
    | simp only [beq_self_eq_true, Bool.true_or, if_true]
  unfold Builtin.List.listItems
  refine wpAny_bind (wpAny_seqItems e2 rfl (wpAny_pure ?_))
  refine wpAny_bind (wpAny_bind (wpAny_seqItems e rfl (wpAny_pure ?_)))
  refine wpAny_bind (wpAny_of_eq ((sliceIndices_raw (some (a : Int)) (some (c : Int)) none items.size (by simp)).trans (congrArg (pure : Int × Int × Int → Sem (Int × Int × Int)) (bounds_run hac hc))) ?_)
  show wpAny _ _ (if ((1 : Int) == 1) = true then _ else _) _ _ s
  rw [if_pos (by decide)]
  refine wpAny_bind (wpAny_rule ?_)
  first
    | simp only [notLongL hsz, Bool.false_eq_true, if_false]
    | refine PySem.W.KFB.if_not (notLongL hsz) ?_
  first | refine wpAny_bind (wpAny_pure ?_) | skip
  show wpAny _ _ (updateSeq l (fun xs => xs.extract 0 ((a : Int)).toNat ++ new ++ xs.extract (max (a : Int) (c : Int)).toNat xs.size) >>= _) _ _ s
  rw [hmax, Int.toNat_natCast]
  refine wpAny_bind (wpAny_updateSeq (hz := Nat.le_trans (Nat.le_add_right _ _) hsz) (_hz' := hz') e rfl ?_)
  refine wpAny_bind (wpAny_letGo ?_)
  first
    | exact wpAny_bind (wpAny_pure (wpAny_pure ⟨.none, rfl, wpAny_pure h⟩))
    | exact wpAny_pure ⟨.none, rfl, wpAny_pure h⟩
end

section
variable {X : Cx}
/-- xs[a:c] = ys of another list, at the value level: sl is the slice object that was just made -/
theorem set_slice {pins : List (Addr × Obj)} {s : Shared} {σ : St} {H : Hp} {l b sl : Addr} {xs ys : List V} {a c : Int} {vl vu : Value} {Q : Unit → Shared → Prop} (I : Inv X pins σ H s)
    (hH : H l = some (.lst xs)) (hB : H b = some (.lst ys)) (hne : l ≠ b) (hs : s.heap.IsSliceOf sl vl vu .none) (ra : RelV (.int a) vl) (rc : RelV (.int c) vu) (h0 : 0 ≤ a) (hac : a ≤ c) (hc : c ≤ xs.length)
    (hz : xs.length + ys.length ≤ sizeLine) (h : ∀ s', Inv X pins σ (upd H l (.lst (xs.take a.toNat ++ ys ++ xs.drop c.toNat))) s' → Q () s') :
    wpAny (model X.prog X.w) X.A (setItem (.ref l) (.ref sl) (.ref b)) Q X.xe s := by
  obtain ⟨ta, rfl⟩ := ra
  obtain ⟨tc, rfl⟩ := rc
  obtain ⟨z, its, n, r, hl, e⟩ := I.lstM hH
  obtain ⟨z2, its2, n2, r2, hl2, e2⟩ := I.lstM hB
  obtain ⟨a', rfl⟩ := Int.eq_ofNat_of_zero_le h0
  obtain ⟨c', rfl⟩ := Int.eq_ofNat_of_zero_le (Int.le_trans h0 hac)
  simp only [Int.toNat_natCast] at h
  refine setItem_slice (a := a') (c := c') e e2 hne hs (.int _ _) (.int _ _) (by omega) (by rw [List.size_toArray]; omega) (by rw [List.size_toArray, List.size_toArray]; omega) (h _ ?_)
  refine I.lset (its' := its.take a' ++ its2 ++ its.drop c') (t' := s.toks) hH e ?_ (Vals.append (Vals.append (r.take _) r2) (r.drop _)) ?_
  · exact splice_eq its its2 a' c'
  · rw [List.length_append, List.length_append, List.length_take, List.length_drop]
    omega
end
end L2

namespace Att
open PySem PySem.W PySem.Calls PyProof.Rows

/-! ### the script -/
theorem ints_of_wellAll {P : Params} {h : Heap} : ∀ (ns : List Int) (vs : List Value), WellAll P h vs (ns.map WData.int) → IntsAre vs ns := by
  intro ns
  induction ns with
  | nil =>
    intro vs w
    rw [List.map_nil] at w
    cases w
    exact .nil
  | cons n ns ih =>
    intro vs w
    rw [List.map_cons] at w
    cases w with
    | cons a b =>
      cases a
      exact .cons _ _ (ih _ b)

theorem script_of {l : OpenLaw} {n : Nat} (hn : l.most = some n) {P : Params} {h : Heap} {args : List WData} {vals : List Value}
    (hpre : l.row.toRowW.claim.pre args = true) (hwl : WellAll P h vals args) :
    ∃ a vs ns, vals = [Value.ref a] ∧ args = [WData.list (ns.map WData.int)] ∧ h.get? a = some { cls := .type "list", data := .seq vs.toArray } ∧ IntsAre vs ns ∧ ns.length ≤ n := by
  have hsh : WShape.hasAll [] args [.list .int] = true := (pre_splitW hpre).1
  have hc : l.pre.holds [] { args := args } = true := (pre_splitW hpre).2
  obtain ⟨d, r, rfl, h1, h2⟩ := hasAllW_cons hsh
  obtain rfl := hasAllW_nil h2
  obtain ⟨xs, rfl, h3⟩ := hasW_list h1
  obtain ⟨ns, rfl⟩ := items_int h3
  have hlen : ns.length ≤ n := by
    unfold OpenLaw.pre at hc
    have h4 : (WTm.not (.lt (.lit (.int (n : Int))) (.len (.arg 0)))).holds [] { args := [.list (ns.map .int)] } = true := by
      have h4 := (holds_andW hc).1
      rw [hn] at h4
      exact h4
    have h5 := condW_of h4 (w_not (w_lt w_lit (w_len_list (w_arg rfl))))
    rw [List.length_map] at h5
    refine Nat.le_of_not_lt fun q => ?_
    have q' : (n : Int) < ((ns.length : Nat) : Int) := by omega
    first
      | (rw [decide_eq_true q'] at h5; exact absurd h5 (by decide))
      | (simp at h5; omega)
  cases hwl with
  | cons w1 w2 =>
    cases w2
    cases w1 with
    | list ho hall => exact ⟨_, _, ns, rfl, rfl, ho, ints_of_wellAll ns _ hall, hlen⟩

theorem post_true (l : OpenLaw) (args : List WData) : l.row.toRowW.claim.post args (.bool true) args = true :=
  postW_of (r := l.row.toRowW) (X := (true == true))
    (show WShape.has [] (.bool true) .bool = true by first | rfl | decide | simp [WShape.has, WShape.arms, WShape.armsAll])
    (show (WTm.eq .res (.lit (.bool true))).value [] { args := args, res := some (.bool true), after := args } = some (.bool (true == true)) from w_eq_bool (w_res rfl) w_lit) rfl

/-! ### the attachment: holds_open's last premise (the goal 'hc' behind k_head) from a wpAny of the law's body -/
theorem attach {l : OpenLaw} {n : Nat} {q : Program} {loose : List Str} {XP : (Str → Option Value) → Heap → Prop} {YP : World → Heap → Prop} {d : DefRec} {x : Str}
    (hn : l.most = some n) (hdf : d.params.defaults = [])
    (hbind : ∀ pm cd doc v : Value, bindArgs (docDef d.name d.params d.body d.scope pm cd doc) ⟨[v], []⟩ = pure [(x, v)])
    (hx : d.scope.names.lookup x = some .local ∨ d.scope.names.lookup x = some .cell)
    (hk : d.scope.kind = .function) (hco : d.scope.isCoroutine = false) (hgen : d.scope.isGenerator = false)
    (body : ∀ (w : World) (s₀ s₁ s : Shared) (mg mb : Str → Option Value) (fa : Addr) (o : Obj) (pm cd doc : Value) (a : Addr) (vs : List Value) (ns : List Int),
      Ground q loose [] XP w s₀ mg mb s₁.heap → YP w s₁.heap →
      s₁.heap.get? fa = some o → o.data = .func (docDef d.name d.params d.body d.scope pm cd doc) → s₁.heap.CodeRec cd d.name → mg d.name = some (.ref fa) →
      s₁.heap.get? a = some { cls := .type "list", data := .seq vs.toArray } → IntsAre vs ns → ns.length ≤ n →
      s.gens = #[] → s.os = s₁.os →
      Fr s₁.heap s₁.heap.objs.size s.heap (bindL (envOfC d.name d.scope s₁.heap.objs.size fa cd).kindOf [(x, .ref a)] fun _ => none) →
      Cl s₁.heap.objs.size (cellsFrom (s₁.heap.objs.size + 1) d.scope.names []) s.heap (bindC (envOfC d.name d.scope s₁.heap.objs.size fa cd).kindOf [(x, .ref a)] fun _ => none) →
      wpAny (model l.prog w) (callerA.deeper (envOfC d.name d.scope s₁.heap.objs.size fa cd)) (execs d.body (envOfC d.name d.scope s₁.heap.objs.size fa cd))
        (fun f s' => f = .ret (.bool true) ∧ OldK s₁.heap s'.heap ∧ s'.os = s₁.os ∧ AllBare s'.gens) (fun _ _ => False) s) :
    WalkO q loose XP YP l.row.toRowW d [] (fun f vs => PySem.call f vs) := by
  intro w s₀ s₁ mg mb G Y fa o pm cd doc dV kV ho hd hcd hD hmg hg args vals as hpre hlay hrd hwl hlo
  obtain rfl : dV = .none := Dflts.none hD hdf
  obtain rfl : kV = .none := Dflts.noKw hD
  obtain ⟨a, vs, ns, rfl, rfl, hobj, hints, hlen⟩ := script_of hn hpre hwl
  refine enter_call ?_
  refine call_cells_ret (o := o) (by rw [depth_caller]; decide) ho (fd_plain hd) G.T.nolimit hcd (hbind pm cd doc (.ref a)) (fun y hy => ?_) (fun h₁ tk F X => ?_) hco hgen hk
  · obtain rfl : y = (x, Value.ref a) := List.mem_singleton.mp hy
    rcases hx with e | e
    · exact .inl e
    · exact .inr ⟨e, cellsFrom_some _ _ _ (.inl e)⟩
  · refine wpAny_mono (body w s₀ s₁ { s₁ with heap := h₁, toks := tk } mg mb fa o pm cd doc a vs ns G Y ho (fd_plain hd) hcd hmg hobj hints hlen hg rfl F X) (fun f s' hq => ?_) (fun _ _ hq => hq)
    obtain ⟨rfl, h2, h3, h4⟩ := hq
    exact ⟨.inl ⟨.bool true, .bool true, [], rfl, fun _ => rfl, .bool true, post_true l _, fun _ => ⟨List.Pairwise.nil, fun _ hm => (nomatch hm)⟩⟩, h2, h3, h4⟩

/-- the same from a codeAny of the CALL (for a layer whose function contracts speak of calls) -/
theorem attach_call {l : OpenLaw} {n : Nat} {q : Program} {loose : List Str} {XP : (Str → Option Value) → Heap → Prop} {YP : World → Heap → Prop} {d : DefRec}
    (hn : l.most = some n) (hdf : d.params.defaults = [])
    (call : ∀ (w : World) (s₀ s₁ : Shared) (mg mb : Str → Option Value) (fa : Addr) (o : Obj) (pm cd doc : Value) (a : Addr) (vs : List Value) (ns : List Int),
      Ground q loose [] XP w s₀ mg mb s₁.heap → YP w s₁.heap →
      s₁.heap.get? fa = some o → o.data = .func (docDef d.name d.params d.body d.scope pm cd doc) → s₁.heap.CodeRec cd d.name → mg d.name = some (.ref fa) →
      s₁.heap.get? a = some { cls := .type "list", data := .seq vs.toArray } → IntsAre vs ns → ns.length ≤ n → s₁.gens = #[] →
      codeAny (model l.prog w) callerA (.call (.ref fa) ⟨[.ref a], []⟩) (fun r s' => r = .ok (.ret (.bool true)) ∧ OldK s₁.heap s'.heap ∧ s'.os = s₁.os ∧ AllBare s'.gens) s₁) :
    WalkO q loose XP YP l.row.toRowW d [] (fun f vs => PySem.call f vs) := by
  intro w s₀ s₁ mg mb G Y fa o pm cd doc dV kV ho hd hcd hD hmg hg args vals as hpre hlay hrd hwl hlo
  obtain rfl : dV = .none := Dflts.none hD hdf
  obtain rfl : kV = .none := Dflts.noKw hD
  obtain ⟨a, vs, ns, rfl, rfl, hobj, hints, hlen⟩ := script_of hn hpre hwl
  refine enter_call (codeAny_mono (call w s₀ s₁ mg mb fa o pm cd doc a vs ns G Y ho (fd_plain hd) hcd hmg hobj hints hlen hg) fun r s' hq => ?_)
  obtain ⟨rfl, h2, h3, h4⟩ := hq
  exact ⟨.inl ⟨.bool true, .bool true, [], rfl, fun _ => rfl, .bool true, post_true l _, fun _ => ⟨List.Pairwise.nil, fun _ hm => (nomatch hm)⟩⟩, h2, h3, h4⟩

/-- the same where the top left finished generators (o_head chose holds_openN): nothing may have changed at all and no generator may be left -/
theorem attachN {l : OpenLaw} {n : Nat} {q : Program} {loose : List Str} {XP : (Str → Option Value) → Heap → Prop} {YP : World → Heap → Prop} {d : DefRec} {x : Str}
    (hn : l.most = some n) (hdf : d.params.defaults = [])
    (hbind : ∀ pm cd doc v : Value, bindArgs (docDef d.name d.params d.body d.scope pm cd doc) ⟨[v], []⟩ = pure [(x, v)])
    (hx : d.scope.names.lookup x = some .local ∨ d.scope.names.lookup x = some .cell)
    (hk : d.scope.kind = .function) (hco : d.scope.isCoroutine = false) (hgen : d.scope.isGenerator = false)
    (body : ∀ (w : World) (s₀ s₁ s : Shared) (mg mb : Str → Option Value) (fa : Addr) (o : Obj) (pm cd doc : Value) (a : Addr) (vs : List Value) (ns : List Int),
      Ground q loose [] XP w s₀ mg mb s₁.heap → YP w s₁.heap →
      s₁.heap.get? fa = some o → o.data = .func (docDef d.name d.params d.body d.scope pm cd doc) → s₁.heap.CodeRec cd d.name → mg d.name = some (.ref fa) →
      s₁.heap.get? a = some { cls := .type "list", data := .seq vs.toArray } → IntsAre vs ns → ns.length ≤ n →
      s.gens = #[] → s.os = s₁.os →
      Fr s₁.heap s₁.heap.objs.size s.heap (bindL (envOfC d.name d.scope s₁.heap.objs.size fa cd).kindOf [(x, .ref a)] fun _ => none) →
      Cl s₁.heap.objs.size (cellsFrom (s₁.heap.objs.size + 1) d.scope.names []) s.heap (bindC (envOfC d.name d.scope s₁.heap.objs.size fa cd).kindOf [(x, .ref a)] fun _ => none) →
      wpAny (model l.prog w) (callerA.deeper (envOfC d.name d.scope s₁.heap.objs.size fa cd)) (execs d.body (envOfC d.name d.scope s₁.heap.objs.size fa cd))
        (fun f s' => f = .ret (.bool true) ∧ (∀ b o, s₁.heap.get? b = some o → s'.heap.get? b = some o) ∧ s'.os = s₁.os ∧ s'.gens = #[]) (fun _ _ => False) s) :
    WalkN q loose XP YP l.row.toRowW d [] (fun f vs => PySem.call f vs) := by
  intro w s₀ s₁ mg mb G Y fa o pm cd doc dV kV ho hd hcd hD hmg hg args vals as hpre hlay hrd hwl hlo
  obtain rfl : dV = .none := Dflts.none hD hdf
  obtain rfl : kV = .none := Dflts.noKw hD
  obtain ⟨a, vs, ns, rfl, rfl, hobj, hints, hlen⟩ := script_of hn hpre hwl
  refine enter_callW ?_
  refine call_cells_ret (o := o) (by rw [depth_caller]; decide) ho (fd_plain hd) G.T.nolimit hcd (hbind pm cd doc (.ref a)) (fun y hy => ?_) (fun h₁ tk F X => ?_) hco hgen hk
  · obtain rfl : y = (x, Value.ref a) := List.mem_singleton.mp hy
    rcases hx with e | e
    · exact .inl e
    · exact .inr ⟨e, cellsFrom_some _ _ _ (.inl e)⟩
  · refine wpAny_mono (body w s₀ s₁ { s₁ with heap := h₁, toks := tk } mg mb fa o pm cd doc a vs ns G Y ho (fd_plain hd) hcd hmg hobj hints hlen hg rfl F X) (fun f s' hq => ?_) (fun _ _ hq => hq)
    obtain ⟨rfl, h2, h3, h4⟩ := hq
    exact ⟨.inl ⟨.bool true, .bool true, [], rfl, fun _ => rfl, .bool true, post_true l _, fun _ => ⟨List.Pairwise.nil, fun _ hm => (nomatch hm)⟩⟩, h2, h3, h4⟩

/-! ### rules over ANY heap (no ledger) from facts about the written part K: the library's own take a ledger (News) for what they write -/
section
variable {prog : Program} {w : World} {A : Around} {E : Value → Shared → Prop} {s : Shared} {K : Frag}

/-- a def of the module, or a method (qual 'C.m'), entered: the frame is the next address; cells behind it -/
theorem call_fn {R : Result → Shared → Prop} {name qual : Str} {params : Arguments} {body : List Stmt} {scope : Scope} {dV kV doc pm cdv ct oc : Value} {an od : Option Addr} {osl : Array (Option Value)} {f : Addr} {args : Args} {binds : List (Str × Value)}
    (X : K.In s.heap) (hlim : s.heap.NoLimit) (ho : K.lookup f = some ⟨oc, od, .func (fnOf name qual params body scope dV kV doc pm an cdv ct), osl⟩) (hcd : codeIn K cdv qual = true) (hroom : A.depth < recursionLimit)
    (hbind : BindsTo s (fnOf name qual params body scope dV kV doc pm an cdv ct) args binds)
    (hkind : (binds.all fun y => scope.names.lookup y.1 == some .local || scope.names.lookup y.1 == some .cell) = true)
    (h : ∀ s₁, InCallC s s.heap.objs.size (bindL (envOfC qual scope s.heap.objs.size f cdv).kindOf binds fun _ => none) (cellsFrom (s.heap.objs.size + 1) scope.names [])
        (bindC (envOfC qual scope s.heap.objs.size f cdv).kindOf binds fun _ => none) s₁ →
      wpAny (model prog w) (A.deeper (envOfC qual scope s.heap.objs.size f cdv)) (execs body (envOfC qual scope s.heap.objs.size f cdv))
        (fun fl s' => R (.ok (.ret (match fl with | .ret v => v | _ => .none))) s')
        (fun e s' => wpAny (model prog w) (A.deeper (envOfC qual scope s.heap.objs.size f cdv)) (leaving (envOfC qual scope s.heap.objs.size f cdv) e) (fun _ s'' => R (.error e) s'') (fun e' s'' => R (.error e') s'') s') s₁)
    (hco : scope.isCoroutine = false) (hgen : scope.isGenerator = false) (hk : scope.kind = .function) : codeAny (model prog w) A (.call (.ref f) args) R s := by
  refine codeAny_call_function hroom (X _ _ ho) rfl hco hgen rfl (codeRec_of X hcd) (hbind _ _ _ _ ?_)
  refine wpAny_newFunctionEnv_cells hk (kindsX hkind _) fun env he s₁ x => ?_
  subst he
  exact ⟨hlim.keeps x.toInCall.keep, codeAny_func (h s₁ x)⟩

/-- C(..): dict at size, instance at size + 1, then __init__ -/
theorem make_obj {R : Result → Shared → Prop} {C fI : Addr} {rest : List Value} {kw : List (Str × Value)}
    (X : K.In s.heap) (hm : makesIn K C = true) (hi : findIn K (.ref C) "__init__" = some (some (.ref fI))) (hf : isFn K (.ref fI) = true)
    (h : codeAny (model prog w) (A.under (.builtin "type.__call__" ⟨.ref C :: rest, kw⟩)) (.call (.ref fI) ⟨.ref (s.heap.objs.size + 1) :: rest, kw⟩) (InitBack (s.heap.objs.size + 1) R)
      { s with heap := (s.heap.push emptyDict).push (instObj C s.heap.objs.size) }) : codeAny (model prog w) A (.call (.ref C) ⟨rest, kw⟩) R s := by
  obtain ⟨hh, g, d, t, os⟩ := s
  exact make_core (makes_of X hm) (looks_findIn X hi) (fun self => bind_fn X self (beq_iff_eq.mp hf)) (.inl rfl) h

/-- x.name where the instance's dict holds the name and the class does not -/
theorem get_field {x C : Addr} {ox : Obj} {es : List DictEntry} {n : Nat} {name : Str} {expr : Bool} {v : Value} {Q : Value → Shared → Prop}
    (X : K.In s.heap) (I : PySem.W.InstAt s.heap x ox C (some (dictOf es n))) (hg : plainGet K C name = true) (hh : hasDictIn K C = true) (ha : findIn K (.ref C) name = some none)
    (hl : getL name es = some (some v)) (hv : handedIn v = true) (h : Q v { s with toks := s.toks + 1 }) : wpAny (model prog w) A (getAttr (.ref x) name expr) Q E s :=
  get_value X I (plainGet_of hg).1 (findObj_own hh ha rfl hl) hv h

/-- x.m(..): the method found in the class -/
theorem get_method {x C f : Addr} {ox : Obj} {es : List DictEntry} {n : Nat} {name : Str} {pl : Sem Bool} {Q : Value × List Value → Shared → Prop}
    (X : K.In s.heap) (I : PySem.W.InstAt s.heap x ox C (some (dictOf es n))) (hg : plainGet K C name = true) (hf : findIn K (.ref C) name = some (some (.ref f))) (ht : isFn K (.ref f) = true)
    (hl : getL name es = some none) (h : Q (.ref f, [.ref x]) s) : wpAny (model prog w) A (getMethod (.ref x) name pl) Q E s :=
  method_fn X I (plainGet_of hg).1 (plainGet_of hg).2 hf (beq_iff_eq.mp ht) (by show (lookIn name (dictOf es n)).map _ = _; rw [lookIn_dict, hl]; rfl) h

/-! the whole heap as the ledger: makes every rule that writes through a ledger a rule over any heap -/
def noObjs (h : Heap) : Heap := { h with objs := #[] }
theorem noObjs_get (h : Heap) (b : Addr) : (noObjs h).get? b = none := by
  cases e : (noObjs h).get? b with
  | none => rfl
  | some o => exact absurd (Heap.lt_size e) (Nat.not_lt_zero _)
def ledger (h : Heap) (L d : Addr) : List (Addr × Obj) := (List.range h.objs.size).filterMap fun a => if a = L ∨ a = d then none else (h.get? a).map fun o => (a, o)
theorem mem_ledger {h : Heap} {L d a : Addr} {o : Obj} : (a, o) ∈ ledger h L d ↔ a ≠ L ∧ a ≠ d ∧ h.get? a = some o := by
  unfold ledger
  rw [List.mem_filterMap]
  constructor
  · rintro ⟨b, _, e⟩
    split at e
    · cases e
    · rename_i hb
      obtain ⟨o', ho, e'⟩ := Option.map_eq_some_iff.mp e
      cases e'
      exact ⟨fun q => hb (.inl q), fun q => hb (.inr q), ho⟩
  · rintro ⟨n1, n2, ho⟩
    refine ⟨a, List.mem_range.mpr (Heap.lt_size ho), ?_⟩
    rw [if_neg (show ¬ (a = L ∨ a = d) from fun q => q.elim n1 n2), ho] <;> rfl
theorem news_ledger {h : Heap} {L d : Addr} {od : Obj} (hne : d ≠ L) (ho : h.get? d = some od) : News (noObjs h) L h ([] ++ (d, od) :: ledger h L d) := by
  rintro ⟨a, o⟩ hp
  rcases List.mem_cons.mp hp with e | hp
  · cases e
    exact ⟨ho, hne, noObjs_get _ _⟩
  · obtain ⟨n1, n2, e⟩ := mem_ledger.mp hp
    exact ⟨e, n1, noObjs_get _ _⟩
theorem fr_all {h : Heap} {L : Addr} {m : Str → Option Value} (n : h.Ns L m) : Fr (noObjs h) L h m :=
  ⟨n, fun b o e => (by rw [noObjs_get] at e; cases e), Nat.zero_le _⟩
/-- Upd of the head entry (for append_K, setItem_K ..) -/
theorem upd_ledger {h : Heap} {L d : Addr} {o o' : Obj} : Upd d o o' ((d, o) :: ledger h L d) ((d, o') :: ledger h L d) :=
  .head fun ⟨_, _⟩ hp => (mem_ledger.mp hp).2.1

/-- x.name = v over any heap: L is any namespace of the heap (the frame's, say): its map stays, its object is not told; all else but the dict stays -/
theorem set_field {x C dx L : Addr} {ox : Obj} {m : Str → Option Value} {es es' : List DictEntry} {n n' : Nat} {name : Str} {v : Value} {Q : Unit → Shared → Prop}
    (X : K.In s.heap) (I : PySem.W.InstAt s.heap x ox C (some (dictOf es n))) (hd : ox.dict = some dx) (hL : s.heap.Ns L m) (hne : dx ≠ L)
    (hs : findIn K (.ref C) "__setattr__" = some (some (.builtin "object.__setattr__"))) (hp : plainOver K C = true) (ht : takerIn K C name = some none) (hh : hasDictIn K C = true) (hl : (getL name es).isSome = true)
    (e : (putL name (PyData.keyHash w.params name) (.str name (s.toks + 1)) v es, putN name es n) = (es', n')) (hz : es'.length ≤ 1000)
    (h : ∀ h' : Heap, h'.Ns L m → h'.get? dx = some (dictOf es' n') → (∀ b o, b ≠ dx → b ≠ L → s.heap.get? b = some o → h'.get? b = some o) → Q () { s with heap := h', toks := s.toks + 2 }) :
    wpAny (model prog w) A (setAttr (.ref x) name v) Q E s := by
  obtain ⟨e1, e2⟩ := Prod.mk.inj e
  have hdx : s.heap.get? dx = some (dictOf es n) := by
    have := I.dict
    rw [hd] at this
    exact this
  refine set_plain X I hs (osa_dict (s := { s with toks := s.toks + 1 }) (h₀ := noObjs s.heap) (L := L) (m := m) (od := dictOf es n) (od' := dictOf es' n') (es := es') (n := n') (pre := []) (post := ledger s.heap L dx)
    (fr_all hL) (news_ledger hne hdx) X I hd hp ht hh hl (fun _ q => nomatch q) (fun ⟨_, _⟩ q => (mem_ledger.mp q).2.1) (by rw [putName_dict, e1, e2]) rfl hz fun h' F' N' => ?_)
  exact h h' F'.ns (N'.get (List.Mem.head _)) fun b o n1 n2 ho => N'.get (List.Mem.tail _ (mem_ledger.mpr ⟨n2, n1, ho⟩))
end
end Att

namespace L2
open PySem PySem.Spec PyProof.Rows

theorem vals_ints : ∀ {vs : List Value} {ns : List Int}, IntsAre vs ns → Vals (ns.map V.int) vs
  | _, _, .nil => .nil
  | _, _, .cons n t h => .cons ⟨t, rfl⟩ (vals_ints h)

/-- nothing is tracked but the script, known to the object (or it is an object of the module) -/
def Only (H : Hp) : Prop := ∀ b, H b = none ∨ ∃ o xs, H b = some (.frz o (.lst xs))

/-- THE HEAD: the law's promise, at the heap behind the top. F, the promise of the law's def, may use that base is part of the heap (so K.In base, base.Ns mainGlobals mg stand in Mod) -/
theorem law_call {P : Program} {w : World} {K : PySem.W.Frag} {mg mb : Str → Option Value} {CX : CXT} {k : Nat} {fa a : Addr} {fd : FuncData} {x : Str} {sp : Sp} {s₁ : Shared} {vs : List Value} {ns : List Int}
    (KX : K.In s₁.heap) (hns : s₁.heap.Ns mainGlobals mg) (hb : s₁.heap.Ns builtinsNs mb) (hbb : ∀ x : Str, x ≠ "__name__" → mb x = bootBuiltins x) (hlim : s₁.heap.NoLimit) (hg : s₁.gens = #[])
    (ha : s₁.heap.get? a = some { cls := .type "list", data := .seq vs.toArray }) (hi : IntsAre vs ns) (hl : ns.length ≤ sizeLine) (hr : Room k callerA)
    (F : ∀ base : Heap, K.In base → base.Ns mainGlobals mg → FnOk P w K mg base CX k fa fd [x] sp) (hbind : ∀ (s : Shared) (u : Value), BindsTo s fd ⟨[u], []⟩ [(x, u)])
    (hsp : ∀ H : Hp, Only H → SqL K H a (ns.map V.int) → sp [.ref a] H (fun v _ => v = .bl true) fun _ _ _ => False)
    (hCX : ∀ H e s', CX [] H s₁ (fun _ _ _ => False) e s' → False) :
    codeAny (model P w) callerA (.call (.ref fa) ⟨[.ref a], []⟩) (fun r s' => r = .ok (.ret (.bool true)) ∧ OldK s₁.heap s'.heap ∧ s'.os = s₁.os ∧ AllBare s'.gens) s₁ := by
  have rv := vals_ints hi
  have lenV := hi.length
  -- from an abstract heap in which nothing but the script may be tracked
  have core : ∀ H : Hp, Only H → SqL K H a (ns.map V.int) → HOk P w H s₁.heap → (∀ b, H b ≠ none → b = a) → (H a ≠ none → K.lookup a = none) →
      codeAny (model P w) callerA (.call (.ref fa) ⟨[.ref a], []⟩) (fun r s' => r = .ok (.ret (.bool true)) ∧ OldK s₁.heap s'.heap ∧ s'.os = s₁.os ∧ AllBare s'.gens) s₁ := by
    intro H hO hS hok hA hK
    have base_of : ∀ {b : Addr} {o : Obj}, s₁.heap.get? b = some o → H b = none → (hidT s₁.heap H).get? b = some o := fun e n => hidT_get e n
    have noA : ∀ {b : Addr} {o : Obj} {es : Array DictEntry} {ep : Nat}, s₁.heap.get? b = some o → o.data = .dict es ep → H b = none := fun {b o es ep} e d => by
      cases q : H b with
      | none => rfl
      | some u =>
        have e' : b = a := hA b (by rw [q]; simp)
        subst e'
        rw [ha] at e; cases e
        have d' : Data.seq vs.toArray _ = Data.dict es ep := d
        cases d'
    have nsK : ∀ {b : Addr} {m : Str → Option Value}, s₁.heap.Ns b m → (hidT s₁.heap H).Ns b m := fun {b m} ⟨o, es, ep, e, d, r⟩ => ⟨o, es, ep, base_of e (noA e d), d, r⟩
    have hKb : K.In (hidT s₁.heap H) := fun b o e => base_of (KX b o e) (by
      cases q : H b with
      | none => rfl
      | some u =>
        have e' : b = a := hA b (by rw [q]; simp)
        subst e'
        rw [hK (by rw [q]; simp)] at e; cases e)
    have hM : Mod K mg (hidT s₁.heap H) := ⟨hKb, nsK hns, ⟨mb, nsK hb, hbb⟩, let ⟨mc, h1, h2⟩ := hlim; ⟨mc, nsK h1, h2⟩⟩
    have e0 : Env0 P w K mg (hidT s₁.heap H) callerA [] s₁ H := ⟨rfl, hM, fun b o e => of_hidT e, Nat.le_of_eq (hidT_size _ _), trivial, fun b hb => absurd (show b ∈ ([] : List Addr) from hb) (by simp), hok, .of_eq hg⟩
    refine codeAny_mono ((F _ hKb (nsK hns)).run callerA [] s₁ H ⟨[.ref a], []⟩ [.ref a] [.ref a] _ _ hr e0 (hbind s₁ (.ref a)) (.cons rfl .nil) (hsp H hO hS)) fun r s' h => ?_
    cases r with
    | error e => exact (hCX H e s' h).elim
    | ok fl =>
      cases fl with
      | next => exact False.elim h
      | brk => exact False.elim h
      | cont => exact False.elim h
      | ret u =>
        obtain ⟨v, H', os, bare, un, hok', r', q⟩ := h
        have q' : v = .bl true := q
        subst q'
        obtain rfl : u = Value.bool true := r'
        refine ⟨rfl, OldK.of_keep fun b o e => ?_, os, bare⟩
        cases q : H b with
        | none => exact un.keep b o e q (by intro z; exact absurd (show b ∈ ([] : List Addr) from z) (by simp)) (by simp)
        | some u =>
          rcases hO b with z | ⟨ob, xs, z⟩
          · rw [q] at z; cases z
          · have z2 := un.frzs b ob _ z
            obtain ⟨e1, _⟩ := hok b _ z
            obtain ⟨e2, _⟩ := hok' b _ z2
            rw [e] at e1; cases e1
            exact e2
  cases hk : K.lookup a with
  | some o =>
    -- the script is one of the module's own objects
    have e := KX a o hk
    rw [ha] at e
    cases e
    refine core (fun _ => none) (fun _ => .inl rfl) (.inr ⟨_, vs.toArray, _, hk, rfl, rfl, rfl, by rw [List.size_toArray, lenV]; exact hl, by simpa using rv⟩) (fun b u z => by have z' : (none : Option HO) = some u := z; cases z') (fun b z => absurd rfl z) fun z => absurd rfl z
  | none =>
    refine core (fun b => if b = a then some (.frz { cls := .type "list", data := .seq vs.toArray } (.lst (ns.map V.int))) else none) (fun b => ?_) (.inl (.inr ⟨{ cls := .type "list", data := .seq vs.toArray }, if_pos rfl⟩)) (fun b u z => ?_) (fun b z => ?_) fun _ => hk
    · by_cases hb : b = a
      · exact .inr ⟨_, _, if_pos hb⟩
      · exact .inl (if_neg hb)
    · by_cases hb : b = a
      · have z' := (if_pos hb).symm.trans z
        cases z'
        subst hb
        exact ⟨ha, by rw [List.length_map]; exact hl, vs, _, rv, ha⟩
      · have z' := (if_neg hb).symm.trans z
        cases z'
    · by_cases hb : b = a
      · exact hb
      · exact absurd (if_neg hb) z
end L2

namespace L2
open PySem PySem.Spec PyProof.Rows

abbrev KOf {K : PySem.W.Frag} {h : Heap} (_ : K.In h) : PySem.W.Frag := K

/-- the goal that k_head leaves (case hc), from the law's promise. F gives the function object fd (K's own) once, then the promise over every base -/
theorem walk_of {l : PySem.W.OpenLaw} {n k : Nat} {q : Program} {loose : List Str} {XP : (Str → Option Value) → Heap → Prop} {YP : World → Heap → Prop} {d : DefRec} {K : Params → PySem.W.Frag} {CX : World → CXT} {sp : World → Sp} {x : Str}
    (hn : l.most = some n) (hn2 : n ≤ sizeLine) (hdf : d.params.defaults = []) (hr : Room k callerA)
    (hY : ∀ (w : World) (h : Heap), YP w h → (K w.params).In h)
    (F : ∀ (w : World) (mg : Str → Option Value) (fa : Addr) (h : Heap), (K w.params).In h → h.Ns mainGlobals mg → mg d.name = some (.ref fa) →
      ∃ fd : FuncData, (∀ (s : Shared) (u : Value), BindsTo s fd ⟨[u], []⟩ [(x, u)]) ∧
        ∀ base : Heap, (K w.params).In base → base.Ns mainGlobals mg → FnOk l.prog w (K w.params) mg base (CX w) k fa fd [x] (sp w))
    (hsp : ∀ (w : World) (H : Hp) (a : Addr) (ns : List Int), ns.length ≤ n → Only H → SqL (K w.params) H a (ns.map V.int) → sp w [.ref a] H (fun v _ => v = .bl true) fun _ _ _ => False)
    (hCX : ∀ (w : World) (H : Hp) (s : Shared) (e : Value) (s' : Shared), CX w [] H s (fun _ _ _ => False) e s' → False) :
    PySem.W.WalkO q loose XP YP l.row.toRowW d [] (fun f vs => PySem.call f vs) := by
  refine Att.attach_call hn hdf fun w s₀ s₁ mg mb fa o pm cd doc a vs ns G Y ho hd hcd hmg hobj hints hlen hg => ?_
  have KX := hY w _ Y
  obtain ⟨fd, hb, hF⟩ := F w mg fa _ KX G.T.g hmg
  exact law_call KX G.T.g G.T.b G.T.builtins G.T.nolimit hg hobj hints (Nat.le_trans hlen hn2) hr hF hb (fun H hO hS => hsp w H a ns hlen hO hS) fun H e s' => hCX w H s₁ e s'
/-- the same where the promise hangs on the written part alone: (sp := My.sp_law), no hole under a binder -/
theorem walk_ofK {l : PySem.W.OpenLaw} {n k : Nat} {q : Program} {loose : List Str} {XP : (Str → Option Value) → Heap → Prop} {YP : World → Heap → Prop} {d : DefRec} {K : Params → PySem.W.Frag} {CX : CXT} {sp : PySem.W.Frag → Sp} {x : Str}
    (hn : l.most = some n) (hn2 : n ≤ sizeLine) (hdf : d.params.defaults = []) (hr : Room k callerA)
    (hY : ∀ (w : World) (h : Heap), YP w h → (K w.params).In h)
    (F : ∀ (w : World) (mg : Str → Option Value) (fa : Addr) (h : Heap), (K w.params).In h → h.Ns mainGlobals mg → mg d.name = some (.ref fa) →
      ∃ fd : FuncData, (∀ (s : Shared) (u : Value), BindsTo s fd ⟨[u], []⟩ [(x, u)]) ∧
        ∀ base : Heap, (K w.params).In base → base.Ns mainGlobals mg → FnOk l.prog w (K w.params) mg base CX k fa fd [x] (sp (K w.params)))
    (hsp : ∀ (K : PySem.W.Frag) (H : Hp) (a : Addr) (ns : List Int), ns.length ≤ n → Only H → SqL K H a (ns.map V.int) → sp K [.ref a] H (fun v _ => v = .bl true) fun _ _ _ => False)
    (hCX : ∀ (H : Hp) (s : Shared) (e : Value) (s' : Shared), CX [] H s (fun _ _ _ => False) e s' → False) :
    PySem.W.WalkO q loose XP YP l.row.toRowW d [] (fun f vs => PySem.call f vs) :=
  walk_of (K := K) (CX := fun _ => CX) (sp := fun w => sp (K w.params)) hn hn2 hdf hr hY F (fun w H a ns h1 h2 h3 => hsp (K w.params) H a ns h1 h2 h3) fun _ H s e s' => hCX H s e s'
end L2

/- THE LAST THEOREM (shape; LID, My.* are yours):
   My.Adr: a structure of the addresses that your layer names (classes, functions); My.Txt K t: a structure (Prop) of the equations over K;
   My.txt_mk : {K} {implicit addresses ..} (e1 : nsIn K mainGlobals "law" = some (some (.ref f))) (e2 : K.lookup f = some ⟨oc, od, .func (fnOf "law" "law" params body scope dV kV doc pm an cdv ct), sl⟩) (e3 : codeIn K cdv "law" = true) .. : ∃ t, My.Txt K t

set_option maxRecDepth 100000 in
set_option maxHeartbeats 0 in
theorem PySem.Challenge.cw_LID_holds : PySem.Challenge.rw_LID.Holds := by
  w_on; o_law; k_head; (case hw => w_witness2)
  k_fill
  refine L2.walk_of (l := PySem.Challenge.rw_LID) (n := 63) (k := 40) (x := "script") (CX := fun w => ..) (sp := fun _ => My.sp_law) rfl (by decide) rfl ⟨rfl, by decide, by decide⟩ (fun w h Y => PySem.W.kIn_of Y) ?F ?S ?C
  case F =>
    intro w mg fa h KX G hmg
    have T : ∃ t, My.Txt (L2.KOf KX) t := by
      dsimp only [L2.KOf]                          -- K must stand as «<heap const> w.params» for k_is
      refine' My.txt_mk ?e1 ?e2 ?e3 ..
      (case e1 => PySem.W.k_is)                    -- in the order: a name -> its address -> its object -> its parts
      (case e2 => PySem.W.k_is)
      ..
    obtain ⟨t, T⟩ := T
    have e0 := hmg.symm.trans (PySem.W.mg_of KX G T.law)
    cases e0                                       -- fa is the law's own address
    exact ⟨_, fun s u => .of_eq rfl, fun base kb nb => My.law_fn T kb nb⟩     -- if «.of_eq rfl» comes too early: refine' ⟨_, ?b, fun base kb nb => My.law_fn T kb nb⟩; exact fun s u => .of_eq rfl
  case S => exact fun w H a ns hl hO hS => ..
  case C => exact ..
(the tactic k_is has no namespace: write k_is) -/

/-! SHORT WORDS over the layer: a def of the text, its body, what a loop and a test want. -/
namespace L2
open PySem PySem.Spec PyProof.Rows

/-! ### the text by places -/
/-- the j-th statement of a class's body -/
def inClass (s : Stmt) (j : Nat) : Stmt := match s with
  | .ClassDef _ _ _ body _ _ _ _ _ _ _ => body.getD j (.Pass ⟨0, 0, 0, 0⟩)
  | _ => .Pass ⟨0, 0, 0, 0⟩
def defArgs (s : Stmt) : Arguments := match s with
  | .FunctionDef _ a _ _ _ _ _ _ _ _ => a
  | _ => { posonlyargs := [], args := [], vararg := none, kwonlyargs := [], kw_defaults := [], kwarg := none, defaults := [] }
def defBody (s : Stmt) : List Stmt := match s with
  | .FunctionDef _ _ b _ _ _ _ _ _ _ => b
  | _ => []
def defScope (s : Stmt) : Scope := match s with
  | .FunctionDef _ _ _ _ _ _ sc _ _ _ => sc
  | _ => { kind := .function, names := [], isGenerator := false, isCoroutine := false }

/-! ### no exception leaves a def -/
abbrev CX0 : CXT := fun _ _ _ _ _ _ => False
abbrev E0 : XK := fun _ _ _ => False
theorem pass0 {X : Cx} : Passes CX0 X E0 := fun _ _ _ _ _ _ _ h => h.elim

/-! ### a def (or method) of the text as it stands behind the top -/
structure Fun (K : PySem.W.Frag) (x qual : Str) (st : Stmt) (f : Addr) (fd : FuncData) : Prop where
  ex : ∃ (oc : Value) (od : Option Addr) (kV doc pm : Value) (an : Option Addr) (cdv ct : Value) (osl : Array (Option Value)),
    fd = PySem.W.fnOf x qual (defArgs st) (defBody st) (defScope st) .none kV doc pm an cdv ct ∧ K.lookup f = some ⟨oc, od, .func fd, osl⟩ ∧ PySem.W.codeIn K cdv qual = true
  kp : PySem.W.keepIn K (.ref f) = true
section
variable {P : Program} {w : World} {K : PySem.W.Frag} {mg : Str → Option Value} {base : Heap}
/-- THE RULE for a def: its body as a term of rules, and the reading of that term -/
theorem Fun.ok {x qual : Str} {st : Stmt} {f : Addr} {fd : FuncData} {N ps : List Str} {k : Nat} {sp : Sp} (F : Fun K x qual st f fd) (S : FnScope N ps (defScope st)) (len : ∀ vs H Q E, sp vs H Q E → vs.length = ps.length)
    (hbody : ∀ (cdv : Value) (A : Around) (outer : List Env) (s : Shared) (H : Hp) (vs : List V) (Q : VK) (E : XK), Room k (A.deeper (envOfC qual (defScope st) s.heap.objs.size f cdv)) → sp vs H Q E →
      ∃ t, PSs (cxOf CX0 P w K mg base N qual (defScope st) f cdv A outer s H E).nox (defBody st) t ∧ t { nx := fun _ H' => Q .non H', rt := Q } (start N vs) H) : FnOk P w K mg base CX0 (k + 1) f fd ps sp := by
  obtain ⟨oc, od, kV, doc, pm, an, cdv, ct, osl, rfl, lk, hcd⟩ := F.ex
  refine fn_of lk hcd S len fun A outer s H vs Q E hr hsp => ?_
  obtain ⟨t, h, q⟩ := hbody cdv A outer s H vs Q E hr hsp
  exact ⟨t, h.nox, q⟩
/-- how its arguments bind (no defaults): h is «fun _ _ _ _ _ _ us hl => match us, hl with | [_, _], _ => rfl», one _ a parameter -/
theorem Fun.binds {x qual : Str} {st : Stmt} {f : Addr} {fd : FuncData} {ps : List Str} (F : Fun K x qual st f fd)
    (h : ∀ (kV doc pm : Value) (an : Option Addr) (cdv ct : Value) (us : List Value), us.length = ps.length → bindArgs (PySem.W.fnOf x qual (defArgs st) (defBody st) (defScope st) .none kV doc pm an cdv ct) ⟨us, []⟩ = pure (ps.zip us)) : Binds K fd ps [] := by
  obtain ⟨oc, od, kV, doc, pm, an, cdv, ct, osl, rfl, lk, hcd⟩ := F.ex
  exact .all (h kV doc pm an cdv ct)
theorem fun_mk {x qual : Str} {st : Stmt} {f : Addr} {oc : Value} {od an : Option Addr} {osl : Array (Option Value)} {kV doc pm cdv ct : Value} (l : K.lookup f = some ⟨oc, od, .func (PySem.W.fnOf x qual (defArgs st) (defBody st) (defScope st) .none kV doc pm an cdv ct), osl⟩)
    (c : PySem.W.codeIn K cdv qual = true) (k : PySem.W.keepIn K (.ref f) = true) : Fun K x qual st f (PySem.W.fnOf x qual (defArgs st) (defBody st) (defScope st) .none kV doc pm an cdv ct) := ⟨⟨oc, od, kV, doc, pm, an, cdv, ct, osl, rfl, l, c⟩, k⟩
end
theorem hu_of {A : Around} {k : Nat} (hr : Room k A) : A.units + 1 < cLine := Nat.lt_of_le_of_lt (Nat.add_le_add_left (by decide : 1 ≤ 64) _) hr.units
theorem small1000 {n : Nat} (h : n ≤ 1000) : n < sizeLine := Nat.lt_of_le_of_lt h (by decide)

/-! ### expressions in short: the name that stands in the i-th slot -/
section
variable {X : Cx}
theorem pv (i : Nat) {x : Str} {pos : Pos} (hN : X.N[i]? = some x := by rfl) (hv : Vis X.env.scope x := by first | exact Or.inl rfl | exact Or.inr (Or.inl rfl) | exact Or.inr (Or.inr rfl)) (hd : (x == ("__debug__" : Str)) = false := by decide)
    (hcd : (x == ("__classdict__" : Str)) = false := by decide) : PE X (.Name x pos) (tVar i) := pe_var hN hv hd hcd
end

/-! ### tests -/
theorem iteF {A B : Prop} (h : B) : if false = true then A else B := by
  rw [if_neg Bool.false_ne_true]
  exact h
theorem iteT {A B : Prop} (h : A) : if true = true then A else B := by
  rw [if_pos rfl]
  exact h
theorem ite2 {c A B : Prop} [Decidable c] (h1 : c → A) (h2 : ¬ c → B) : if c then A else B := by
  by_cases h : c
  · rw [if_pos h]
    exact h1 h
  · rw [if_neg h]
    exact h2 h
theorem iteNS {c A B : Prop} [Decidable c] (hc : c) (h : B) : if (!decide c) = true then A else B := by
  rw [decide_eq_true hc]
  exact iteF h

/-! ### heaps -/
/-- all that was tracked is as it was -/
def Same (H H' : Hp) : Prop := ∀ b o, H b = some o → H' b = some o
theorem Same.refl (H : Hp) : Same H H := fun _ _ h => h
theorem Same.trans {H H1 H2 : Hp} (a : Same H H1) (b : Same H1 H2) : Same H H2 := fun c o h => b c o (a c o h)
theorem Same.free {H H' : Hp} (e : Same H H') {l : Addr} (h : H' l = Option.none) : H l = Option.none := by
  cases q : H l with
  | none => rfl
  | some o =>
    rw [e l o q] at h
    cases h
theorem Same.seq {K : PySem.W.Frag} {H H' : Hp} {a : Addr} {xs : List V} (e : Same H H') (h : SqL K H a xs) : SqL K H' a xs := by
  rcases h with (h | ⟨o, h⟩) | h
  · exact .inl (.inl (e _ _ h))
  · exact .inl (.inr ⟨o, e _ _ h⟩)
  · exact .inr h

end L2

set_option Elab.async false
set_option linter.all false
set_option maxRecDepth 100000
/-! A comprehension over the layer: its block is a context of its own (cxC). -/
namespace L2
open PySem PySem.Spec PyProof.Rows

theorem forIn_yield_fold {α β : Type} {l : List α} {f : α → β → Sem (ForInStep β)} (g : β → α → β) (c : β) (h : ∀ x ∈ l, ∀ c, f x c = pure (.yield (g c x))) :
    forIn l c f = pure (l.foldl g c) := by
  induction l generalizing c with
  | nil => rfl
  | cons x l ih =>
    rw [List.forIn_cons, h x List.mem_cons_self, pure_bind]
    exact ih _ fun y hy => h y (List.mem_cons_of_mem _ hy)

/-! ### the cells that a block is handed, and its own -/
def clStep (env : Env) (cs : List (Str × Addr)) (x : Str × NameKind) : List (Str × Addr) :=
  if x.2 == .free then (x.1, (env.cells.lookup x.1).getD 0) :: cs else cs
def clOf (env : Env) (names : List (Str × NameKind)) : List (Str × Addr) := names.foldl (clStep env) []
theorem closureFor_clOf {scope : Scope} {env : Env} (h : ∀ x ∈ scope.names, x.2 = .free → ∃ c, env.cells.lookup x.1 = some c) : closureFor scope env = pure (clOf env scope.names) := by
  simp only [closureFor]
  rw [forIn_yield_fold (clStep env) [] (fun x hx c => by
    obtain ⟨n, kind⟩ := x
    cases hk : kind == NameKind.free with
    | false => simp only [clStep, hk, Bool.false_eq_true, if_false]
    | true =>
      obtain ⟨a, ha⟩ := h (n, kind) hx (by simpa using hk)
      have ha' : env.cells.lookup n = some a := ha
      simp only [clStep, hk, if_true, cellOf, ha', Option.getD_some, pure_bind])]
  rfl
theorem clOf_mem {env : Env} : ∀ {names : List (Str × NameKind)} {cs : List (Str × Addr)} {n : Str} {c : Addr}, (n, c) ∈ names.foldl (clStep env) cs → (n, c) ∈ cs ∨ ((n, NameKind.free) ∈ names ∧ c = (env.cells.lookup n).getD 0)
  | [], _, _, _, h => .inl h
  | (m, k) :: r, cs, n, c, h => by
    rcases clOf_mem (names := r) (cs := clStep env cs (m, k)) h with h | ⟨h, e⟩
    · unfold clStep at h
      by_cases hk : (k == NameKind.free) = true
      · rw [if_pos hk] at h
        rcases List.mem_cons.mp h with e | h
        · cases e
          have hk' : k = .free := by simpa using hk
          subst hk'
          exact .inr ⟨List.mem_cons_self, rfl⟩
        · exact .inl h
      · rw [if_neg hk] at h
        exact .inl h
    · exact .inr ⟨List.mem_cons_of_mem _ h, e⟩
theorem clOf_keep {env : Env} {p : Str × Addr} : ∀ {names : List (Str × NameKind)} {cs : List (Str × Addr)}, p ∈ cs → p ∈ names.foldl (clStep env) cs
  | [], _, h => h
  | x :: r, cs, h => clOf_keep (names := r) (cs := clStep env cs x) (by
    unfold clStep
    split
    · exact List.mem_cons_of_mem _ h
    · exact h)
theorem clOf_in {env : Env} {n : Str} : ∀ {names : List (Str × NameKind)} {cs : List (Str × Addr)}, (n, NameKind.free) ∈ names → (n, (env.cells.lookup n).getD 0) ∈ names.foldl (clStep env) cs
  | x :: r, cs, h => by
    rcases List.mem_cons.mp h with e | h
    · subst e
      refine clOf_keep (names := r) (cs := clStep env cs (n, .free)) ?_
      unfold clStep
      rw [if_pos (by rfl)]
      exact List.mem_cons_self
    · exact clOf_in (names := r) h
theorem lookup_of_mem {α : Type} : ∀ {l : List (Str × α)} {n : Str} {c : α}, (n, c) ∈ l → ∃ c', l.lookup n = some c'
  | (k, v) :: r, n, c, h => by
    rw [List.lookup_cons]
    cases hb : n == k with
    | true => exact ⟨v, rfl⟩
    | false =>
      rcases List.mem_cons.mp h with e | h
      · cases e; simp at hb
      · exact lookup_of_mem h

theorem cellsFrom_mem : ∀ {names : List (Str × NameKind)} {k : Nat} {acc : List (Str × Addr)} {n : Str} {c : Addr}, (n, c) ∈ cellsFrom k names acc → (n, c) ∈ acc ∨ (k ≤ c ∧ (n, NameKind.cell) ∈ names)
  | [], _, _, _, _, h => .inl h
  | (m, kd) :: r, k, acc, n, c, h => by
    unfold cellsFrom at h
    by_cases hk : (kd == NameKind.cell) = true
    · rw [if_pos hk] at h
      have hk' : kd = .cell := by simpa using hk
      subst hk'
      rcases cellsFrom_mem (names := r) h with h | ⟨h1, h2⟩
      · rcases List.mem_cons.mp h with e | h
        · cases e
          exact .inr ⟨Nat.le_refl _, List.mem_cons_self⟩
        · exact .inl h
      · exact .inr ⟨by omega, List.mem_cons_of_mem _ h2⟩
    · rw [if_neg hk] at h
      rcases cellsFrom_mem (names := r) h with h | ⟨h1, h2⟩
      · exact .inl h
      · exact .inr ⟨h1, List.mem_cons_of_mem _ h2⟩
theorem cellsFrom_inj : ∀ {names : List (Str × NameKind)} {k : Nat} {acc : List (Str × Addr)}, (∀ n c, (n, c) ∈ acc → c < k) → (∀ n n' c, (n, c) ∈ acc → (n', c) ∈ acc → n = n') →
    ∀ {n n' : Str} {c : Addr}, (n, c) ∈ cellsFrom k names acc → (n', c) ∈ cellsFrom k names acc → n = n'
  | [], _, _, _, hi, _, _, _, h, h' => hi _ _ _ h h'
  | (m, kd) :: r, k, acc, hl, hi, n, n', c, h, h' => by
    unfold cellsFrom at h h'
    by_cases hk : (kd == NameKind.cell) = true
    · rw [if_pos hk] at h h'
      refine cellsFrom_inj (names := r) (acc := (m, k) :: acc) (fun a b hab => ?_) (fun a a' b ha ha' => ?_) h h'
      · rcases List.mem_cons.mp hab with e | e
        · cases e; exact Nat.lt_succ_self _
        · exact Nat.lt_succ_of_lt (hl _ _ e)
      · rcases List.mem_cons.mp ha with e | e <;> rcases List.mem_cons.mp ha' with e' | e'
        · cases e; cases e'; rfl
        · cases e; exact absurd (hl _ _ e') (Nat.lt_irrefl _)
        · cases e'; exact absurd (hl _ _ e) (Nat.lt_irrefl _)
        · exact hi _ _ _ e e'
    · rw [if_neg hk] at h h'
      exact cellsFrom_inj (names := r) hl hi h h'
theorem cellsFrom_cell : ∀ {names : List (Str × NameKind)} {h : Heap} {acc : List (Str × Addr)} {n : Str} {c : Addr}, (n, c) ∈ cellsFrom h.objs.size names acc → (n, c) ∈ acc ∨ (pushCells h names).IsCell c none
  | [], _, _, _, _, q => .inl q
  | (m, kd) :: r, h, acc, n, c, q => by
    unfold cellsFrom at q
    unfold pushCells
    by_cases hk : (kd == NameKind.cell) = true
    · rw [if_pos hk] at q
      rw [if_pos hk]
      have e : h.objs.size + 1 = (h.push { cls := .type "cell", data := .cell none }).objs.size := (Heap.size_push ..).symm
      rw [e] at q
      rcases cellsFrom_cell (names := r) q with q | q
      · rcases List.mem_cons.mp q with e' | q
        · cases e'
          exact .inr ⟨_, pushCells_keeps r _ _ _ (Heap.get?_push_size _ rfl), rfl⟩
        · exact .inl q
      · exact .inr q
    · rw [if_neg hk] at q
      rw [if_neg hk]
      exact cellsFrom_cell (names := r) q
theorem cellsFrom_acc {x : Str} : ∀ {names : List (Str × NameKind)} {k : Nat} {acc : List (Str × Addr)}, (x, NameKind.cell) ∉ names → (cellsFrom k names acc).lookup x = acc.lookup x
  | [], _, _, _ => rfl
  | (m, kd) :: r, k, acc, h => by
    unfold cellsFrom
    have hr : (x, NameKind.cell) ∉ r := fun z => h (List.mem_cons_of_mem _ z)
    by_cases hk : (kd == NameKind.cell) = true
    · have hk' : kd = .cell := by simpa using hk
      subst hk'
      rw [if_pos hk, cellsFrom_acc hr, List.lookup_cons]
      have ne : (x == m) = false := by
        cases hb : x == m with
        | false => rfl
        | true => exact absurd (by rw [beq_iff_eq.mp hb]; exact List.mem_cons_self) h
      rw [ne]
    · rw [if_neg hk]
      exact cellsFrom_acc hr

section
variable {M : Model} {A : Around} {E : Value → Shared → Prop} {s : Shared}
theorem newCompEnv_ {scope : Scope} {globals : Addr} {cl : List (Str × Addr)} {qual : Str} {env0 : Env} {Q : Env → Shared → Prop}
    (h : Q (newEnv scope s.heap.objs.size globals (cellsFrom (s.heap.objs.size + 1) scope.names cl) qual none .none (some env0) builtinsNs) { s with heap := pushCells (s.heap.push { cls := .type "dict", data := .dict #[] }) scope.names }) :
    wpAny M A (newFunctionEnv scope globals cl [] qual none .none (some env0)) Q E s := by
  simp only [newFunctionEnv, Option.isSome_some, if_true]
  refine wpAny_bind (wpAny_alloc ?_)
  refine wpAny_bind (wpAny_layCells _ (fun name kind cells => by cases hkc : kind == NameKind.cell <;> simp [hkc]) _ _ _ _ ?_)
  rw [show ({ s with heap := s.heap.push { cls := .type "dict", data := .dict #[] } } : Shared).heap.objs.size = s.heap.objs.size + 1 from Heap.size_push ..]
  refine wpAny_bind ?_
  rw [List.forIn_nil]
  exact wpAny_pure (wpAny_pure h)
end

/-! ### the block's context -/
structure CB where
  C : Addr
  ex : List Addr
  s : Shared
  H : Hp
def cxC (X : Cx) (N : List Str) (scope : Scope) (b : CB) : Cx := { X with
  N := N
  s₀ := b.s
  H₀ := b.H
  env := compEnvC scope (cellsFrom (b.C + 1) scope.names (clOf X.env scope.names)) b.C X.env
  outer := X.stack
  ex := b.ex
  fn := fun x => scope.names.lookup x == some .cell
  pn := []
  xe := fun _ _ => False }

theorem lookup_relabel {env : Env} {x : Str} : ∀ {names : List (Str × NameKind)},
    (names.map fun (n, k) => if (k == NameKind.free && env.scope.kind == .function && env.kindOf n == some .cell) then (n, NameKind.cell) else (n, k)).lookup x =
      (names.lookup x).map fun k => if (k == NameKind.free && env.scope.kind == .function && env.kindOf x == some .cell) then NameKind.cell else k
  | [] => rfl
  | (n, k) :: r => by
    have ih := @lookup_relabel env x r
    show List.lookup x ((if (k == NameKind.free && env.scope.kind == .function && env.kindOf n == some .cell) = true then (n, NameKind.cell) else (n, k)) :: _) = _
    cases hx : x == n with
    | true =>
      have e : x = n := beq_iff_eq.mp hx
      subst e
      by_cases hc : (k == NameKind.free && env.scope.kind == .function && env.kindOf x == some .cell) = true
      · rw [if_pos hc]; simp only [List.lookup_cons, hx, Option.map_some, hc, if_true]
      · rw [if_neg hc]; simp only [List.lookup_cons, hx, Option.map_some]; rw [if_neg hc]
    | false =>
      by_cases hc : (k == NameKind.free && env.scope.kind == .function && env.kindOf n == some .cell) = true
      · rw [if_pos hc]; simp only [List.lookup_cons, hx]; exact ih
      · rw [if_neg hc]; simp only [List.lookup_cons, hx]; exact ih

/-- the block's names: own of them are its own (the targets), then those at the places fr of the def's names; psc the scope round it -/
structure CompOk (psc : Scope) (PN N : List Str) (own : Nat) (fr : List Nat) (scope : Scope) : Prop where
  kind : scope.kind = .function
  nd : (scope.names.map (·.1)).Nodup
  free : ∀ x ∈ scope.names, x.2 = .free → psc.names.lookup x.1 = some .cell ∨ psc.names.lookup x.1 = some .free
  len : N.length = own + fr.length
  frn : ∀ i, i < fr.length → N[own + i]? = (fr[i]?).bind fun j => PN[j]?
  frk : ∀ i, i < fr.length → ∀ y, N[own + i]? = some y → scope.names.lookup y = some .free
def compOkB (psc : Scope) (PN N : List Str) (own : Nat) (fr : List Nat) (scope : Scope) : Bool :=
  scope.kind == .function && decide (scope.names.map (·.1)).Nodup && scope.names.all (fun x => x.2 != .free || (psc.names.lookup x.1 == some .cell || psc.names.lookup x.1 == some .free)) &&
    (N.length == own + fr.length) && ((fr.map fun j => PN[j]?) == (N.drop own).map some) && (N.drop own).all (fun y => scope.names.lookup y == some .free)
theorem CompOk.of {psc : Scope} {PN N : List Str} {own : Nat} {fr : List Nat} {scope : Scope} (h : compOkB psc PN N own fr scope = true) : CompOk psc PN N own fr scope := by
  unfold compOkB at h
  simp only [Bool.and_eq_true] at h
  obtain ⟨⟨⟨⟨⟨h1, h2⟩, h3⟩, h4⟩, h5⟩, h6⟩ := h
  have h4' : N.length = own + fr.length := eq_of_beq h4
  have h5' : (fr.map fun j => PN[j]?) = (N.drop own).map some := eq_of_beq h5
  have dr : ∀ i, N[own + i]? = (N.drop own)[i]? := fun i => by rw [List.getElem?_drop]
  refine ⟨eq_of_beq h1, of_decide_eq_true h2, fun x hx hk => ?_, h4', fun i hi => ?_, fun i hi y hy => ?_⟩
  · have q := List.all_eq_true.mp h3 x hx
    rw [hk] at q
    simpa using q
  · have q := congrArg (fun l => l[i]?) h5'
    simp only [List.getElem?_map] at q
    rw [dr]
    have ej : fr[i]? = some fr[i] := List.getElem?_eq_getElem hi
    rw [ej] at q ⊢
    cases e : (N.drop own)[i]? with
    | none => rw [e] at q; cases q
    | some y =>
      rw [e] at q
      exact (Option.some.inj q).symm
  · rw [dr] at hy
    have q := List.all_eq_true.mp h6 y (List.mem_of_getElem? hy)
    simpa using q
def cSt (own : Nat) (fr : List Nat) (σ : St) : St := List.replicate own none ++ fr.map fun j => (σ[j]?).getD none

theorem nodup_lookup {α : Type} : ∀ {l : List (Str × α)} {n : Str} {k : α}, (l.map (·.1)).Nodup → (n, k) ∈ l → l.lookup n = some k
  | (m, v) :: r, n, k, nd, h => by
    rw [List.map_cons, List.nodup_cons] at nd
    rw [List.lookup_cons]
    rcases List.mem_cons.mp h with e | h
    · cases e; simp
    · have ne : (n == m) = false := by
        cases hb : n == m with
        | false => rfl
        | true => exact absurd (List.mem_map.mpr ⟨(n, k), h, beq_iff_eq.mp hb⟩) nd.1
      rw [ne]
      exact nodup_lookup nd.2 h

section
variable {X : Cx} {pins : List (Addr × Obj)} {σ : St} {H : Hp} {s : Shared} {N : List Str} {own : Nat} {fr : List Nat} {scope : Scope}

theorem CompOk.cells (S : CompOk X.env.scope X.N N own fr scope) (ok : X.Ok) : ∀ x ∈ scope.names, x.2 = .free → ∃ c, X.env.cells.lookup x.1 = some c := fun x hx hk =>
  ok.has x.1 (S.free x hx hk)
theorem CompOk.cl (S : CompOk X.env.scope X.N N own fr scope) (ok : X.Ok) {n : Str} {c : Addr} (h : (n, c) ∈ clOf X.env scope.names) : X.env.cells.lookup n = some c := by
  rcases clOf_mem h with h | ⟨h, e⟩
  · cases h
  · obtain ⟨c', e'⟩ := S.cells ok (n, .free) h rfl
    have e2 : X.env.cells.lookup n = some c' := e'
    rw [e2] at e
    rw [e, e2]
    rfl

/-- the block begins: D the new list, C its names -/
theorem inv_comp {D C : Addr} {h' : Heap} {fp : List Addr} (S : CompOk X.env.scope X.N N own fr scope) (I : Inv X pins σ H s) (hD : D = s.heap.objs.size) (hC : C = s.heap.objs.size + 1)
    (hh : h' = pushCells ((s.heap.push { cls := .type "list", data := .seq #[] }).push { cls := .type "dict", data := .dict #[] }) scope.names) (hfp : ∀ b ∈ fp, FpOk X pins H b) (hlt : ∀ b ∈ fp, b < s.heap.objs.size) :
    Inv (cxC X N scope ⟨C, fp, s, H⟩) [] (cSt own fr σ) (upd H D (.lst [])) { s with heap := h' } := by
  subst hD hC
  have eD : (s.heap.push { cls := .type "list", data := .seq #[] }).objs.size = s.heap.objs.size + 1 := Heap.size_push ..
  have eC : ((s.heap.push { cls := .type "list", data := .seq #[] }).push { cls := .type "dict", data := .dict #[] }).objs.size = s.heap.objs.size + 2 := by rw [Heap.size_push, eD]
  have keep : ∀ b o, s.heap.get? b = some o → h'.get? b = some o := fun b o e => by
    rw [hh]
    exact pushCells_keeps _ _ _ _ (Heap.get?_push_of_some _ (Heap.get?_push_of_some _ e))
  have lst : h'.get? s.heap.objs.size = some { cls := .type "list", data := .seq #[] } := by
    rw [hh]
    exact pushCells_keeps _ _ _ _ (Heap.get?_push_of_some _ (Heap.get?_push_size _ rfl))
  have dct : h'.get? (s.heap.objs.size + 1) = some { cls := .type "dict", data := .dict #[] } := by
    rw [hh]
    refine pushCells_keeps _ _ _ _ ?_
    have := Heap.get?_push_size (s.heap.push { cls := .type "list", data := .seq #[] }) (o := { cls := .type "dict", data := .dict #[] }) rfl
    rw [eD] at this
    exact this
  have hnD : H s.heap.objs.size = none := I.hok.fresh (Nat.le_refl _)
  have hnC : H (s.heap.objs.size + 1) = none := I.hok.fresh (Nat.le_succ _)
  have inCl : ∀ {n : Str} {c : Addr}, (n, c) ∈ clOf X.env scope.names → X.env.cells.lookup n = some c := fun h => S.cl I.ok h
  have clt : ∀ {n : Str} {c : Addr}, X.env.cells.lookup n = some c → c < s.heap.objs.size := fun h => by
    obtain ⟨v, z⟩ := I.cell _ _ h
    exact z.lt
  have cases_ : ∀ {n : Str} {c : Addr}, (cellsFrom (s.heap.objs.size + 1 + 1) scope.names (clOf X.env scope.names)).lookup n = some c → X.env.cells.lookup n = some c ∨ (s.heap.objs.size + 2 ≤ c ∧ (n, NameKind.cell) ∈ scope.names ∧ h'.IsCell c none) := fun {n c} h => by
    have hm := PySem.mem_of_lookup h
    have hcell := hm
    rw [show s.heap.objs.size + 1 + 1 = ((s.heap.push { cls := .type "list", data := .seq #[] }).push { cls := .type "dict", data := .dict #[] }).objs.size from eC.symm] at hcell
    rcases cellsFrom_mem hm with h1 | ⟨h1, h2⟩
    · exact .inl (inCl h1)
    · rcases cellsFrom_cell hcell with h3 | h3
      · exact .inl (inCl h3)
      · exact .inr ⟨h1, h2, by rw [hh]; exact h3⟩
  have kindOf : ∀ x, (cxC X N scope ⟨s.heap.objs.size + 1, fp, s, H⟩).env.kindOf x = (scope.names.lookup x).map fun k => if (k == NameKind.free && X.env.scope.kind == .function && X.env.kindOf x == some .cell) then NameKind.cell else k := fun x => lookup_relabel
  have hasName : ∀ x, ((cxC X N scope ⟨s.heap.objs.size + 1, fp, s, H⟩).env.kindOf x = some .cell ∨ (cxC X N scope ⟨s.heap.objs.size + 1, fp, s, H⟩).env.kindOf x = some .free) → ∃ c, (cellsFrom (s.heap.objs.size + 1 + 1) scope.names (clOf X.env scope.names)).lookup x = some c := fun x hx => by
    rw [kindOf] at hx
    have h2 : scope.names.lookup x = some .cell ∨ scope.names.lookup x = some .free := by
      cases e : scope.names.lookup x with
      | none => rw [e] at hx; rcases hx with z | z <;> cases z
      | some k =>
        rw [e] at hx
        by_cases hk : k = .free
        · exact .inr (by rw [hk])
        · have hk' : (k == NameKind.free) = false := by simpa using hk
          simp only [Option.map_some, hk', Bool.false_and, Bool.false_eq_true, if_false] at hx
          rcases hx with z | z
          · exact .inl z
          · exact .inr z
    rcases h2 with h2 | h2
    · exact Option.isSome_iff_exists.mp (PySem.W.cellsFrom_some scope.names _ _ (.inl h2))
    · obtain ⟨c, hc⟩ := lookup_of_mem (clOf_in (env := X.env) (cs := []) (PySem.mem_of_lookup h2))
      exact Option.isSome_iff_exists.mp (PySem.W.cellsFrom_some scope.names _ _ (.inr (by rw [show (clOf X.env scope.names).lookup x = some c from hc]; rfl)))
  have cellAt : ∀ x c, (cellsFrom (s.heap.objs.size + 1 + 1) scope.names (clOf X.env scope.names)).lookup x = some c → ∃ v, h'.IsCell c v := fun x c e => by
    rcases cases_ e with q | ⟨_, _, q⟩
    · obtain ⟨v, o, ho, hd⟩ := I.cell x c q
      exact ⟨v, o, keep c o ho, hd⟩
    · exact ⟨none, q⟩
  refine ⟨⟨I.ok.mod, S.kind, I.ok.glob, I.ok.blt, Nat.le_succ _, fun y z c h1 h2 => ?_, hasName, fun y c hy h => ?_, I.ok.hd, I.ok.frames, .inl rfl, fun b hb => ⟨?_, fun x c e z => ?_⟩, fun b o e => I.bs b o e, Nat.le_trans I.ok.bsz I.sz, fun b o e hb => ?_, fun b hb hf => ?_, I.stack, I.stkFree⟩,
    rfl, I.bare, ?_, ⟨fun _ => none, ⟨_, #[], _, dct, rfl, fun e he => absurd he (by simp), fun _ => rfl⟩, fun i x v h1 h2 h3 => ?_⟩, cellAt, ?_, fun x c e => ?_, fun p hp => absurd (show p ∈ ([] : List (Addr × Obj)) from hp) (by simp), ?_, ?_⟩
  · -- cells are apart
    refine cellsFrom_inj (fun n c hm => ?_) (fun n n' c hm hm' => I.ok.inj n n' c (inCl hm) (inCl hm')) (PySem.mem_of_lookup h1) (PySem.mem_of_lookup h2)
    exact Nat.lt_succ_of_lt (Nat.lt_succ_of_lt (clt (inCl hm)))
  · -- own cells are young
    have hy' : scope.names.lookup y = some .cell := by simpa using (show (scope.names.lookup y == some .cell) = true from hy)
    rcases cases_ h with q | ⟨q, _⟩
    · rcases cellsFrom_mem (PySem.mem_of_lookup h) with q2 | ⟨q2, _⟩
      · rcases clOf_mem q2 with z | ⟨z, _⟩
        · cases z
        · have := nodup_lookup S.nd z
          rw [hy'] at this
          cases this
      · exact Nat.le_trans (Nat.le_add_right _ 2) q2
    · exact Nat.le_trans (Nat.le_add_right _ 2) q
  · exact Nat.ne_of_lt (Nat.lt_succ_of_lt (hlt b hb))
  · rcases cases_ e with q | ⟨q, _⟩
    · exact (hfp b hb).2.2.2.2.1 x c q z
    · have hb' := hlt b hb
      rw [← z] at hb'
      exact absurd (Nat.lt_of_lt_of_le hb' (Nat.le_trans (Nat.le_add_right _ 2) q)) (Nat.lt_irrefl _)
  · rcases (hfp b hb).2.2.2.1 with z | z
    · exact I.ok.noex b o e z
    · exact Nat.lt_irrefl _ (Nat.lt_of_lt_of_le (Heap.lt_size e) (Nat.le_trans I.ok.bsz z))
  · rcases List.mem_cons.mp (I.stkSub b hf) with z | z
    · exact (hfp b hb).2.1 z
    · exact (hfp b hb).2.2.1 z
  · exact Un.laid keep (Nat.le_refl _) hnD
  · -- the names that are handed in
    have h1 : N[i]? = some x := h1
    have hlen : i < N.length := (List.getElem?_eq_some_iff.mp h1).1
    by_cases hi : i < own
    · exfalso
      have h2' : (cSt own fr σ)[i]? = some none := by
        unfold cSt
        rw [List.getElem?_append_left (by simpa using hi), List.getElem?_replicate, if_pos hi]
      rw [h2'] at h2
      cases h2
    · have hfi : i - own < fr.length := by have := S.len; omega
      have ei : own + (i - own) = i := by omega
      have hk := S.frk (i - own) hfi x (by rw [ei]; exact h1)
      have hn := S.frn (i - own) hfi
      rw [ei, h1] at hn
      have ej : fr[i - own]? = some fr[i - own] := List.getElem?_eq_getElem hfi
      rw [ej] at hn
      have hn' : X.N[fr[i - own]]? = some x := hn.symm
      have h2' : (cSt own fr σ)[i]? = some ((σ[fr[i - own]]?).getD none) := by
        unfold cSt
        rw [List.getElem?_append_right (by simpa using Nat.not_lt.mp hi), List.length_replicate, List.getElem?_map, ej]
        rfl
      rw [h2'] at h2
      have h2'' : (σ[fr[i - own]]?).getD none = some v := Option.some.inj h2
      have hσ : σ[fr[i - own]]? = some (some v) := by
        cases e : σ[fr[i - own]]? with
        | none => rw [e] at h2''; cases h2''
        | some w => rw [e] at h2''; exact congrArg some h2''
      obtain ⟨m, hm, hl⟩ := I.loc
      have hfree := S.free (x, .free) (PySem.mem_of_lookup hk) rfl
      obtain ⟨u, r, l⟩ := hl _ x v hn' hσ (hfree.elim (fun z => .inr (.inl z)) fun z => .inr (.inr z))
      refine ⟨u, r, .inr ?_⟩
      have hcell : ∃ c, X.env.cells.lookup x = some c ∧ s.heap.IsCell c (some u) := by
        rcases l with ⟨l, _⟩ | ⟨_, c, e, z⟩
        · exfalso
          rcases hfree with z | z
          · have l' : X.env.scope.names.lookup x = some .local := l
            have z' : X.env.scope.names.lookup x = some .cell := z
            rw [l'] at z'; cases z'
          · have l' : X.env.scope.names.lookup x = some .local := l
            have z' : X.env.scope.names.lookup x = some .free := z
            rw [l'] at z'; cases z'
        · exact ⟨c, e, z⟩
      obtain ⟨c, e, o, ho, hd⟩ := hcell
      refine ⟨?_, c, ?_, o, keep c o ho, hd⟩
      · rw [kindOf, hk]
        by_cases z : (X.env.scope.kind == .function && X.env.kindOf x == some .cell) = true
        · left
          simp only [Option.map_some, beq_self_eq_true, Bool.true_and, z, if_true]
        · right
          simp only [Option.map_some, beq_self_eq_true, Bool.true_and]
          rw [if_neg z]
      · show (cellsFrom (s.heap.objs.size + 1 + 1) scope.names (clOf X.env scope.names)).lookup x = some c
        rw [cellsFrom_acc fun z => by
          have := nodup_lookup S.nd z
          rw [hk] at this
          cases this]
        obtain ⟨c', hc'⟩ := lookup_of_mem (clOf_in (env := X.env) (cs := []) (PySem.mem_of_lookup hk))
        have hc2 : (clOf X.env scope.names).lookup x = some c' := hc'
        rw [hc2]
        have := inCl (PySem.mem_of_lookup hc2)
        rw [e] at this
        exact this.symm
  · show upd H s.heap.objs.size (.lst []) (s.heap.objs.size + 1) = none
    rw [upd_ne (Nat.ne_of_gt (Nat.lt_succ_self _))]
    exact hnC
  · rcases cases_ e with q | ⟨q, _⟩
    · have := clt q
      rw [upd_ne (Nat.ne_of_lt this)]
      exact I.freeC x c q
    · rw [upd_ne (Nat.ne_of_gt (Nat.lt_of_lt_of_le (Nat.lt_add_of_pos_right (by decide)) q))]
      exact I.hok.fresh (Nat.le_trans (Nat.le_add_right _ 2) q)
  · exact I.hok.laid keep (Nat.le_refl _) ⟨Nat.zero_le _, [], 0, .nil, lst⟩
  · show (cSt own fr σ).length = N.length
    unfold cSt
    rw [List.length_append, List.length_replicate, List.length_map, S.len]
end

/-! ### the tests of a clause -/
def PF (X : Cx) (ifs : List Expr) (t : TT) : Prop :=
  ∀ (pins : List (Addr × Obj)) (s : Shared) (σ : St) (H : Hp) (Q : Bool → Hp → Prop), Inv X pins σ H s → t σ H Q →
    wpAny (model X.prog X.w) X.A (forIn ifs true fun c r => if r = true then do let ok ← isTrue c X.env (eval c X.env); pure (ForInStep.yield ok) else pure (ForInStep.yield r)) (TP X pins σ Q) X.xe s
def tYes : TT := fun _ H Q => Q true H
theorem pf_nil {X : Cx} : PF X [] tYes := fun _ _ _ H _ I h => wpAny_tests_nil ⟨H, I, h⟩
theorem pf_one {X : Cx} {c : Expr} {t : TT} (h : PT X c t) : PF X [c] t := fun pins s σ H Q I hw => wpAny_tests_one (h pins s σ H Q I hw)

theorem compLoop_any {prog : Program} {w : World} {A : Around} {R : Result → Shared → Prop} {s : Shared} {elt target iter : Expr} {ifs : List Expr} {scope : Scope} {pos : Pos} {it acc : Value} {env : Env} (I : Nat → Shared → Prop)
    (turn : ∀ n s, I n s → wpAny (model prog w) A (pyNext it) (fun r s₁ => match r with
      | none => R (.ok .next) s₁
      | some v => wpAny (model prog w) A (letOwnedTupleGo target it v) (fun _ s₁' => wpAny (model prog w) A (assign target env v) (fun _ s₂ =>
          wpAny (model prog w) A (forIn ifs true fun c r => if r = true then do let ok ← isTrue c env (eval c env); pure (ForInStep.yield ok) else pure (ForInStep.yield r)) (fun ok s₃ =>
            if ok = true then wpAny (model prog w) A (eval elt env) (fun x s₄ =>
              wpAny (model prog w) A (call (.builtin "list.append") [acc, x]) (fun _ s₅ => ∃ m, m < n ∧ I m s₅) (fun _ _ => False) s₄) (fun _ _ => False) s₃
            else ∃ m, m < n ∧ I m s₃) (fun _ _ => False) s₂) (fun _ _ => False) s₁') (fun _ _ => False) s₁) (fun _ _ => False) s)
    (n : Nat) (h : I n s) :
    codeAny (model prog w) A (.compLoop (.ListComp elt [⟨target, iter, ifs, 0⟩] scope pos) 0 it acc env) R s := by
  refine codeAny_loop rfl I (fun n s hI => ?_) n h
  show wpAny _ A ((compTurn (.ListComp elt [⟨target, iter, ifs, 0⟩] scope pos) 0 it acc env).onRaise (fun x => do noteFrame x env; theTreesLotGoes x)) _ _ s
  refine wpAny_noted ?_
  rw [compTurn_list]
  have no : ∀ {α : Type} {t : Sem α} {Q : α → Shared → Prop} {E' : Value → Shared → Prop} {s' : Shared}, wpAny (model prog w) A t Q (fun _ _ => False) s' → wpAny (model prog w) A t Q E' s' := fun h => wpAny_mono h (fun _ _ q => q) fun _ _ z => z.elim
  refine wpAny_bind (wpAny_standAt (wpAny_bind (no (wpAny_mono (turn n s hI) (fun r s₁ h₁ => ?_) fun _ _ h' => h'))))
  cases r with
  | none => exact wpAny_pure h₁
  | some v =>
    refine wpAny_bind (no (wpAny_mono h₁ (fun _ s₁' h₁' => ?_) fun _ _ h' => h'))
    refine wpAny_bind (no (wpAny_mono h₁' (fun _ s₂ h₂ => wpAny_bind (no (wpAny_mono h₂ (fun ok s₃ h₃ => ?_) fun _ _ h' => h'))) fun _ _ h' => h'))
    cases ok with
    | false => exact wpAny_pure ⟨rfl, h₃⟩
    | true =>
      exact wpAny_bind (wpAny_bind (no (wpAny_mono h₃ (fun x s₄ h₄ => wpAny_bind (no (wpAny_mono h₄ (fun _ s₅ h₅ => wpAny_pure (wpAny_pure ⟨rfl, h₅⟩)) fun _ _ h' => h'))) fun _ _ h' => h')))

/-! ### [elt for tg in iter if ..] -/
/-- what a block's turns are to reach -/
structure tBlock (J : It) (own : Nat) (fr : List Nat) (g : CB → TG) (tf : CB → TT) (te : CB → TE) (Q : VK) (σ : St) (H1 : Hp) : Prop where
  go : ∀ (b : CB) (D : Addr), H1 D = none → ∃ W : Nat → Nat → St → Hp → Prop, (∃ m, W 0 m (cSt own fr σ) (upd H1 D (.lst []))) ∧ ∀ i m σ' H', W i m σ' H' →
    (J.stop i H' ∧ Q (.ref D) H') ∨ (J.go i H' ∧ ∃ M : St → Hp → Prop, (∀ σ2 H2, M σ2 H2 → ∃ m', m' < m ∧ W (i + 1) m' σ2 H2) ∧ ∀ x H2, J.yld i H' x H2 → g b x σ' H2 fun σ3 H3 => tf b σ3 H3 fun k H4 =>
      if k = true then te b σ3 H4 fun y H5 => ∃ ys, H5 D = some (.lst ys) ∧ ys.length < sizeLine ∧ M σ3 (upd H5 D (.lst (ys ++ [y]))) else M σ3 H4)
def tComp (wi : TI) (own : Nat) (fr : List Nat) (g : CB → TG) (tf : CB → TT) (te : CB → TE) : TE := fun σ H Q => wi σ H fun J H1 => tBlock J own fr g tf te Q σ H1

section
variable {X : Cx} {tg iter elt : Expr} {ifs : List Expr} {scope : Scope} {pos : Pos} {N : List Str} {own : Nat} {fr : List Nat} {wi : TI} {g : CB → TG} {tf : CB → TT} {te : CB → TE}

/-- the block runs: behind it the def's state is there again, the block's names at C -/
theorem comp_run {use : Option (Value → Sem Unit)} {R : Value → Shared → Prop} {pins : List (Addr × Obj)} {s : Shared} {σ : St} {H : Hp} {Q : VK} (S : CompOk X.env.scope X.N N own fr scope) (hc : X.calm = true) (hi : PI X tg iter wi)
    (hg : ∀ b, PG (cxC X N scope b) tg (g b)) (hf : ∀ b, PF (cxC X N scope b) ifs (tf b)) (he : ∀ b, PE (cxC X N scope b) elt (te b)) (hs : ∀ x, foldedSetIterable iter X.env x = pure x) (I : Inv X pins σ H s) (h : tComp wi own fr g tf te σ H Q)
    (fin : ∀ (D C : Addr) (oC : Obj) (m : Str → Option Value) (H' : Hp) (s' : Shared), Inv X (pins ++ [(C, oC)]) σ H' s' → X.s₀.heap.objs.size ≤ C → (∀ p ∈ X.pn ++ pins, p.1 ≠ C) → (∀ h' : Heap, h'.get? C = some oC → h'.Ns C m) → Q (.ref D) H' → compPost (model X.prog X.w) X.A X.xe use R (.ref D) C (.ok .next) s') :
    wpAny (model X.prog X.w) X.A (comprehension (.ListComp elt [⟨tg, iter, ifs, 0⟩] scope pos) scope X.env (firstIterPos [⟨tg, iter, ifs, 0⟩] pos) (newList []) false (eval iter X.env) use) R X.xe s := by
  refine wpAny_comprehension_free rfl hs (closureFor_clOf (S.cells I.ok)) S.kind (fun x hx hk => ?_) (thn (hi pins s σ H _ I h) fun v s1 h1 => thn h1 fun itv s2 h2 => ?_)
  · have := nodup_lookup S.nd (show (x.1, x.2) ∈ scope.names from hx)
    rw [this, hk]
  obtain ⟨it, fp, tn, J, H2, e, I2, T, st2, f2, q⟩ := h2
  subst e
  refine wpAny_newObj_type ?_
  refine newCompEnv_ ?_
  have eD : (s2.heap.push { cls := .type "list", data := .seq #[] }).objs.size = s2.heap.objs.size + 1 := Heap.size_push ..
  have hD : H2 s2.heap.objs.size = none := I2.hok.fresh (Nat.le_refl _)
  have hlt : ∀ b ∈ fp, b < s2.heap.objs.size := fun b hb => by
    obtain ⟨o, ho, _⟩ := T.obj 0 _ st2 b hb
    exact Heap.lt_size ho
  obtain ⟨W, ⟨m0, w0⟩, turn⟩ := q.go ⟨s2.heap.objs.size + 1, fp, s2, H2⟩ s2.heap.objs.size hD
  have IX := inv_comp (fp := fp) S I2 rfl rfl rfl f2 hlt
  have st4 : tn 0 (pushCells ((s2.heap.push { cls := .type "list", data := .seq #[] }).push { cls := .type "dict", data := .dict #[] }) scope.names) :=
    T.keep 0 _ _ st2 fun b _ o e => pushCells_keeps _ _ _ _ (Heap.get?_push_of_some _ (Heap.get?_push_of_some _ e))
  have fr0 : ∀ b ∈ fp, upd H2 s2.heap.objs.size (.lst []) b = none := fun b hb => by
    rw [upd_ne (Nat.ne_of_lt (hlt b hb))]
    exact (f2 b hb).1
  have cne : ∀ b ∈ fp, ∀ x c, (cxC X N scope ⟨s2.heap.objs.size + 1, fp, s2, H2⟩).env.cells.lookup x = some c → c ≠ b := fun b hb => ((IX.ok.exf b hb).2)
  have stat : ∀ {H' : Hp}, (∀ b ∈ fp, H' b = none) → ∀ b ∈ fp, FpOk (cxC X N scope ⟨s2.heap.objs.size + 1, fp, s2, H2⟩) [] H' b := fun hn b hb =>
    ⟨hn b hb, (IX.ok.exf b hb).1, IX.ok.exfs b hb, .inl hb, cne b hb, fun p hp => absurd (show p ∈ ([] : List (Addr × Obj)) from hp) (by simp)⟩
  have e4 : ∀ cenv : Env, cenv = newEnv scope (s2.heap.push { cls := .type "list", data := .seq #[] }).objs.size X.env.globals (cellsFrom ((s2.heap.push { cls := .type "list", data := .seq #[] }).objs.size + 1) scope.names (clOf X.env scope.names)) X.env.qual none .none (some X.env) builtinsNs →
      ({ cenv with scope := relabel scope X.env } : Env) = (cxC X N scope ⟨s2.heap.objs.size + 1, fp, s2, H2⟩).env ∧ cenv.locals = s2.heap.objs.size + 1 := fun cenv e => by
    subst e
    rw [eD]
    exact ⟨rfl, rfl⟩
  obtain ⟨e5, e6⟩ := e4 _ rfl
  have loop : codeAny (model X.prog X.w) X.A (.compLoop (.ListComp elt [⟨tg, iter, ifs, 0⟩] scope pos) 0 (.ref it) (.ref s2.heap.objs.size) (cxC X N scope ⟨s2.heap.objs.size + 1, fp, s2, H2⟩).env)
      (compPost (model X.prog X.w) X.A X.xe use R (.ref s2.heap.objs.size) (s2.heap.objs.size + 1)) { s2 with heap := pushCells ((s2.heap.push { cls := .type "list", data := .seq #[] }).push { cls := .type "dict", data := .dict #[] }) scope.names } := by
    refine compLoop_any (fun n s' => ∃ i σ' H', Inv (cxC X N scope ⟨s2.heap.objs.size + 1, fp, s2, H2⟩) [] σ' H' s' ∧ tn i s'.heap ∧ (∀ b ∈ fp, H' b = none) ∧ W i n σ' H') ?_ m0 ⟨0, _, _, IX, st4, fr0, w0⟩
    rintro n s5 ⟨i, σ5, H5, I5, st5, fr5, w5⟩
    rcases turn i n σ5 H5 w5 with ⟨stop, qn⟩ | ⟨go, M, hM, step⟩
    · refine thn (T.done (cxC X N scope ⟨s2.heap.objs.size + 1, fp, s2, H2⟩) rfl rfl rfl hc i [] s5 σ5 H5 (fun _ _ => False) I5 (stat fr5) st5 stop) fun r s6 ⟨hr, I6⟩ => ?_
      subst hr
      obtain ⟨m, hn, _⟩ := I6.loc
      obtain ⟨oC, es, ep, hoC, hd, hk, hm⟩ := id hn
      have IB : Inv X pins σ H5 s6 := I2.call' (ch := fp) I6.os I6.base I6.hok I6.bare fun b hb => ⟨(f2 b hb).2.2.2.1, (f2 b hb).2.1, (f2 b hb).2.2.2.2.1, (f2 b hb).2.2.2.2.2⟩
      have young : s2.heap.objs.size ≤ s2.heap.objs.size + 1 := Nat.le_succ _
      refine fin s2.heap.objs.size (s2.heap.objs.size + 1) oC m H5 s6 (IB.pins_of fun p hp => ?_) (Nat.le_trans I2.sz young) (fun p hp => Nat.ne_of_lt (Nat.lt_of_lt_of_le (Heap.lt_size (I2.pin p hp).1) young)) (fun h' e => ⟨oC, es, ep, e, hd, hk, hm⟩) qn
      rcases List.mem_append.mp hp with z | z
      · exact IB.pin p (List.mem_append_right _ z)
      · have ep' : p = (s2.heap.objs.size + 1, oC) := by simpa using z
        subst ep'
        exact ⟨hoC, I6.free, Nat.ne_of_gt (Nat.lt_of_lt_of_le I2.lt young), I2.nofs young, fun v z => by rw [hd] at z; cases z⟩
    · refine thn (T.item (cxC X N scope ⟨s2.heap.objs.size + 1, fp, s2, H2⟩) rfl rfl rfl hc i [] s5 σ5 H5 (fun _ _ => False) I5 (stat fr5) st5 go) fun r s6 ⟨u, hr, h6⟩ => ?_
      subst hr
      refine thn h6 fun _ s7 ⟨x, H7, I7, r7, y7, st7, fr7⟩ => ?_
      have I7' := I7.pinned (stat fr7) (T.obj _ _ st7)
      refine thn (hg _ _ s7 σ5 H7 x u _ I7' r7 (step x H7 y7)) fun _ s8 ⟨σ8, H8, I8, q8⟩ => ?_
      refine thn (hf _ _ s8 σ8 H8 _ I8 q8) fun k s9 ⟨H9, I9, q9⟩ => ?_
      have again : ∀ {H10 : Hp} {s10 : Shared}, Inv (cxC X N scope ⟨s2.heap.objs.size + 1, fp, s2, H2⟩) ([] ++ pinsAt fp s7.heap) σ8 H10 s10 → M σ8 H10 →
          ∃ m, m < n ∧ ∃ i σ' H', Inv (cxC X N scope ⟨s2.heap.objs.size + 1, fp, s2, H2⟩) [] σ' H' s10 ∧ tn i s10.heap ∧ (∀ b ∈ fp, H' b = none) ∧ W i m σ' H' := fun {H10 s10} I10 q10 => by
        obtain ⟨m', hm, w10⟩ := hM σ8 H10 q10
        refine ⟨m', hm, i + 1, σ8, H10, I10.unpinned, T.keep _ _ _ st7 fun b hb o e => (I10.pin (b, o) (List.mem_append_right _ (List.mem_append_right _ (mem_pinsAt hb e)))).1, fun b hb => ?_, w10⟩
        obtain ⟨o, e, d⟩ := T.obj _ _ st7 b hb
        exact (I10.pin (b, o) (List.mem_append_right _ (List.mem_append_right _ (mem_pinsAt hb e)))).2.1
      cases k with
      | false => exact again I9 q9
      | true =>
        refine thn (he _ _ s9 σ8 H9 _ I9 q9) fun w10 s10 ⟨y, H10, I10, r10, ys, hys, hz, q10⟩ => ?_
        refine thn (mt_append _ s10 σ8 H10 (.ref s2.heap.objs.size) [y] (.ref s2.heap.objs.size) [w10] (fun _ H' => M σ8 H') I10 rfl (.cons r10 .nil) ⟨_, ys, y, rfl, rfl, hys, hz, q10⟩) fun _ s11 ⟨_, H11, I11, _, q11⟩ => ?_
        exact again I11 q11
  have go : codeAny (model X.prog X.w) X.A (.compStart (.ListComp elt [⟨tg, iter, ifs, 0⟩] scope pos) 0 (.ref it) (.ref s2.heap.objs.size) (cxC X N scope ⟨s2.heap.objs.size + 1, fp, s2, H2⟩).env)
      (compPost (model X.prog X.w) X.A X.xe use R (.ref s2.heap.objs.size) (s2.heap.objs.size + 1)) { s2 with heap := pushCells ((s2.heap.push { cls := .type "list", data := .seq #[] }).push { cls := .type "dict", data := .dict #[] }) scope.names } :=
    codeAny_compStart_list loop (T.self _ 0 _ _ _ st4 loop)
  have fin2 : ∀ (env' : Env) (L : Addr), env' = (cxC X N scope ⟨s2.heap.objs.size + 1, fp, s2, H2⟩).env → L = s2.heap.objs.size + 1 →
      codeAny (model X.prog X.w) X.A (.compStart (.ListComp elt [⟨tg, iter, ifs, 0⟩] scope pos) 0 (.ref it) (.ref s2.heap.objs.size) env') (compPost (model X.prog X.w) X.A X.xe use R (.ref s2.heap.objs.size) L)
        { s2 with heap := pushCells ((s2.heap.push { cls := .type "list", data := .seq #[] }).push { cls := .type "dict", data := .dict #[] }) scope.names } := by
    intro env' L h1 h2
    subst h1 h2
    exact go
  exact fin2 _ _ e5 e6

/-- the block's names let go -/
theorem comp_gone {pins : List (Addr × Obj)} {C : Addr} {oC : Obj} {σ' : St} {H' : Hp} {s' : Shared} {h' : Heap} (I : Inv X (pins ++ [(C, oC)]) σ' H' s') (hy : X.s₀.heap.objs.size ≤ C) (hp : ∀ p ∈ X.pn ++ pins, p.1 ≠ C) (sb : Heap.SameBut C s'.heap h') :
    Inv X pins σ' H' { s' with heap := h' } := by
  have pC := I.pin (C, oC) (List.mem_append_right _ (List.mem_append_right _ (by simp)))
  have I2 : Inv X pins σ' H' s' := I.unpinned
  refine I2.turned (it := C) (t' := s'.toks) (fun b o hb e => (sb.2 b hb).trans e) pC.2.1 pC.2.2.1 (.inr hy) (fun x c e z => ?_) hp
  obtain ⟨v, o, ho, hd⟩ := I2.cell x c e
  rw [z, pC.1] at ho
  cases ho
  exact pC.2.2.2.2 v hd
theorem pe_comp (S : CompOk X.env.scope X.N N own fr scope) (hc : X.calm = true) (hi : PI X tg iter wi) (hg : ∀ b, PG (cxC X N scope b) tg (g b)) (hf : ∀ b, PF (cxC X N scope b) ifs (tf b)) (he : ∀ b, PE (cxC X N scope b) elt (te b))
    (hs : ∀ x, foldedSetIterable iter X.env x = pure x := by intro _; rfl) : PE X (.ListComp elt [⟨tg, iter, ifs, 0⟩] scope pos) (tComp wi own fr g tf te) := by
  intro pins s σ H Q I h
  rw [eval_ListComp]
  refine comp_run (use := none) S hc hi hg hf he hs I h fun D C oC m H' s' I' hy hp hm q => ?_
  have pC := I'.pin (C, oC) (List.mem_append_right _ (List.mem_append_right _ (by simp)))
  exact ⟨m, hm _ pC.1, fun h' sb => ⟨.ref D, H', comp_gone I' hy hp sb, rfl, q⟩⟩
/-- y = [..], y a plain local on the same row -/
theorem ps_setComp {j : Nat} {y : Str} {py spos : Pos} (S : CompOk X.env.scope X.N N own fr scope) (hc : X.calm = true) (hN : X.N.Nodup) (hj : X.N[j]? = some y) (hy : Loc X.env.scope y) (hi : PI X tg iter wi) (hg : ∀ b, PG (cxC X N scope b) tg (g b)) (hf : ∀ b, PF (cxC X N scope b) ifs (tf b))
    (he : ∀ b, PE (cxC X N scope b) elt (te b)) (hfn : X.fn y = true ∨ X.env.scope.names.lookup y = some .local := by first | exact .inl rfl | exact .inr rfl | assumption) (hs : ∀ x, foldedSetIterable iter X.env x = pure x := by intro _; rfl)
    (hsw : swapsWith (.ListComp elt [⟨tg, iter, ifs, 0⟩] scope pos) (some (.Name y py)) spos.line X.env = pure true := by rfl) :
    PS X (.Assign [.Name y py] (.ListComp elt [⟨tg, iter, ifs, 0⟩] scope pos) spos) (tAsg (tComp wi own fr g tf te) (gName j)) := by
  intro pins s σ H D I h
  rw [exec_Assign_Name_used _ _ _ _ hsw]
  refine wpAny_bind (wpAny_standAt (wpAny_bind ?_))
  show wpAny _ _ (do let _ ← comprehension (.ListComp elt [⟨tg, iter, ifs, 0⟩] scope pos) scope X.env _ (newList []) false (eval iter X.env) (some (assign (.Name y py) X.env))) _ _ s
  refine wpAny_bind (thn (comp_run (use := some (assign (.Name y py) X.env)) (R := fun _ s' => SP X pins D .next s') S hc hi hg hf he hs I h fun D' C oC m H' s' I' hy' hp hm q => ?_) fun _ s' q => wpAny_pure (wpAny_pure q))
  show wpAny _ _ (assign (.Name y py) X.env (.ref D')) _ _ s'
  refine thn (pg_name hN hj hy hfn _ s' σ H' (.ref D') (.ref D') _ I' rfl q) fun _ s'' ⟨σ2, H2, I2, q2⟩ => ?_
  have pC := I2.pin (C, oC) (List.mem_append_right _ (List.mem_append_right _ (by simp)))
  exact ⟨m, hm _ pC.1, fun h' sb => ⟨σ2, H2, comp_gone I2 hy' hp sb, q2⟩⟩
end
end L2

set_option Elab.async false
set_option linter.all false
set_option maxRecDepth 100000
/-! Readings that reckon: each operation by what its values are. -/
namespace L2
open PySem PySem.Spec PyProof.Rows

theorem PE.imp {X : Cx} {e : Expr} {t t' : TE} (h : PE X e t) (k : ∀ σ H Q, t' σ H Q → t σ H Q) : PE X e t' := fun pins s σ H Q I q => h pins s σ H Q I (k σ H Q q)
theorem PT.imp {X : Cx} {e : Expr} {t t' : TT} (h : PT X e t) (k : ∀ σ H Q, t' σ H Q → t σ H Q) : PT X e t' := fun pins s σ H Q I q => h pins s σ H Q I (k σ H Q q)
theorem OpR.imp {X : Cx} {f : Value → Value → Sem Value} {r r' : R2} (h : OpR X f r) (k : ∀ x y H Q, r' x y H Q → r x y H Q) : OpR X f r' := fun pins s σ H x y v u Q I rx ry q => h pins s σ H x y v u Q I rx ry (k x y H Q q)
theorem CallR.imp {X : Cx} {f : Value} {r r' : List V → Hp → VK → Prop} (h : CallR X f r) (k : ∀ xs H Q, r' xs H Q → r xs H Q) : CallR X f r' := fun pins s σ H xs us Q I rs q => h pins s σ H xs us Q I rs (k xs H Q q)

/-- a name's value -/
def fVar (i : Nat) : TE := fun σ H Q => match σ[i]? with
  | some (some v) => Q v H
  | _ => False
section
variable {X : Cx}
theorem fv (i : Nat) {x : Str} {pos : Pos} (hN : X.N[i]? = some x := by rfl) (hv : Vis X.env.scope x := by first | exact Or.inl rfl | exact Or.inr (Or.inl rfl) | exact Or.inr (Or.inr rfl)) (hd : (x == ("__debug__" : Str)) = false := by decide)
    (hcd : (x == ("__classdict__" : Str)) = false := by decide) : PE X (.Name x pos) (fVar i) := (pe_var hN hv hd hcd).imp fun σ H Q q => by
  unfold fVar at q
  cases e : σ[i]? with
  | none => rw [e] at q; exact q.elim
  | some o =>
    cases o with
    | none => rw [e] at q; exact q.elim
    | some v => rw [e] at q; exact ⟨v, e, q⟩

/-! ### operations -/
def fAdd : R2 := fun x y H Q => match x, y with
  | .int i, .int j => Q (.int (i + j)) H
  | .str a, .str b => a.length + b.length ≤ sizeLine ∧ Q (.str (a ++ b)) H
  | .ref p, .ref q => rCat (.ref p) (.ref q) H Q
  | _, _ => False
theorem o_add : OpR X (binaryOp .Add) fAdd := by
  intro pins s σ H x y v u Q I rx ry h
  cases x with
  | int i =>
    cases y with
    | int j => exact op_add pins s σ H _ _ v u Q I rx ry ⟨i, j, rfl, rfl, h⟩
    | _ => exact (show False from h).elim
  | str a =>
    cases y with
    | str b => exact op_add_str pins s σ H _ _ v u Q I rx ry ⟨a, b, rfl, rfl, h.1, h.2⟩
    | _ => exact (show False from h).elim
  | ref p =>
    cases y with
    | ref q => exact op_cat pins s σ H _ _ v u Q I rx ry h
    | _ => exact (show False from h).elim
  | _ => cases y <;> exact (show False from h).elim
def fInt (C : Int → Int → Prop) (g : Int → Int → V) : R2 := fun x y H Q => match x, y with
  | .int i, .int j => C i j ∧ Q (g i j) H
  | _, _ => False
def fInt0 (g : Int → Int → V) : R2 := fun x y H Q => match x, y with
  | .int i, .int j => Q (g i j) H
  | _, _ => False
theorem OpR.fInt {f : Value → Value → Sem Value} {C : Int → Int → Prop} {g : Int → Int → V} (h : OpR X f (rI C g)) : OpR X f (fInt C g) := h.imp fun x y H Q q => by
  cases x with
  | int i =>
    cases y with
    | int j => exact ⟨i, j, rfl, rfl, q.1, q.2⟩
    | _ => exact (show False from q).elim
  | _ => cases y <;> exact (show False from q).elim
theorem OpR.fInt0 {f : Value → Value → Sem Value} {g : Int → Int → V} (h : OpR X f (rI0 g)) : OpR X f (fInt0 g) := h.imp fun x y H Q q => by
  cases x with
  | int i =>
    cases y with
    | int j => exact ⟨i, j, rfl, rfl, q⟩
    | _ => exact (show False from q).elim
  | _ => cases y <;> exact (show False from q).elim
theorem o_sub : OpR X (binaryOp .Sub) (fInt0 fun i j => .int (i - j)) := op_sub.fInt0
theorem o_mul : OpR X (binaryOp .Mult) (fInt CMul fun i j => .int (i * j)) := op_mul.fInt
/-- a positive divisor of less than 9000 bits -/
def CDivW (_ j : Int) : Prop := 0 < j ∧ j < 2 ^ 64
theorem log2_64 {j : Int} (h : CDivW 0 j) : j.natAbs.log2 < 9000 := by
  have h1 : j.natAbs < 2 ^ 64 := by
    have h2 : j < 2 ^ 64 := h.2
    have h3 : 0 < j := h.1
    omega
  have h0 : j.natAbs ≠ 0 := by have h3 : 0 < j := h.1; omega
  have := (Nat.log2_lt h0).mpr h1
  omega
theorem o_fdiv : OpR X (binaryOp .FloorDiv) (fInt CDivW fun i j => .int (i / j)) := (opI fun i j _ _ _ _ _ hc q => by
  have h1 : (0 : Int) < j := hc.1
  exact floordiv_int (by omega) (by rw [Int.fdiv_eq_ediv_of_nonneg i (by omega)]; exact q) (.inl (PyProof.noPylong_of_log2 (log2_64 hc)))).fInt
theorem o_mod : OpR X (binaryOp .Mod) (fInt (fun _ j => 0 < j) fun i j => .int (i % j)) := op_mod.fInt
theorem o_pow : OpR X (binaryOp .Pow) (fInt CPow fun i j => .int (i ^ j.toNat)) := op_pow.fInt
theorem o_shl : OpR X (binaryOp .LShift) (fInt CPow fun i j => .int (i * 2 ^ j.toNat)) := op_shl.fInt
theorem o_and : OpR X (binaryOp .BitAnd) (fInt0 fun i j => .int (Builtin.bitAnd i j)) := op_and.fInt0
theorem o_or : OpR X (binaryOp .BitOr) (fInt0 fun i j => .int (Builtin.bitOr i j)) := op_or.fInt0
theorem o_lt : OpR X (compareOp .Lt) (fInt0 fun i j => .bl (decide (i < j))) := op_lt.fInt0
theorem o_le : OpR X (compareOp .LtE) (fInt0 fun i j => .bl (decide (i ≤ j))) := op_le.fInt0
theorem o_gt : OpR X (compareOp .Gt) (fInt0 fun i j => .bl (decide (j < i))) := op_gt.fInt0
theorem o_ge : OpR X (compareOp .GtE) (fInt0 fun i j => .bl (decide (j ≤ i))) := op_ge.fInt0

/-! ### data at any depth -/
mutual
inductive RepD (K : PySem.W.Frag) (H : Hp) : V → PyData → Prop where
  | non : RepD K H .non .none
  | bl (b : Bool) : RepD K H (.bl b) (.bool b)
  | int (i : Int) : RepD K H (.int i) (.int i)
  | str (x : Str) : RepD K H (.str x) (.str x)
  | lst {a : Addr} {xs : List V} {ds : List PyData} (h : SqL K H a xs) (r : RepAll K H xs ds) : RepD K H (.ref a) (.list ds)
  | tup {a : Addr} {xs : List V} {ds : List PyData} (h : SqT K H a xs) (r : RepAll K H xs ds) : RepD K H (.ref a) (.tuple ds)
inductive RepAll (K : PySem.W.Frag) (H : Hp) : List V → List PyData → Prop where
  | nil : RepAll K H [] []
  | cons {x : V} {xs : List V} {d : PyData} {ds : List PyData} (h : RepD K H x d) (r : RepAll K H xs ds) : RepAll K H (x :: xs) (d :: ds)
end
mutual
theorem Inv.reads {pins : List (Addr × Obj)} {σ : St} {H : Hp} {s : Shared} (I : Inv X pins σ H s) : ∀ {x : V} {d : PyData} {u : Value}, RepD X.K H x d → RelV x u → ∃ as, Reads s.heap u d as
  | _, _, _, .non, r => by cases r; exact ⟨_, .none⟩
  | _, _, _, .bl b, r => by cases r; exact ⟨_, .bool b⟩
  | _, _, _, .int i, r => by obtain ⟨t, rfl⟩ := r; exact ⟨_, .int i t⟩
  | _, _, _, .str x, r => by obtain ⟨t, rfl⟩ := r; exact ⟨_, .str x t⟩
  | _, _, _, .lst h q, r => by
    cases r
    obtain ⟨its, rv, ⟨o, n, e, hc, _, hd⟩, _⟩ := I.list h
    obtain ⟨as, z⟩ := I.readsAll q rv
    exact ⟨_, .list e hc hd (by simpa using z)⟩
  | _, _, _, .tup h q, r => by
    cases r
    obtain ⟨its, rv, ⟨o, e, hc, n, hd⟩, _⟩ := I.tuple h
    obtain ⟨as, z⟩ := I.readsAll q rv
    exact ⟨_, .tuple e hc hd (by simpa using z)⟩
theorem Inv.readsAll {pins : List (Addr × Obj)} {σ : St} {H : Hp} {s : Shared} (I : Inv X pins σ H s) : ∀ {xs : List V} {ds : List PyData} {us : List Value}, RepAll X.K H xs ds → Vals xs us → ∃ as, ReadsAll s.heap us ds as
  | _, _, _, .nil, r => by cases r; exact ⟨_, .nil⟩
  | _, _, _, .cons h q, r => by
    cases r with
    | cons r1 r2 =>
      obtain ⟨as, z⟩ := I.reads h r1
      obtain ⟨bs, z2⟩ := I.readsAll q r2
      exact ⟨_, .cons z z2⟩
end
def fEq (K : PySem.W.Frag) : R2 := fun x y H Q => match x, y with
  | .ref p, .ref q => ∃ d e, RepD K H (.ref p) d ∧ RepD K H (.ref q) e ∧ SeqAt.shaped d = true ∧ SeqAt.shaped e = true ∧ Q (.bl (PyData.eqv d e)) H
  | x, y => scal x y = true ∧ Q (.bl (decide (x = y))) H
def fNe (K : PySem.W.Frag) : R2 := fun x y H Q => match x, y with
  | .ref p, .ref q => ∃ d e, RepD K H (.ref p) d ∧ RepD K H (.ref q) e ∧ SeqAt.shaped d = true ∧ SeqAt.shaped e = true ∧ Q (.bl (!PyData.eqv d e)) H
  | x, y => scal x y = true ∧ Q (.bl (!decide (x = y))) H
theorem o_eq (hu : X.A.units + 64 < cLine) : OpR X (compareOp .Eq) (fEq X.K) := by
  intro pins s σ H x y v u Q I rx ry h
  by_cases hr : ∃ p q, x = V.ref p ∧ y = V.ref q
  · obtain ⟨p, q, rfl, rfl⟩ := hr
    obtain ⟨d, e, hd, he, sd, se, hq⟩ := h
    obtain ⟨as, z1⟩ := I.reads hd rx
    obtain ⟨bs, z2⟩ := I.reads he ry
    exact eq_dataH z1 z2 sd se hu ⟨.bl _, H, I, rfl, hq⟩
  · refine op_eq pins s σ H x y v u Q I rx ry ?_
    cases x <;> cases y <;> first | exact h | exact absurd ⟨_, _, rfl, rfl⟩ hr
theorem o_ne (hu : X.A.units + 64 < cLine) : OpR X (compareOp .NotEq) (fNe X.K) := by
  intro pins s σ H x y v u Q I rx ry h
  by_cases hr : ∃ p q, x = V.ref p ∧ y = V.ref q
  · obtain ⟨p, q, rfl, rfl⟩ := hr
    obtain ⟨d, e, hd, he, sd, se, hq⟩ := h
    obtain ⟨as, z1⟩ := I.reads hd rx
    obtain ⟨bs, z2⟩ := I.reads he ry
    exact ne_dataH z1 z2 sd se hu ⟨.bl _, H, I, rfl, hq⟩
  · refine op_ne pins s σ H x y v u Q I rx ry ?_
    cases x <;> cases y <;> first | exact h | exact absurd ⟨_, _, rfl, rfl⟩ hr
/-- in, not in: a text in a text; a flat value in a list or tuple of flat ones -/
def fIn (K : PySem.W.Frag) (neg : Bool) : R2 := fun x y H Q => match y with
  | .str j => ∃ i, x = .str i ∧ Q (.bl (if neg then !(!(Builtin.Str.occurrences j i 0 j.length 1).isEmpty) else !(Builtin.Str.occurrences j i 0 j.length 1).isEmpty)) H
  | .ref p => ∃ xs, (SqL K H p xs ∨ SqT K H p xs) ∧ flatV x = true ∧ xs.all flatV = true ∧ Q (.bl (if neg then !inV x xs else inV x xs)) H
  | _ => False
theorem o_in : OpR X (compareOp .In) (fIn X.K false) := by
  intro pins s σ H x y v u Q I rx ry h
  cases y with
  | str j =>
    obtain ⟨i, rfl, q⟩ := h
    exact op_in_str pins s σ H _ _ v u Q I rx ry ⟨i, j, rfl, rfl, q⟩
  | ref p =>
    obtain ⟨xs, h1, h2, h3, q⟩ := h
    exact op_in_seq pins s σ H _ _ v u Q I rx ry ⟨p, xs, rfl, h1, h2, h3, q⟩
  | _ => exact (show False from h).elim
theorem o_notin : OpR X (compareOp .NotIn) (fIn X.K true) := by
  intro pins s σ H x y v u Q I rx ry h
  cases y with
  | str j =>
    obtain ⟨i, rfl, q⟩ := h
    exact op_notIn_str pins s σ H _ _ v u Q I rx ry ⟨i, j, rfl, rfl, q⟩
  | ref p =>
    obtain ⟨xs, h1, h2, h3, q⟩ := h
    exact op_notIn_seq pins s σ H _ _ v u Q I rx ry ⟨p, xs, rfl, h1, h2, h3, q⟩
  | _ => exact (show False from h).elim
theorem o_is : OpR X (compareOp .Is) (fun x y H Q => y = .non ∧ Q (.bl (decide (x = .non))) H) := op_isN
theorem o_isnot : OpR X (compareOp .IsNot) (fun x y H Q => y = .non ∧ Q (.bl (!decide (x = .non))) H) := op_notN

/-! ### places, slices -/
def fIx (K : PySem.W.Frag) : R2 := fun x y H Q => match x, y with
  | .ref p, .int i => ∃ xs v, (SqL K H p xs ∨ SqT K H p xs) ∧ atI xs i = some v ∧ Q v H
  | .str z, .int i => ∃ c, z.length ≤ sizeLine ∧ atI z.cps.toList i = some c ∧ Q (.str ⟨#[c]⟩) H
  | _, _ => False
theorem ix_any : IxR X (fIx X.K) := by
  intro value slice pins s σ H x y v u Q I rx ry h hs
  cases x with
  | ref p =>
    cases y with
    | int i =>
      obtain ⟨xs, w, h1 | h1, h2, q⟩ := h
      · exact ix_list value slice pins s σ H _ _ v u Q I rx ry ⟨p, xs, i, w, rfl, rfl, h1, h2, q⟩ hs
      · exact ix_tup value slice pins s σ H _ _ v u Q I rx ry ⟨p, xs, i, w, rfl, rfl, h1, h2, q⟩ hs
    | _ => exact (show False from h).elim
  | str z =>
    cases y with
    | int i =>
      obtain ⟨c, h1, h2, q⟩ := h
      exact ix_str value slice pins s σ H _ _ v u Q I rx ry ⟨z, i, c, rfl, rfl, h1, h2, q⟩ hs
    | _ => exact (show False from h).elim
  | _ => cases y <;> exact (show False from h).elim
def rSlS : V → Option Int → Option Int → Hp → VK → Prop := fun x lo hi H Q => ∃ z, x = .str z ∧ z.length ≤ sizeLine ∧ Q (.str (Txt.slice z lo hi)) H

/-! ### walked: a list, a tuple, a text -/
def Its (x : Str) : It := ⟨fun i _ => i < x.cps.size, fun i H v H' => H' = H ∧ ∃ c, x.cps[i]? = some c ∧ v = .str ⟨#[c]⟩, fun i _ => x.cps.size ≤ i⟩
theorem turn_str {P : Program} {w : World} {K : PySem.W.Frag} {tg : Expr} {T : String} (hT : T = "str_ascii_iterator" ∨ T = "str_iterator") (it : Addr) (x : Str) (t : Tok) : Turn P w K tg (Its x) [it] it (fun i h => i ≤ x.cps.size ∧ h.IsStrIter it T x t i) where
  mem := by simp
  obj := fun i h st b hb => by
    have e : b = it := by simpa using hb
    subst e
    obtain ⟨_, o, e, c, d⟩ := st
    exact ⟨o, e, fun v z => by rw [d] at z; cases z⟩
  keep := fun i h h' st k => by
    obtain ⟨hi, o, e, r⟩ := st
    exact ⟨hi, o, k it (by simp) o e, r⟩
  item := by
    intro X hP hw hK hc i pins s σ H E I hf st hg
    subst hP hw hK
    obtain ⟨f0, f1, f2, f3, f4, f5⟩ := hf it (by simp)
    have W : Walks X.prog X.w X.A it [it] [it] x.cps.size (SignAt x) (fun i h => h.IsStrIter it T x t i) := by
      rcases hT with rfl | rfl
      · exact Walks.strAscii (I.ok.hd hc) it x t
      · exact Walks.strWide (I.ok.hd hc) it x t
    refine W.item i s _ _ hg st.2 fun v h' tk hv st' kk => ?_
    obtain ⟨c, u, hcp, rfl⟩ := hv
    have I1 : Inv X pins σ H { s with heap := h', toks := tk } := I.turned (fun b o hb e => kk b o (by simpa using hb) e) f0 f1 f3 f4 f5
    obtain ⟨o, e, c', d⟩ := id st'
    refine ⟨_, rfl, go_of (s := { s with heap := h', toks := tk }) e c' d (by rcases hT with rfl | rfl <;> decide) ⟨.str ⟨#[c]⟩, H, I1, ⟨u, rfl⟩, ⟨rfl, c, hcp, rfl⟩, ⟨hg, st'⟩, fun b hb => (hf b hb).1⟩⟩
  done := by
    intro X hP hw hK hc i pins s σ H E I hf st hg
    subst hP hw hK
    obtain ⟨f0, f1, f2, f3, f4, f5⟩ := hf it (by simp)
    have W : Walks X.prog X.w X.A it [it] [it] x.cps.size (SignAt x) (fun i h => h.IsStrIter it T x t i) := by
      rcases hT with rfl | rfl
      · exact Walks.strAscii (I.ok.hd hc) it x t
      · exact Walks.strWide (I.ok.hd hc) it x t
    have e : i = x.cps.size := Nat.le_antisymm st.1 hg
    subst e
    exact W.done s _ _ st.2 fun h' tk kk => ⟨rfl, I.turned (fun b o hb e => kk b o (by simpa using hb) e) f0 f1 f3 f4 f5⟩
  self := fun A i s Q E st h => by
    rcases hT with rfl | rfl
    · exact wpAny_pyIter_striter_ascii st.2 h
    · exact wpAny_pyIter_striter_wide st.2 h
def iAny (K : PySem.W.Frag) (tl : TE) : TI := fun σ H R => tl σ H fun x H1 => match x with
  | .ref a => ((∃ xs, SqL K H1 a xs) ∧ R (Itl K a) H1) ∨ ((∃ xs, SqT K H1 a xs) ∧ R (Itt K a) H1)
  | .str z => R (Its z) H1
  | _ => False
theorem pi_any {tg l : Expr} {tl : TE} (hl : PE X l tl) : PI X tg l (iAny X.K tl) := by
  intro pins s σ H R I h
  refine thn (hl pins s σ H _ I h) fun v s1 ⟨x, H1, I1, r1, q1⟩ => ?_
  cases x with
  | ref a =>
    cases r1
    rcases q1 with ⟨⟨xs, hq⟩, q⟩ | ⟨⟨xs, hq⟩, q⟩
    · obtain ⟨its, rv, p, hz⟩ := I1.list hq
      refine wpAny_pyIter_list p.isList ?_
      refine ⟨s1.heap.objs.size, [s1.heap.objs.size], _, _, H1, rfl, I1.kept (t' := s1.toks) fun b o e => Heap.get?_push_of_some _ e, turn_list a _, ⟨_, Heap.get?_push_size _ rfl, rfl, rfl⟩, fun b hb => ?_, q⟩
      have e : b = s1.heap.objs.size := by simpa using hb
      subst e
      exact I1.fpOk (Nat.le_refl _) (I1.hok.fresh (Nat.le_refl _))
    · obtain ⟨its, rv, p, hz⟩ := I1.tuple hq
      refine wpAny_pyIter_tuple (show s1.heap.IsTuple a its.toArray from p) ?_
      refine ⟨s1.heap.objs.size, [s1.heap.objs.size], _, _, H1, rfl, I1.kept (t' := s1.toks) fun b o e => Heap.get?_push_of_some _ e, turn_tuple a _, ⟨_, Heap.get?_push_size _ rfl, rfl, rfl⟩, fun b hb => ?_, q⟩
      have e : b = s1.heap.objs.size := by simpa using hb
      subst e
      exact I1.fpOk (Nat.le_refl _) (I1.hok.fresh (Nat.le_refl _))
  | str z =>
    obtain ⟨t, rfl⟩ := r1
    refine wpAny_pyIter_strU ?_
    refine ⟨s1.heap.objs.size, [s1.heap.objs.size], _, _, H1, rfl, I1.kept (t' := s1.toks) fun b o e => Heap.get?_push_of_some _ e, turn_str (T := strIterType z) ?_ _ z t, ⟨Nat.zero_le _, _, Heap.get?_push_size _ rfl, rfl, rfl⟩, fun b hb => ?_, q1⟩
    · unfold strIterType
      split
      · exact .inl rfl
      · exact .inr rfl
    · have e : b = s1.heap.objs.size := by simpa using hb
      subst e
      exact I1.fpOk (Nat.le_refl _) (I1.hok.fresh (Nat.le_refl _))
  | _ => exact (show False from q1).elim

/-! ### tests and truth -/
theorem pt_tru {a : Expr} {ta : TE} (ha : PE X a ta) (he : ∀ whole, isTrue a X.env whole = (do let v ← whole; standAt a.pos; holding [v] (truthy v))) :
    PT X a (fun σ H Q => ta σ H fun x H' => ∃ k, TruV X.K x H' k ∧ Q k H') := pt_truth ha he
/-- not e, as a value -/
theorem pe_notV {a : Expr} {ta : TE} {pos : Pos} (ha : PE X a ta) : PE X (.UnaryOp .Not a pos) (fun σ H Q => ta σ H fun x H1 => ∃ k, TruV X.K x H1 k ∧ Q (.bl (!k)) H1) := by
  intro pins s σ H Q I h
  refine UnaryOp_ (thn (ha pins s σ H _ I h) fun v s1 ⟨x, H1, I1, r1, q1⟩ => ?_)
  obtain ⟨k, ht, q⟩ := q1
  exact not_of (thn (tru_ok pins s1 σ H1 x v (fun b H2 => Q (.bl (!b)) H2) I1 r1 ⟨k, ht, q⟩) fun b s2 ⟨H2, I2, q2⟩ => ⟨.bl (!b), H2, I2, rfl, q2⟩)

/-! ### built-in functions -/
theorem c_len : CallR X (.builtin "len") (fun xs H Q => ∃ x n, xs = [x] ∧ LenV X.K x H n ∧ Q (.int n) H) := call_len
theorem c_list : CallR X (.type "list") (fun xs H Q => ∃ p ys, xs = [.ref p] ∧ (SqL X.K H p ys ∨ SqT X.K H p ys) ∧ ∀ l, H l = none → Q (.ref l) (upd H l (.lst ys))) := call_list_of
theorem bools_get {bs : List Bool} {its : List Value} (r : Vals (bs.map V.bl) its) {i : Nat} {v : Value} (h : its[i]? = some v) : ∃ b, bs[i]? = some b ∧ v = .bool b := by
  have hi : i < its.length := (List.getElem?_eq_some_iff.mp h).1
  have hl := r.length
  rw [List.length_map] at hl
  have hb : bs[i]? = some bs[i] := List.getElem?_eq_getElem (by omega)
  obtain ⟨u, hu, ru⟩ := r.get (i := i) (x := V.bl bs[i]) (by rw [List.getElem?_map, hb]; rfl)
  rw [h] at hu
  cases hu
  exact ⟨_, hb, ru⟩
theorem c_all (hc : X.calm = true := by rfl) : CallR X (.builtin "all") (fun xs H Q => ∃ (p : Addr) (bs : List Bool), xs = [.ref p] ∧ SqL X.K H p (bs.map V.bl) ∧ Q (.bl (bs.all id)) H) := by
  intro pins s σ H xs us Q I r h
  obtain ⟨p, bs, rfl, hq, q⟩ := h
  obtain ⟨u, rfl, rx⟩ := vals1 r
  cases rx
  obtain ⟨its, rv, pl, hz⟩ := I.list hq
  have hl := pl.isList
  have hlt : p < s.heap.objs.size := by obtain ⟨_, e, _⟩ := hl; exact Heap.lt_size e
  have hlen : its.toArray.size = bs.length := by have := rv.length; rw [List.length_map] at this; rw [List.size_toArray]; omega
  refine call_all_walk (wpAny_pyIter_list hl ?_)
  refine ⟨s.heap.objs.size, [s.heap.objs.size, p], [s.heap.objs.size], its.toArray.size, _, _, fun i => (bs[i]?).getD true, rfl, Walks.list (A := X.A.in1) (I.ok.hd hc) _ p (Nat.ne_of_lt hlt) its.toArray,
    ⟨⟨_, Heap.get?_push_size _ rfl, rfl, rfl⟩, hl.push _⟩, fun i v s' Q' E' hP hQ => ?_, fun h' tk hk => ?_⟩
  · obtain ⟨b, e, rfl⟩ := bools_get rv (by simpa using hP)
    simp only [e, Option.getD_some] at hQ
    exact wpAny_truthy_bool hQ
  · rw [hlen, LSm.range_all bs]
    exact ⟨.bl _, H, I.kept (LSm.kept_iter hk), rfl, q⟩
theorem c_any (hc : X.calm = true := by rfl) : CallR X (.builtin "any") (fun xs H Q => ∃ (p : Addr) (bs : List Bool), xs = [.ref p] ∧ SqL X.K H p (bs.map V.bl) ∧ Q (.bl (bs.any id)) H) := by
  intro pins s σ H xs us Q I r h
  obtain ⟨p, bs, rfl, hq, q⟩ := h
  obtain ⟨u, rfl, rx⟩ := vals1 r
  cases rx
  obtain ⟨its, rv, pl, hz⟩ := I.list hq
  have hl := pl.isList
  have hlt : p < s.heap.objs.size := by obtain ⟨_, e, _⟩ := hl; exact Heap.lt_size e
  have hlen : its.toArray.size = bs.length := by have := rv.length; rw [List.length_map] at this; rw [List.size_toArray]; omega
  refine call_any_walk (wpAny_pyIter_list hl ?_)
  refine ⟨s.heap.objs.size, [s.heap.objs.size, p], [s.heap.objs.size], its.toArray.size, _, _, fun i => (bs[i]?).getD false, rfl, Walks.list (A := X.A.in1) (I.ok.hd hc) _ p (Nat.ne_of_lt hlt) its.toArray,
    ⟨⟨_, Heap.get?_push_size _ rfl, rfl, rfl⟩, hl.push _⟩, fun i v s' Q' E' hP hQ => ?_, fun h' tk hk => ?_⟩
  · obtain ⟨b, e, rfl⟩ := bools_get rv (by simpa using hP)
    simp only [e, Option.getD_some] at hQ
    exact wpAny_truthy_bool hQ
  · rw [hlen, LSm.range_any bs]
    exact ⟨.bl _, H, I.kept (LSm.kept_iter hk), rfl, q⟩

/-! ### isinstance with one class -/
def cvOf : V → Value
  | .ty n => .type n
  | .ref a => .ref a
  | _ => .none
theorem cvOf_rel {y : V} {u : Value} (r : RelV y u) (h : cvOf y ≠ .none) : u = cvOf y := by
  cases y with
  | ty n => exact r
  | ref a => exact r
  | _ => exact absurd rfl h
theorem kitOne_none {K : PySem.W.Frag} {t : Value} {b : Bool} (h : PySem.W.kitOne K t .none = some b) (ht : t ≠ .none) : False := by
  unfold PySem.W.kitOne at h
  rw [if_neg (fun z => ht (eq_of_beq z))] at h
  cases h
theorem c_isinst : CallR X (.builtin "isinstance") (fun xs H Q => ∃ x y t b, xs = [x, y] ∧ cvOf y ≠ .none ∧ TyOf X.K H x t ∧ PySem.W.kitOne X.K t (cvOf y) = some b ∧ Q (.bl b) H) := by
  intro pins s σ H xs us Q I r h
  obtain ⟨x, y, t, b, rfl, hy, ty, e, q⟩ := h
  obtain ⟨u, w', rfl, rx, ry⟩ := vals2 r
  rw [cvOf_rel ry hy]
  exact isinst_ok I rx ty e fun tk => ⟨.bl b, H, I.tok _, rfl, q⟩

/-! ### methods -/
theorem m_append {o e : Expr} {to : TE} {t : TA} {apos cpos : Pos} (ho : PE X o to) (ha : PA X [e] t) (hbase : attributeBase o "append" X.env (eval o X.env) = eval o X.env := by rfl)
    (hfew : ((backTo cpos (starEach [e] X.env)).all (fun x => !x.1) && (backToKw cpos (keywordEach [] X.env)).all (fun x => x.1.isSome)
      && decide ([e].length + ([] : List Keyword).length + (if ([] : List Keyword).isEmpty then 0 else 1) < 30)) = true := by rfl)
    (hline : (apos.endLine == cpos.line) = true := by rfl) (hs : starEach [e] X.env = (false, eval e X.env) :: starEach [] X.env := by rfl) (hplain : (backTo cpos (starEach [] X.env)).any (·.1) = false := by rfl) :
    PE X (.Call (.Attribute o "append" apos) [e] [] cpos) (tBM X.K "list" rAppend to t) := pe_bm PySem.F.plainAttrs_list PySem.F.slot_list_append PySem.F.type_list_append mt_append ho ha hbase hfew hline hs hplain
theorem mt_bitl : MtR X "int.bit_length" (fun x xs H Q => ∃ i, x = .int i ∧ xs = [] ∧ Q (.int (Builtin.Int.intBits i)) H) := by
  intro pins s σ H x xs v us Q I rx rs h
  obtain ⟨i, rfl, rfl, q⟩ := h
  obtain ⟨t, rfl⟩ := rx
  cases rs
  exact call_int_bit_length ⟨.int _, H, I.tok _, ⟨_, rfl⟩, q⟩
theorem m_bit_length {o : Expr} {to : TE} {apos cpos : Pos} (ho : PE X o to) (hbase : attributeBase o "bit_length" X.env (eval o X.env) = eval o X.env := by rfl) (hline : (apos.endLine == cpos.line) = true := by rfl) :
    PE X (.Call (.Attribute o "bit_length" apos) [] [] cpos) (tBM0 X.K "int" (fun x xs H Q => ∃ i, x = .int i ∧ xs = [] ∧ Q (.int (Builtin.Int.intBits i)) H) to) :=
  pe_bm0 PySem.F.plainAttrs_int PySem.F.slot_int_bit_length PySem.F.type_int_bit_length mt_bitl ho hbase hline
end

/-! ### a def of the text, ready to be called -/
def Has (P : Program) (w : World) (K : PySem.W.Frag) (mg : Str → Option Value) (base : Heap) (k : Nat) (x : Str) (ps : List Str) (sp : Sp) : Prop :=
  ∃ f fd, FnOk P w K mg base CX0 k f fd ps sp ∧ Binds K fd ps [] ∧ PySem.W.keepIn K (.ref f) = true ∧ mg x = some (.ref f) ∧ ∃ oc od osl, K.lookup f = some ⟨oc, od, .func fd, osl⟩
structure TopFn (K : PySem.W.Frag) (mg : Str → Option Value) (x : Str) (st : Stmt) (ps : List Str) : Prop where
  ex : ∃ f fd, Fun K x x st f fd ∧ Binds K fd ps [] ∧ mg x = some (.ref f)
theorem pe_callD {X : Cx} {j k : Nat} {x : Str} {ps : List Str} {sp : Sp} {e : Expr} {es : List Expr} {t : TA} {p pos : Pos} (D : Has X.prog X.w X.K X.mg X.base j x ps sp) (hr : Room k X.A) (ha : PA X (e :: es) t) (hj : j ≤ k := by decide) (hg : Gl X x := by rfl)
    (hdb : (x == ("__debug__" : Str)) = false := by decide) (he : starEach (e :: es) X.env = (false, eval e X.env) :: starEach es X.env := by rfl) (hpl : (backTo pos (starEach es X.env)).any (·.1) = false := by rfl) :
    PE X (.Call (.Name x p) (e :: es) [] pos) (tCall sp [] E0 t) := by
  obtain ⟨f, fd, F, b, kp, m, _⟩ := D
  exact pe_call F (hr.mono hj) hg m kp b .nil pass0 ha hdb he hpl
/-- THE RULE for a def of the top -/
theorem TopFn.has {P : Program} {w : World} {K : PySem.W.Frag} {mg : Str → Option Value} {base : Heap} {x : Str} {st : Stmt} {N ps : List Str} {k : Nat} {sp : Sp} (F : TopFn K mg x st ps) (S : FnScope N ps (defScope st)) (len : ∀ vs H Q E, sp vs H Q E → vs.length = ps.length)
    (hbody : ∀ (f : Addr) (cdv : Value) (A : Around) (outer : List Env) (s : Shared) (H : Hp) (vs : List V) (Q : VK) (E : XK), Room k (A.deeper (envOfC x (defScope st) s.heap.objs.size f cdv)) → (A.deeper (envOfC x (defScope st) s.heap.objs.size f cdv)).units + 64 < cLine → sp vs H Q E →
      ∃ t, PSs (cxOf CX0 P w K mg base N x (defScope st) f cdv A outer s H E).nox (defBody st) t ∧ t { nx := fun _ H' => Q .non H', rt := Q } (start N vs) H) : Has P w K mg base (k + 1) x ps sp := by
  obtain ⟨f, fd, F, b, m⟩ := F.ex
  obtain ⟨oc, od, kV, doc, pm, an, cdv, ct, osl, e, lk, hcd⟩ := F.ex
  exact ⟨f, fd, F.ok S len fun cdv A outer s H vs Q E hr h => hbody f cdv A outer s H vs Q E hr hr.units h, b, F.kp, m, oc, od, osl, lk⟩
end L2

set_option Elab.async false
set_option linter.all false
set_option maxRecDepth 100000
/-! What a reading asks, in the forms that one uses: comprehensions whose turns leave all that stood. -/
namespace L2
open PySem PySem.Spec PyProof.Rows

theorem Same.upd {H : Hp} {p : Addr} (h : H p = none) (o : HO) : Same H (upd H p o) := fun b u q => by rw [upd_ne (ne_of_none q h)]; exact q
theorem Same.tup {K : PySem.W.Frag} {H H' : Hp} {a : Addr} {xs : List V} (e : Same H H') (h : SqT K H a xs) : SqT K H' a xs := by
  rcases h with (h | ⟨o, h⟩) | h
  · exact .inl (.inl (e _ _ h))
  · exact .inl (.inr ⟨o, e _ _ h⟩)
  · exact .inr h
mutual
theorem Same.rep {K : PySem.W.Frag} {H H' : Hp} (e : Same H H') : ∀ {x : V} {d : PyData}, RepD K H x d → RepD K H' x d
  | _, _, .non => .non
  | _, _, .bl b => .bl b
  | _, _, .int i => .int i
  | _, _, .str x => .str x
  | _, _, .lst h r => .lst (e.seq h) (e.repAll r)
  | _, _, .tup h r => .tup (e.tup h) (e.repAll r)
theorem Same.repAll {K : PySem.W.Frag} {H H' : Hp} (e : Same H H') : ∀ {xs : List V} {ds : List PyData}, RepAll K H xs ds → RepAll K H' xs ds
  | _, _, .nil => .nil
  | _, _, .cons h r => .cons (e.rep h) (e.repAll r)
end

def cFr (fr : List Nat) (σ : St) : St := fr.map fun j => (σ[j]?).getD none
theorem cSt_one (fr : List Nat) (σ : St) : cSt 1 fr σ = none :: cFr fr σ := rfl

/-- the turns of a block over places 0 .. n - 1, the i-th item x i: kept where p, made f -/
theorem comp_turns {J : It} {n : Nat} {x : Nat → V} {fr : List Nat} {tf : CB → TT} {te : CB → TE} {Q : VK} {σ : St} {H1 : Hp} (p : Nat → Bool) (f : Nat → V) (hn : n < sizeLine)
    (stop : ∀ H, Same H1 H → J.stop n H) (go : ∀ i H, i < n → Same H1 H → J.go i H) (yld : ∀ i H v H', i < n → Same H1 H → J.yld i H v H' → H' = H ∧ v = x i)
    (hf : ∀ b i H (R : Bool → Hp → Prop), i < n → Same H1 H → (∀ H', Same H H' → R (p i) H') → tf b (some (x i) :: cFr fr σ) H R)
    (he : ∀ b i H (R : VK), i < n → p i = true → Same H1 H → (∀ H', Same H H' → R (f i) H') → te b (some (x i) :: cFr fr σ) H R)
    (fin : ∀ D H, H1 D = none → Same H1 H → H D = some (.lst (((List.range n).filter p).map f)) → Q (.ref D) H) : tBlock J 1 fr (fun _ => gName 0) tf te Q σ H1 := by
  refine ⟨fun b D hD => ?_⟩
  have lenf : ∀ i, (((List.range i).filter p).map f).length ≤ i := fun i => by
    rw [List.length_map]
    exact Nat.le_trans (List.length_filter_le _ _) (Nat.le_of_eq List.length_range)
  refine ⟨fun i m σ' H' => m = n - i ∧ i ≤ n ∧ (∃ v0, σ' = v0 :: cFr fr σ) ∧ Same H1 H' ∧ H' D = some (.lst (((List.range i).filter p).map f)), ⟨n, rfl, Nat.zero_le _, ⟨none, rfl⟩, Same.upd hD _, upd_same⟩, ?_⟩
  rintro i m σ' H' ⟨rfl, hi, ⟨v0, rfl⟩, sm, hl⟩
  by_cases hlt : i < n
  · refine .inr ⟨go i H' hlt sm, fun σ2 H2 => (∃ v0, σ2 = v0 :: cFr fr σ) ∧ Same H1 H2 ∧ H2 D = some (.lst (((List.range (i + 1)).filter p).map f)), fun σ2 H2 q => ⟨n - (i + 1), by omega, rfl, hlt, q⟩, fun v H2 y => ?_⟩
    obtain ⟨rfl, rfl⟩ := yld i H' v H2 hlt sm y
    show tf b (some (x i) :: cFr fr σ) _ _
    refine hf b i _ _ hlt sm fun H3 s3 => ?_
    have e1 : (List.range (i + 1)).filter p = (List.range i).filter p ++ (if p i then [i] else []) := by
      rw [List.range_succ, List.filter_append]
      congr 1
      cases hp : p i <;> simp [hp]
    cases hp : p i with
    | false =>
      rw [if_neg Bool.false_ne_true]
      refine ⟨⟨_, rfl⟩, sm.trans s3, ?_⟩
      rw [s3 _ _ hl, e1, hp]
      simp
    | true =>
      rw [if_pos rfl]
      refine he b i _ _ hlt hp (sm.trans s3) fun H4 s4 => ⟨_, s4 _ _ (s3 _ _ hl), ?_, ⟨_, rfl⟩, ?_, ?_⟩
      · exact Nat.lt_of_le_of_lt (lenf i) (Nat.lt_trans hlt hn)
      · have sm4 : Same H1 H4 := sm.trans (s3.trans s4)
        intro c o q
        by_cases hc : c = D
        · rw [hc, hD] at q; cases q
        · rw [upd_ne hc]; exact sm4 c o q
      · rw [upd_same, e1, hp]
        simp
  · have e : i = n := by omega
    subst e
    exact .inl ⟨stop H' sm, fin D H' hD sm hl⟩
theorem comp_range {lo : Int} {n : Nat} {fr : List Nat} {tf : CB → TT} {te : CB → TE} {Q : VK} {σ : St} {H1 : Hp} (p : Nat → Bool) (f : Nat → V) (hn : n < sizeLine)
    (hf : ∀ b i H (R : Bool → Hp → Prop), i < n → Same H1 H → (∀ H', Same H H' → R (p i) H') → tf b (some (.int (lo + i)) :: cFr fr σ) H R)
    (he : ∀ b i H (R : VK), i < n → p i = true → Same H1 H → (∀ H', Same H H' → R (f i) H') → te b (some (.int (lo + i)) :: cFr fr σ) H R)
    (fin : ∀ D H, H1 D = none → Same H1 H → H D = some (.lst (((List.range n).filter p).map f)) → Q (.ref D) H) : tBlock (Itr lo n) 1 fr (fun _ => gName 0) tf te Q σ H1 :=
  comp_turns (x := fun i => .int (lo + i)) p f hn (fun _ _ => Nat.le_refl _) (fun _ _ h _ => h) (fun _ _ _ _ _ _ y => y) hf he fin
theorem map_range {α : Type} {β : Type} (xs : List α) (d : α) (f : α → β) : (List.range xs.length).map (fun i => f (xs.getD i d)) = xs.map f := by
  apply List.ext_getElem?
  intro i
  rw [List.getElem?_map, List.getElem?_map]
  by_cases h : i < xs.length
  · rw [List.getElem?_range h, List.getElem?_eq_getElem h]
    simp [List.getD, List.getElem?_eq_getElem h]
  · rw [List.getElem?_eq_none (by simpa using h), List.getElem?_eq_none (by simpa using h)]
    rfl
theorem filter_range {α : Type} {β : Type} (p : α → Bool) (f : α → β) (d : α) : ∀ (xs : List α), ((List.range xs.length).filter fun i => p (xs.getD i d)).map (fun i => f (xs.getD i d)) = (xs.filter p).map f := by
  intro xs
  have e := map_range xs d id
  have e2 : xs = (List.range xs.length).map fun i => xs.getD i d := by simpa using e.symm
  have e3 : xs.filter p = ((List.range xs.length).filter fun i => p (xs.getD i d)).map fun i => xs.getD i d := by
    conv => lhs; rw [e2]
    rw [List.filter_map]
    rfl
  rw [e3, List.map_map]
  rfl
/-- over a list that stays -/
theorem comp_list {K : PySem.W.Frag} {a : Addr} {xs : List V} {fr : List Nat} {tf : CB → TT} {te : CB → TE} {Q : VK} {σ : St} {H1 : Hp} (p : V → Bool) (f : V → V) (hx : SqL K H1 a xs) (hn : xs.length < sizeLine)
    (hf : ∀ b x H (R : Bool → Hp → Prop), x ∈ xs → Same H1 H → (∀ H', Same H H' → R (p x) H') → tf b (some x :: cFr fr σ) H R)
    (he : ∀ b x H (R : VK), x ∈ xs → p x = true → Same H1 H → (∀ H', Same H H' → R (f x) H') → te b (some x :: cFr fr σ) H R)
    (fin : ∀ D H, H1 D = none → Same H1 H → H D = some (.lst ((xs.filter p).map f)) → Q (.ref D) H) : tBlock (Itl K a) 1 fr (fun _ => gName 0) tf te Q σ H1 := by
  have mem : ∀ i, i < xs.length → xs.getD i .non ∈ xs := fun i h => by
    rw [List.getD_eq_getElem?_getD, List.getElem?_eq_getElem h]
    exact List.getElem_mem h
  refine comp_turns (x := fun i => xs.getD i .non) (fun i => p (xs.getD i .non)) (fun i => f (xs.getD i .non)) hn (fun H s => ⟨xs, s.seq hx, Nat.le_refl _⟩) (fun i H h s => ⟨xs, xs[i], s.seq hx, List.getElem?_eq_getElem h⟩)
    (fun i H v H' h s y => ⟨y.1, ?_⟩) (fun b i H R h s k => hf b _ H R (mem i h) s k) (fun b i H R h hp s k => he b _ H R (mem i h) hp s k) fun D H hD s e => fin D H hD s ?_
  · have := y.2 xs (s.seq hx)
    rw [List.getD_eq_getElem?_getD, this]
    rfl
  · rw [e, filter_range p f]
/-- over a text's signs -/
theorem comp_str {z : Str} {fr : List Nat} {tf : CB → TT} {te : CB → TE} {Q : VK} {σ : St} {H1 : Hp} (p : Nat → Bool) (f : Nat → V) (hn : z.cps.size < sizeLine)
    (hf : ∀ b (c : Nat) H (R : Bool → Hp → Prop), c ∈ z.cps.toList → Same H1 H → (∀ H', Same H H' → R (p c) H') → tf b (some (.str ⟨#[c]⟩) :: cFr fr σ) H R)
    (he : ∀ b (c : Nat) H (R : VK), c ∈ z.cps.toList → p c = true → Same H1 H → (∀ H', Same H H' → R (f c) H') → te b (some (.str ⟨#[c]⟩) :: cFr fr σ) H R)
    (fin : ∀ D H, H1 D = none → Same H1 H → H D = some (.lst ((z.cps.toList.filter p).map f)) → Q (.ref D) H) : tBlock (Its z) 1 fr (fun _ => gName 0) tf te Q σ H1 := by
  have len : z.cps.toList.length = z.cps.size := Array.length_toList
  have mem : ∀ i, i < z.cps.size → z.cps.toList.getD i 0 ∈ z.cps.toList := fun i h => by
    rw [List.getD_eq_getElem?_getD, List.getElem?_eq_getElem (by rw [len]; exact h)]
    exact List.getElem_mem _
  refine comp_turns (n := z.cps.size) (x := fun i => .str ⟨#[z.cps.toList.getD i 0]⟩) (fun i => p (z.cps.toList.getD i 0)) (fun i => f (z.cps.toList.getD i 0)) hn (fun H s => Nat.le_refl _) (fun i H h s => h)
    (fun i H v H' h s y => ⟨y.1, ?_⟩) (fun b i H R h s k => hf b _ H R (mem i h) s k) (fun b i H R h hp s k => he b _ H R (mem i h) hp s k) fun D H hD s e => fin D H hD s ?_
  · obtain ⟨c, hc, rfl⟩ := y.2
    have : z.cps.toList[i]? = some c := by rw [Array.getElem?_toList]; exact hc
    rw [List.getD_eq_getElem?_getD, this]
    rfl
  · rw [e]
    have := filter_range p f 0 z.cps.toList
    rw [len] at this
    rw [this]

/-! ### lists of ints as data -/
theorem RepAll.ints {K : PySem.W.Frag} {H : Hp} : ∀ ns : List Int, RepAll K H (ns.map V.int) (ns.map PyData.int)
  | [] => .nil
  | n :: r => .cons (.int n) (RepAll.ints r)
theorem shaped_ints (ns : List Int) : SeqAt.shaped (.list (ns.map PyData.int)) = true := by
  unfold SeqAt.shaped
  rw [Bool.and_eq_true]
  constructor
  · exact PySem.W.ke_canLayAll0 ns
  · have e : PyData.depth (.list (ns.map PyData.int)) = PyData.depthAll (ns.map PyData.int) + 1 := rfl
    rw [e, PySem.W.ke_depthAll]
    rfl
theorem eqv_ints (ns ms : List Int) : PyData.eqv (.list (ns.map PyData.int)) (.list (ms.map PyData.int)) = decide (ns = ms) := PySem.W.ked_eqvAll ns ms
/-! ### slices -/
section
variable {X : Cx}
def rSlAny (K : PySem.W.Frag) : V → Option Int → Option Int → Hp → VK → Prop := fun x lo hi H Q => rSlL K x lo hi H Q ∨ rSlT K x lo hi H Q
theorem sl_any : SlR X (rSlAny X.K) := sl_list.or sl_tup
end
theorem cutV_map {α : Type} (f : α → V) (xs : List α) (lo hi : Option Int) : cutV (xs.map f) lo hi = ((xs.drop (HT.sIx xs.length 0 lo)).take (HT.sIx xs.length xs.length hi - HT.sIx xs.length 0 lo)).map f := by
  unfold cutV
  rw [List.length_map, List.map_take, List.map_drop]

/-! ### the top's defs -/
theorem topFn_mk {K : PySem.W.Frag} {mg : Str → Option Value} {h : Heap} {x : Str} {st : Stmt} {ps : List Str} {f : Addr} {oc : Value} {od an : Option Addr} {osl : Array (Option Value)} {kV doc pm cdv ct : Value} (X : K.In h) (G : h.Ns mainGlobals mg)
    (a : PySem.W.nsIn K mainGlobals x = some (some (.ref f))) (l : K.lookup f = some ⟨oc, od, .func (PySem.W.fnOf x x (defArgs st) (defBody st) (defScope st) .none kV doc pm an cdv ct), osl⟩) (c : PySem.W.codeIn K cdv x = true) (k : PySem.W.keepIn K (.ref f) = true)
    (hb : ∀ (kV doc pm : Value) (an : Option Addr) (cdv ct : Value) (us : List Value), us.length = ps.length → bindArgs (PySem.W.fnOf x x (defArgs st) (defBody st) (defScope st) .none kV doc pm an cdv ct) ⟨us, []⟩ = pure (ps.zip us)) : TopFn K mg x st ps :=
  ⟨f, _, fun_mk l c k, (fun_mk l c k).binds hb, PySem.W.mg_of X G a⟩
theorem has_at {P : Program} {w : World} {K : PySem.W.Frag} {mg : Str → Option Value} {base : Heap} {k : Nat} {x : Str} {ps : List Str} {sp : Sp} {f : Addr} {oc : Value} {od : Option Addr} {osl : Array (Option Value)} {fd : FuncData} (D : Has P w K mg base k x ps sp) (m : mg x = some (.ref f))
    (l : K.lookup f = some ⟨oc, od, .func fd, osl⟩) : FnOk P w K mg base CX0 k f fd ps sp := by
  obtain ⟨g, gd, F, b, kp, mg', _, _, _, l'⟩ := id D
  rw [m] at mg'
  cases mg'
  rw [l] at l'
  cases l'
  exact F
end L2

set_option Elab.async false
set_option linter.all false
set_option maxRecDepth 100000
/-! max(xs, default = d) of a list of ints. -/
namespace L2
open PySem PySem.Spec PyProof.Rows
def maxL : List Int → Option Int
  | [] => none
  | x :: r => some (r.foldl (fun m y => if y > m then y else m) x)
def bestTo (ns : List Int) (j : Nat) : Int := (ns.take (j + 1)).tail.foldl (fun m y => if y > m then y else m) (ns.headD 0)
theorem bestTo_succ {ns : List Int} {j : Nat} {y : Int} (h : ns[j + 1]? = some y) : bestTo ns (j + 1) = if y > bestTo ns j then y else bestTo ns j := by
  unfold bestTo
  cases ns with
  | nil => cases h
  | cons x r =>
    have h' : r[j]? = some y := by simpa using h
    rw [List.take_succ_cons, List.take_succ_cons, List.tail_cons, List.tail_cons, List.take_add_one, h', List.foldl_append]
    rfl
theorem bestTo_last {x : Int} {r : List Int} : maxL (x :: r) = some (bestTo (x :: r) r.length) := by
  unfold bestTo maxL
  rw [List.take_succ_cons, List.tail_cons, List.take_length]
  rfl
section
variable {prog : Program} {w : World} {A : Around} {R : Result → Shared → Prop} {I l : Addr} {its : Array Value} {ns : List Int} {St : Nat → Heap → Prop} {fp wr : List Addr} {d : Value}
theorem maxd_done (W : Walks prog w A.in1 I fp wr ns.length (fun i v => ∃ n t, ns[i]? = some n ∧ v = .int n t) St) {S : Addr} (hSf : S ∉ fp) {s : Shared} {c : Nat} {item : Value} (hst : St ns.length s.heap)
    (hS : s.heap.get? S = some { cls := .type "list", data := .seq #[item, item] c }) (hR : ∀ h' tk, (∀ b o, b ∉ wr → b ≠ S → s.heap.get? b = some o → h'.get? b = some o) → R (.ok (.ret item)) { s with heap := h', toks := tk }) :
    codeAny (model prog w) A (.builtin "max.loop" ⟨[.ref I, .none, .ref S], [("default", d)]⟩) R s := by
  refine codeAny_builtin PySem.F.entry_max_loop ?_
  rw [Around.under_plainId PySem.F.plain_max_loop _]
  show wpAny _ A.in1 (seqItems? (.ref S) >>= _) _ _ _
  refine wpAny_bind (wpAny_seqItems hS rfl ?_)
  show wpAny _ A.in1 (tryCatch (pyNext (.ref I)) _ >>= _) _ _ _
  refine wpAny_bind (wpAny_tryCatch (W.done s _ _ hst fun h1 t1 k1 => ?_))
  have hS1 := k1 S _ (fun z => hSf (W.sub _ z)) hS
  show wpAny _ A.in1 (updateSeq S (fun _ => #[]) >>= _) _ _ _
  refine wpAny_bind (wpAny_updateSeq hS1 rfl (wpAny_bind (wpAny_letGo (wpAny_pure ?_))))
  exact hR _ t1 fun b o hb hbS q => (Heap.get?_update_other _ _ (Ne.symm hbS)).trans (k1 b o hb q)
theorem maxd_loop (W : Walks prog w A.in1 I fp wr ns.length (fun i v => ∃ n t, ns[i]? = some n ∧ v = .int n t) St) {S : Addr} (hSf : S ∉ fp) :
    ∀ (k j : Nat) (s : Shared) (m : Int) (t : Tok) (c : Nat), ns.length - (j + 1) = k → j + 1 ≤ ns.length → St (j + 1) s.heap → m = bestTo ns j → s.heap.get? S = some { cls := .type "list", data := .seq #[.int m t, .int m t] c } →
    (∀ t' h' tk, (∀ b o, b ∉ wr → b ≠ S → s.heap.get? b = some o → h'.get? b = some o) → R (.ok (.ret (.int (bestTo ns (ns.length - 1)) t'))) { s with heap := h', toks := tk }) →
    codeAny (model prog w) A (.builtin "max.loop" ⟨[.ref I, .none, .ref S], [("default", d)]⟩) R s := by
  have nm : (toString "max" ++ toString ".loop" : String) = "max.loop" := by decide
  intro k
  induction k with
  | zero =>
    intro j s m t c hk hj hst hm hS hR
    have hin : j + 1 = ns.length := by omega
    refine maxd_done W hSf (hin ▸ hst) hS fun h' tk kp => ?_
    have ej : j = ns.length - 1 := by omega
    rw [hm, ej]
    exact hR _ h' tk kp
  | succ k ih =>
    intro j s m t c hk hj hst hm hS hR
    have hlt : j + 1 < ns.length := by omega
    refine codeAny_builtin PySem.F.entry_max_loop ?_
    rw [Around.under_plainId PySem.F.plain_max_loop _]
    show wpAny _ A.in1 (seqItems? (.ref S) >>= _) _ _ _
    refine wpAny_bind (wpAny_seqItems hS rfl ?_)
    show wpAny _ A.in1 (tryCatch (pyNext (.ref I)) _ >>= _) _ _ _
    refine wpAny_bind (wpAny_tryCatch (W.item (j + 1) s _ _ hlt hst fun v h1 t1 hP st1 k1 => ?_))
    obtain ⟨y, ty, hy, rfl⟩ := hP
    have hS1 := k1 S _ (fun z => hSf (W.sub _ z)) hS
    have eb := bestTo_succ hy
    rw [← hm] at eb
    show wpAny _ A.in1 (tryCatch (holding [.int y ty, .int y ty] (richCompare .Gt (.int y ty) (.int m t) >>= _)) _ >>= _) _ _ _
    refine wpAny_bind (wpAny_tryCatch (wpAny_holding (wpAny_bind ((gt_int (Q := _) ?_ : wpAny (model prog w) A.in1 (compareOp .Gt (.int y ty) (.int m t)) _ _ _)))))
    refine wpAny_bind (wpAny_holding (wpAny_truthy_bool ?_))
    refine wpAny_bind (wpAny_letGo (wpAny_pure ?_))
    by_cases hb : m < y
    · rw [if_pos (decide_eq_true hb)]
      rw [if_pos hb] at eb
      refine wpAny_bind (wpAny_updateSeq hS1 rfl (wpAny_bind (wpAny_letGo ?_)))
      rw [nm]
      refine wpAny_pure ⟨plainId_quiet PySem.F.plain_max_loop _, ih (j + 1) _ y ty _ (by omega) hlt (W.frame _ _ _ st1 fun b hbf o e => ?_) eb.symm (Heap.get?_update_self _ hS1 rfl) fun t' h2 t2 k2 => ?_⟩
      · exact (Heap.get?_update_other _ _ (fun h : S = b => hSf (by rw [h]; exact hbf))).trans e
      · exact hR t' h2 t2 fun b o hbw hbS e => k2 b o hbw hbS ((Heap.get?_update_other _ _ (Ne.symm hbS)).trans (k1 b o hbw e))
    · rw [if_neg (by rw [decide_eq_false hb]; exact Bool.false_ne_true)]
      rw [if_neg hb] at eb
      refine wpAny_bind (wpAny_letGo ?_)
      rw [nm]
      refine wpAny_pure ⟨plainId_quiet PySem.F.plain_max_loop _, ih (j + 1) _ m t c (by omega) hlt st1 eb.symm hS1 fun t' h2 t2 k2 => ?_⟩
      exact hR t' h2 t2 fun b o hbw hbS e => k2 b o hbw hbS (k1 b o hbw e)
theorem maxd_first (W : Walks prog w A.in1 I fp wr ns.length (fun i v => ∃ n t, ns[i]? = some n ∧ v = .int n t) St) {S : Addr} (hSf : S ∉ fp) {s : Shared} {c : Nat} {di : Int} {dt : Tok} (hd : d = .int di dt) (hst : St 0 s.heap)
    (hS : s.heap.get? S = some { cls := .type "list", data := .seq #[] c })
    (hR : ∀ t' h' tk, (∀ b o, b ∉ wr → b ≠ S → s.heap.get? b = some o → h'.get? b = some o) → R (.ok (.ret (.int ((maxL ns).getD di) t'))) { s with heap := h', toks := tk }) :
    codeAny (model prog w) A (.builtin "max.loop" ⟨[.ref I, .none, .ref S], [("default", d)]⟩) R s := by
  have nm : (toString "max" ++ toString ".loop" : String) = "max.loop" := by decide
  refine codeAny_builtin PySem.F.entry_max_loop ?_
  rw [Around.under_plainId PySem.F.plain_max_loop _]
  show wpAny _ A.in1 (seqItems? (.ref S) >>= _) _ _ _
  refine wpAny_bind (wpAny_seqItems hS rfl ?_)
  show wpAny _ A.in1 (tryCatch (pyNext (.ref I)) _ >>= _) _ _ _
  cases e : ns with
  | nil =>
    have e0 : ns.length = 0 := by rw [e]; rfl
    refine wpAny_bind (wpAny_tryCatch (W.done s _ _ (e0 ▸ hst) fun h1 t1 k1 => ?_))
    refine wpAny_bind (wpAny_rule (wpAny_pure ?_))
    subst hd
    have := hR dt h1 t1 fun b o hb _ q => k1 b o hb q
    rw [e] at this
    exact this
  | cons x r =>
    have hn : 0 < ns.length := by rw [e]; exact Nat.succ_pos _
    refine wpAny_bind (wpAny_tryCatch (W.item 0 s _ _ hn hst fun v h1 t1 hP st1 k1 => ?_))
    obtain ⟨y, ty, hy, rfl⟩ := hP
    have exy : y = x := by rw [e] at hy; exact (Option.some.inj hy).symm
    subst exy
    have hS1 := k1 S _ (fun z => hSf (W.sub _ z)) hS
    show wpAny _ A.in1 (updateSeq S (fun _ => #[.int y ty, .int y ty]) >>= _) _ _ _
    refine wpAny_bind (wpAny_updateSeq hS1 rfl ?_)
    rw [nm]
    have eb : bestTo ns 0 = y := by rw [e]; rfl
    refine wpAny_pure ⟨plainId_quiet PySem.F.plain_max_loop _, maxd_loop W hSf _ 0 _ y ty _ rfl hn (W.frame _ _ _ st1 fun b hbf o q => ?_) eb.symm (Heap.get?_update_self _ hS1 rfl) fun t' h2 t2 k2 => ?_⟩
    · exact (Heap.get?_update_other _ _ (fun h : S = b => hSf (by rw [h]; exact hbf))).trans q
    · have := hR t' h2 t2 fun b o hbw hbS q => k2 b o hbw hbS ((Heap.get?_update_other _ _ (Ne.symm hbS)).trans (k1 b o hbw q))
      have em : (maxL ns).getD di = bestTo ns (ns.length - 1) := by
        rw [e, bestTo_last]
        rfl
      rw [em] at this
      exact this
end
/-- a call of a built-in with keywords, by values -/
def CallRK (X : Cx) (f : Value) (ks : List Str) (r : List V → List V → Hp → VK → Prop) : Prop :=
  ∀ (pins : List (Addr × Obj)) (s : Shared) (σ : St) (H : Hp) (xs zs : List V) (us ws : List Value) (Q : VK), Inv X pins σ H s → Vals xs us → Vals zs ws → r xs zs H Q → wpAny (model X.prog X.w) X.A (call f us (ks.zip ws)) (EP X pins σ Q) X.xe s
section
variable {X : Cx}
theorem pe_callBK {x : Str} {p pos : Pos} {e : Expr} {es : List Expr} {kws : List Keyword} {t tk : TA} {id : String} {ks : List Str} {r : List V → List V → Hp → VK → Prop} (hc : CallRK X (.builtin id) ks r) (hg : Gl X x) (hm : X.mg x = none) (hv : bootBuiltins x = some (.builtin id)) (ha : PA X (e :: es) t) (hk : PK X kws tk)
    (hks : (backToKw pos (keywordEach kws X.env)).filterMap (·.1) = ks := by rfl) (hn : x ≠ "__name__" := by decide) (hdb : (x == ("__debug__" : Str)) = false := by decide)
    (he : backTo pos (starEach (e :: es) X.env) = (false, eval e X.env) :: backTo pos (starEach es X.env) := by rfl) (hpl : (backTo pos (starEach (e :: es) X.env)).any (·.1) = false := by rfl)
    (hall : (backToKw pos (keywordEach kws X.env)).all (·.1.isSome) = true := by rfl) (hkw : (backToKw pos (keywordEach kws X.env)).any (·.1.isNone) = false := by rfl) :
    PE X (.Call (.Name x p) (e :: es) kws pos) (fun σ H Q => t σ H fun vs H1 => tk σ H1 fun zs H2 => r vs zs H2 Q) := by
  intro pins s σ H Q I h
  refine wpAny_Call_Name_kw (ld_blt I hg hm hv ?_ hn hdb)
  refine callWith_kw (thn (ha pos pins s σ H _ I h) fun us s1 ⟨vs, H1, I1, r1, q1⟩ => thn (hk pos pins s1 σ H1 _ I1 q1) fun ws s2 ⟨zs, H2, I2, r2, q2⟩ => ?_) he hpl hall hkw
  rw [hks]
  exact hc pins s2 σ H2 vs zs us ws Q I2 r1 r2 q2
theorem call_tree_kw {prog : Program} {w : World} {A : Around} {E : Value → Shared → Prop} {s : Shared} {id : String} {b : Builtin} {args : List Value} {kw : List (Str × Value)} {Q : Value → Shared → Prop} (hk : builtinKind id = none) (hp : plainId id = true) (hb : entryFor table id = some b) (ha : argsOk id ⟨args, kw⟩)
    (hc : wpAny (model prog w) A.in1 (b ⟨args, kw⟩) (fun z s1 => match z with
      | .done f => (match (Except.ok f : Result) with | .ok (.ret v) => Q v s1 | .ok _ => False | .error e => E e s1)
      | .again c => c.quiet = true ∧ codeAny (model prog w) A c (fun r s2 => match r with | .ok (.ret v) => Q v s2 | .ok _ => False | .error e => E e s2) s1) E s) : wpAny (model prog w) A (call (.builtin id) args kw) Q E s := by
  refine wpAny_call (codeAny_call_builtin hp hb ?_)
  simp only [checkBuiltinCall, hk]
  cases q : Manifest.signature? id with
  | none => exact wpAny_pure hc
  | some sig =>
    have z : Bind.checkArgs id sig ⟨args, kw⟩ = pure () := by simpa only [argsOk, q] using ha
    simp only [z]
    exact wpAny_pure hc
theorem args_max_default (a d : Value) : argsOk "max" ⟨[a], [("default", d)]⟩ := by unfold argsOk; kernel_rfl
theorem c_maxd (hc : X.calm = true := by rfl) : CallRK X (.builtin "max") ["default"] (fun xs zs H Q => ∃ (p : Addr) (ns : List Int) (d : Int), xs = [.ref p] ∧ zs = [.int d] ∧ SqL X.K H p (ns.map V.int) ∧ Q (.int ((maxL ns).getD d)) H) := by
  intro pins s σ H xs zs us ws Q I r rz h
  obtain ⟨p, ns, d, rfl, rfl, hq, q⟩ := h
  obtain ⟨u, rfl, rx⟩ := vals1 r
  obtain ⟨dv, rfl, td, rfl⟩ := vals1 rz
  cases rx
  obtain ⟨its, rv, pl, hz⟩ := I.list hq
  have hl := pl.isList
  have hlt : p < s.heap.objs.size := by obtain ⟨_, z, _⟩ := hl; exact Heap.lt_size z
  have hlen : its.toArray.size = ns.length := by have := rv.length; rw [List.length_map] at this; rw [List.size_toArray]; omega
  have nm : (toString "max" ++ toString ".loop" : String) = "max.loop" := by decide
  refine call_tree_kw PySem.F.kind_max PySem.F.plain_max PySem.F.entry_max (args_max_default _ _) ?_
  show wpAny _ X.A.in1 (Builtin.Builtins.bindParams "max" ["key", "default"] 0 ⟨[], [("default", .int d td)]⟩ >>= _) _ _ _
  refine wpAny_bind (wpAny_of_eq (show Builtin.Builtins.bindParams "max" ["key", "default"] 0 ⟨[], [("default", .int d td)]⟩ = pure [none, some (.int d td)] from rfl) ?_)
  refine wpAny_bind (wpAny_pure ?_)
  refine wpAny_bind (wpAny_pyIter_list hl ?_)
  refine wpAny_bind (wpAny_newObj_type ?_)
  rw [nm]
  have W0 := Walks.list (prog := X.prog) (w := X.w) (A := X.A.in1) (I.ok.hd hc) s.heap.objs.size p (Nat.ne_of_lt hlt) its.toArray
  have W : Walks X.prog X.w X.A.in1 s.heap.objs.size [s.heap.objs.size, p] [s.heap.objs.size] ns.length (fun i v => ∃ n t, ns[i]? = some n ∧ v = .int n t) (fun i h => h.IsListIter s.heap.objs.size p i ∧ h.IsList p its.toArray) := by
    rw [hlen] at W0
    refine ⟨W0.sub, W0.frame, fun i s' Q' E' hi st k => W0.item i s' Q' E' hi st fun v h' tk hP st' kk => k v h' tk ?_ st' kk, W0.done, W0.self⟩
    have hi' : ns[i]? = some ns[i] := List.getElem?_eq_getElem hi
    obtain ⟨u, hu, t, ru⟩ := rv.get (i := i) (x := V.int ns[i]) (by rw [List.getElem?_map, hi']; rfl)
    have hP' : its[i]? = some v := by simpa using hP
    rw [hP'] at hu
    cases hu
    exact ⟨_, t, hi', ru⟩
  refine wpAny_pure ⟨plainId_quiet PySem.F.plain_max_loop _, maxd_first W (S := (s.heap.push _).objs.size) ?_ rfl ?_ (Heap.get?_push_size _ rfl) fun t' h' tk kp => ?_⟩
  · intro z
    rw [Heap.size_push] at z
    rcases List.mem_cons.mp z with z | z
    · exact absurd z (Nat.ne_of_gt (Nat.lt_succ_self _))
    · have z' : s.heap.objs.size + 1 = p := by simpa using z
      rw [← z'] at hlt
      exact absurd (Nat.lt_trans (Nat.lt_succ_self _) hlt) (Nat.lt_irrefl _)
  · exact ⟨⟨_, Heap.get?_push_of_some _ (Heap.get?_push_size _ rfl), rfl, rfl⟩, (hl.push _).push _⟩
  · refine ⟨.int _, H, I.kept (fun b o z => kp b o ?_ ?_ (Heap.get?_push_of_some _ (Heap.get?_push_of_some _ z))), ⟨t', rfl⟩, q⟩
    · intro m
      rw [List.mem_singleton.mp m] at z
      exact Nat.lt_irrefl _ (Heap.lt_size z)
    · intro m
      rw [Heap.size_push] at m
      rw [m] at z
      exact absurd (Nat.lt_trans (Nat.lt_succ_self _) (Heap.lt_size z)) (Nat.lt_irrefl _)
end
end L2

set_option Elab.async false
set_option linter.all false
set_option maxRecDepth 100000
/-! Texts over the layer. -/
namespace L2
open PySem PySem.Spec PyProof.Rows
section
variable {X : Cx}
theorem sl_str : SlR X rSlS := by
  intro pins s σ H x v vl vu lo hi sl Q I rx hs pl pu h
  obtain ⟨z, rfl, hz, q⟩ := h
  obtain ⟨t, rfl⟩ := rx
  have fin : ∀ t' k, EP X pins σ Q (.str (Txt.slice z lo hi) t') { s with toks := k } := fun t' k => ⟨.str _, H, I.tok _, ⟨_, rfl⟩, q⟩
  have len := Nat.le_trans (Txt.slice_le z lo hi) hz
  obtain ⟨o, ho, hc, hd⟩ := hs
  refine ⟨"str", _, PySem.F.slot_str_getitem.lookup, typeIs_str _ _ _, ?_⟩
  cases pl with
  | none =>
    cases pu with
    | none => exact wpAny_getItem_str_slice (l := Option.none) (u := Option.none) (st := Option.none) ⟨o, ho, hc, hd⟩ rfl (post_val_or_str ⟨len, fun t' k => fin t' k⟩)
    | int j uj => exact wpAny_getItem_str_slice (l := Option.none) (u := some (j, uj)) (st := Option.none) ⟨o, ho, hc, hd⟩ rfl (post_val_or_str ⟨len, fun t' k => fin t' k⟩)
  | int i ui =>
    cases pu with
    | none => exact wpAny_getItem_str_slice (l := some (i, ui)) (u := Option.none) (st := Option.none) ⟨o, ho, hc, hd⟩ rfl (post_val_or_str ⟨len, fun t' k => fin t' k⟩)
    | int j uj => exact wpAny_getItem_str_slice (l := some (i, ui)) (u := some (j, uj)) (st := Option.none) ⟨o, ho, hc, hd⟩ rfl (post_val_or_str ⟨len, fun t' k => fin t' k⟩)
def fSl (K : PySem.W.Frag) : V → Option Int → Option Int → Hp → VK → Prop := fun x lo hi H Q => match x with
  | .str z => z.length ≤ sizeLine ∧ Q (.str (Txt.slice z lo hi)) H
  | x => rSlL K x lo hi H Q ∨ rSlT K x lo hi H Q
theorem sl_all : SlR X (fSl X.K) := by
  intro pins s σ H x v vl vu lo hi sl Q I rx hs pl pu h
  by_cases hx : ∃ z, x = .str z
  · obtain ⟨z, rfl⟩ := hx
    exact sl_str pins s σ H _ v vl vu lo hi sl Q I rx hs pl pu ⟨z, rfl, h.1, h.2⟩
  · refine sl_any pins s σ H x v vl vu lo hi sl Q I rx hs pl pu ?_
    cases x <;> first | exact h | exact absurd ⟨_, rfl⟩ hx
/-- int of a text that writes one, of an int -/
theorem c_int : CallR X (.type "int") (fun xs H Q => ∃ x n, xs = [.str x] ∧ PySem.intText? x = some n ∧ x.length ≤ 640 ∧ Q (.int n) H) := by
  intro pins s σ H xs us Q I r h
  obtain ⟨x, n, rfl, hn, hl, q⟩ := h
  obtain ⟨u, rfl, t, rfl⟩ := vals1 r
  exact PySem.W.KIN.call_text hn hl ⟨.int n, H, I.tok _, ⟨_, rfl⟩, q⟩
theorem c_str : CallR X (.type "str") (fun xs H Q => ∃ i, xs = [.int i] ∧ i.natAbs.log2 < 1920 ∧ Q (.str (toString i)) H) := call_str_int
theorem c_max (hc : X.calm = true := by rfl) : CallR X (.builtin "max") (fun xs H Q => ∃ i j, xs = [.int i, .int j] ∧ Q (.int (if j > i then j else i)) H) := call_max2 hc
theorem c_min (hc : X.calm = true := by rfl) : CallR X (.builtin "min") (fun xs H Q => ∃ i j, xs = [.int i, .int j] ∧ Q (.int (if j < i then j else i)) H) := call_min2 hc
theorem pe_gstr {x : Str} {z : Str} {pos : Pos} (h : ∃ t, X.mg x = some (.str z t)) (hg : Gl X x := by rfl) (hd : (x == ("__debug__" : Str)) = false := by decide) : PE X (.Name x pos) (tC (.str z)) := by
  obtain ⟨t, e⟩ := h
  exact pe_glob hg e ⟨t, rfl⟩ hd
theorem pe_gint {x : Str} {z : Int} {pos : Pos} (h : ∃ t, X.mg x = some (.int z t)) (hg : Gl X x := by rfl) (hd : (x == ("__debug__" : Str)) = false := by decide) : PE X (.Name x pos) (tC (.int z)) := by
  obtain ⟨t, e⟩ := h
  exact pe_glob hg e ⟨t, rfl⟩ hd
end
/-! ### signs -/
def inS (sg : Str) (c : Nat) : Bool := !(Builtin.Str.occurrences sg ⟨#[c]⟩ 0 sg.length 1).isEmpty
theorem inS_eq (sg : Str) (c : Nat) : inS sg c = decide (c ∈ sg.cps.toList) := PySem.StrLaws.found_one sg c
abbrev LET : Str := "abcdefghijklmnopqrstuvwxyz"
abbrev FIG : Str := "0123456789"
theorem let_iff (c : Nat) : inS LET c = decide (97 ≤ c ∧ c ≤ 122) := by
  rw [inS_eq]
  have e : LET.cps.toList = [97, 98, 99, 100, 101, 102, 103, 104, 105, 106, 107, 108, 109, 110, 111, 112, 113, 114, 115, 116, 117, 118, 119, 120, 121, 122] := by decide +kernel
  rw [e]
  apply decide_eq_decide.mpr
  simp only [List.mem_cons, List.not_mem_nil, or_false]
  omega
theorem fig_iff (c : Nat) : inS FIG c = decide (48 ≤ c ∧ c ≤ 57) := by
  rw [inS_eq]
  have e : FIG.cps.toList = [48, 49, 50, 51, 52, 53, 54, 55, 56, 57] := by decide +kernel
  rw [e]
  apply decide_eq_decide.mpr
  simp only [List.mem_cons, List.not_mem_nil, or_false]
  omega
theorem str_len (x : Str) : x.cps.toList.length = x.length := Array.length_toList
theorem str_eq {x y : Str} : x = y ↔ x.cps.toList = y.cps.toList := by
  constructor
  · intro h; rw [h]
  · intro h
    cases x; cases y
    simp only [Array.toList_inj] at h
    rw [h]
end L2

set_option Elab.async false
set_option linter.all false
set_option maxRecDepth 100000
/-! range by steps, t[::2], join, isinstance with two classes, a module's tuple. -/
namespace L2
open PySem PySem.Spec PyProof.Rows

/-! ### range(lo, hi, c), c positive -/
def Itr3 (lo c : Int) (n : Nat) : It := ⟨fun i _ => i < n, fun i H x H' => H' = H ∧ x = .int (lo + i * c), fun i _ => n ≤ i⟩
def rangeN (lo hi c : Int) : Nat := (Builtin.Range.rangeSize lo hi c).toNat
theorem turn_range3 {P : Program} {w : World} {K : PySem.W.Frag} {tg : Expr} (it : Addr) (lo c : Int) (n : Nat) : Turn P w K tg (Itr3 lo c n) [it] it (fun i h => IsRangeIter h it (lo + (i : Nat) * c) ((n : Int) - (i : Nat)) c) where
  mem := by simp
  obj := fun i h st b hb => by
    have e : b = it := by simpa using hb
    subst e
    exact ⟨_, st, fun v z => by
      have z' : Data.fields _ = Data.cell v := z
      cases z'⟩
  keep := fun i h h' st k => k it (by simp) _ st
  item := by
    intro X hP hw hK hc i pins s σ H E I hf st hg
    subst hP hw hK
    obtain ⟨f0, f1, f2, f3, f4, f5⟩ := hf it (by simp)
    have W := Walks.range (prog := X.prog) (w := X.w) (I.ok.hd hc) it lo c n
    refine W.item i s _ _ hg st fun v h' tk hv st' kk => ?_
    obtain ⟨t, rfl⟩ := hv
    have I1 : Inv X pins σ H { s with heap := h', toks := tk } := I.turned (fun b o hb e => kk b o (by simpa using hb) e) f0 f1 f3 f4 f5
    exact ⟨_, rfl, go_of (s := { s with heap := h', toks := tk }) (n := "range_iterator") st' rfl rfl (by decide) ⟨.int (lo + i * c), H, I1, ⟨t, rfl⟩, ⟨rfl, rfl⟩, st', fun b hb => (hf b hb).1⟩⟩
  done := by
    intro X hP hw hK hc i pins s σ H E I hf st hg
    subst hP hw hK
    obtain ⟨f0, f1, f2, f3, f4, f5⟩ := hf it (by simp)
    exact wpAny_pyNext_range_end (I.ok.hd hc) st (by have : n ≤ i := hg; omega) fun h' eb => ⟨rfl, I.turned (t' := s.toks) (fun b o hb e => eb b o hb e) f0 f1 f3 f4 f5⟩
  self := fun _ _ _ _ _ st h => wpAny_pyIter_rangeiter st h
def iRng3 (ta : TA) : TI := fun σ H R => ta σ H fun vs H1 => ∃ i j c : Int, vs = [.int i, .int j, .int c] ∧ Builtin.Range.small i j c = true ∧ 0 < c ∧ c < 1000 ∧ 0 ≤ Builtin.Range.rangeSize i j c ∧ R (Itr3 i c (rangeN i j c)) H1
section
variable {X : Cx} {tg : Expr}
theorem pi_range3 {a b c : Expr} {ta : TA} {p pos : Pos} (hg : Gl X "range") (hm : X.mg "range" = none) (ha : PA X [a, b, c] ta) (hs : starEach [a, b, c] X.env = [(false, eval a X.env), (false, eval b X.env), (false, eval c X.env)] := by rfl) (hs2 : starEach [b, c] X.env = [(false, eval b X.env), (false, eval c X.env)] := by rfl) :
    PI X tg (.Call (.Name "range" p) [a, b, c] [] pos) (iRng3 ta) := by
  intro pins s σ H R I h
  refine Call_ (ld_blt I hg hm boot_range (PyProof.Rows.callWith_type1 (thn (ha pos pins s σ H _ I h) fun us s1 ⟨vs, H1, I1, r1, q1⟩ => ?_) (by rw [hs, hs2]) (by rw [hs2]; rfl)))
  obtain ⟨i, j, k, e, sm, k0, k1, z0, q⟩ := q1
  subst e
  cases r1 with
  | cons r rr =>
    cases rr with
    | cons r' rr =>
      cases rr with
      | cons r'' rr =>
        cases rr
        obtain ⟨t, rfl⟩ := r
        obtain ⟨t', rfl⟩ := r'
        obtain ⟨t'', rfl⟩ := r''
        refine call_range_3 (by omega) ?_ (Or.inl (PyProof.noPylong_small (by omega)))
        refine wpAny_pyIter_range (IsRange.new ..) sm ?_
        have I2 : Inv X pins σ H1 { s1 with heap := s1.heap.push { cls := .type "range", data := .fields #[.int i t, .int j t', .int k t''] }, toks := s1.toks } := I1.kept fun b o z => Heap.get?_push_of_some _ z
        refine ⟨(s1.heap.push { cls := .type "range", data := .fields #[.int i t, .int j t', .int k t''] }).objs.size, [(s1.heap.push { cls := .type "range", data := .fields #[.int i t, .int j t', .int k t''] }).objs.size], _, _, H1, rfl, I2.kept (t' := s1.toks) fun b o z => Heap.get?_push_of_some _ z, turn_range3 _ i k (rangeN i j k), ?_, fun b hb => ?_, q⟩
        · have e1 : i + ((0 : Nat) : Int) * k = i := by simp
          have e2 : ((rangeN i j k : Nat) : Int) - ((0 : Nat) : Int) = Builtin.Range.rangeSize i j k := by unfold rangeN; omega
          show IsRangeIter _ _ (i + ((0 : Nat) : Int) * k) (((rangeN i j k : Nat) : Int) - ((0 : Nat) : Int)) k
          rw [e1, e2]
          exact Heap.get?_push_size _ rfl
        · have e : b = (s1.heap.push { cls := .type "range", data := .fields #[.int i t, .int j t', .int k t''] }).objs.size := by simpa using hb
          subst e
          exact I2.fpOk (Nat.le_refl _) (I2.hok.fresh (Nat.le_refl _))
theorem comp_range3 {lo c : Int} {n : Nat} {fr : List Nat} {tf : CB → TT} {te : CB → TE} {Q : VK} {σ : St} {H1 : Hp} (p : Nat → Bool) (f : Nat → V) (hn : n < sizeLine)
    (hf : ∀ b i H (R : Bool → Hp → Prop), i < n → Same H1 H → (∀ H', Same H H' → R (p i) H') → tf b (some (.int (lo + i * c)) :: cFr fr σ) H R)
    (he : ∀ b i H (R : VK), i < n → p i = true → Same H1 H → (∀ H', Same H H' → R (f i) H') → te b (some (.int (lo + i * c)) :: cFr fr σ) H R)
    (fin : ∀ D H, H1 D = none → Same H1 H → H D = some (.lst (((List.range n).filter p).map f)) → Q (.ref D) H) : tBlock (Itr3 lo c n) 1 fr (fun _ => gName 0) tf te Q σ H1 :=
  comp_turns (x := fun i => .int (lo + i * c)) p f hn (fun _ _ => Nat.le_refl _) (fun _ _ h _ => h) (fun _ _ _ _ _ _ y => y) hf he fin

/-! ### t[::2] of a tuple: every second item, a new tuple -/
def evens {α : Type} (xs : List α) : List α := (List.range ((xs.length + 1) / 2)).filterMap fun m => xs[m * 2]?
theorem evens_le {α : Type} (xs : List α) : (evens xs).length ≤ xs.length := by
  unfold evens
  refine Nat.le_trans (List.length_filterMap_le _ _) ?_
  rw [List.length_range]
  omega
theorem Vals.evens {xs : List V} {us : List Value} (r : Vals xs us) : Vals (evens xs) (evens us) := by
  have hl := r.length
  unfold L2.evens
  rw [hl]
  have gen : ∀ l : List Nat, Vals (l.filterMap fun m => xs[m * 2]?) (l.filterMap fun m => us[m * 2]?) := by
    intro l
    induction l with
    | nil => exact .nil
    | cons m l ih =>
      rw [List.filterMap_cons, List.filterMap_cons]
      cases e : xs[m * 2]? with
      | none => rw [r.none_of e]; exact ih
      | some x =>
        obtain ⟨u, hu, ru⟩ := r.get e
        rw [hu]
        exact .cons ru ih
  exact gen _
theorem places2 (n : Nat) : Builtin.Slice.slicePlaces 0 (n : Int) 2 = (n + 1) / 2 := by
  unfold Builtin.Slice.slicePlaces
  have h1 : (2 : Int) > 0 := by omega
  simp only [h1, if_true]
  split <;> omega
theorem pick2 (xs : Array Value) : ((List.range ((xs.size + 1) / 2)).filterMap fun (m : Nat) => xs[((0 : Int) + (m : Int) * 2).toNat]?).toArray = (evens xs.toList).toArray := by
  unfold evens
  have e : (fun (m : Nat) => xs[((0 : Int) + (m : Int) * 2).toNat]?) = fun m => xs.toList[m * 2]? := by
    funext m
    have : ((0 : Int) + (m : Int) * 2).toNat = m * 2 := by omega
    rw [this, Array.getElem?_toList]
  rw [e, Array.length_toList]
theorem applied2 {prog : Program} {w : World} {A : Around} {E : Value → Shared → Prop} {s : Shared} {sl : Addr} {t2 : Tok} {n : Nat} {Q : Int × Int × Nat → Shared → Prop} (hs : s.heap.IsSliceOf sl .none .none (.int 2 t2)) (h : Q (0, 2, (n + 1) / 2) s) :
    wpAny (model prog w) A (Builtin.Slice.sliceApplied (.ref sl) (pure (n : Int))) Q E s := by
  obtain ⟨os, hos, hcs, hds⟩ := id hs
  unfold Builtin.Slice.sliceApplied Builtin.Slice.sliceFields
  refine wpAny_bind (wpAny_bind (wpAny_field hos hds (x := .none) rfl (wpAny_bind (wpAny_field hos hds (x := .none) rfl (wpAny_bind (wpAny_field hos hds (x := .int 2 t2) rfl (wpAny_pure ?_)))))))
  refine wpAny_bind (slicePart_int ?_)
  show wpAny _ _ (if ((2 : Int) == 0) = true then _ else _) _ _ s
  rw [if_neg (by decide)]
  refine wpAny_bind (slicePart_none (wpAny_bind (slicePart_none (wpAny_bind (wpAny_pure ?_)))))
  show wpAny _ _ (pure ((0 : Int), (2 : Int), Builtin.Slice.slicePlaces 0 (n : Int) 2)) _ _ s
  rw [places2]
  exact wpAny_pure h
theorem getItem_tuple_two {prog : Program} {w : World} {A : Around} {E : Value → Shared → Prop} {s : Shared} {t sl : Addr} {items : Array Value} {t2 : Tok} {Q : Value → Shared → Prop} (ht : IsTup s.heap t items) (hs : s.heap.IsSliceOf sl .none .none (.int 2 t2))
    (h : Q (.ref s.heap.objs.size) { s with heap := s.heap.push { cls := .type "tuple", data := .seq (evens items.toList).toArray } }) (hsz : items.size ≤ sizeLine) : wpAny (model prog w) A (getItem (.ref t) (.ref sl)) Q E s := by
  have htake : sizeOk (.seq (evens items.toList).toArray) := by
    show (evens items.toList).toArray.size ≤ sizeLine
    rw [List.size_toArray]
    exact Nat.le_trans (evens_le _) (by rw [Array.length_toList]; exact hsz)
  obtain ⟨os, hos, hcs, hds⟩ := id hs
  have hTs : s.TypeIs (.ref sl) "slice" := ⟨os, hos, hcs⟩
  unfold getItem
  try with_reducible refine wpAny_holding ?_
  first | refine wpAny_bind (wpAny_pure ?_) | skip
  refine wpAny_bind (wpAny_sequenceKey ht.typeIs (by decide) ?_)
  refine wpAny_bind (wpAny_callSpecial?_slot (name := Str.ofString "__getitem__") ht.typeIs PyProof.Rows.slot_tuple_getitem
    (wpAny_call_entry PyProof.Rows.slot_tuple_getitem ht.typeIs entry_tuple_getitem ?_ (args_tuple_getitem _ _)))
  show wpAny _ _ (Builtin.Tuple.tupleItemsOf (.ref t) >>= _) _ _ s
  refine wpAny_bind (tupleItemsOf_ ht ?_)
  refine wpAny_bind (wpAny_typeOf hTs ?_)
  rw [if_pos (by decide)]
  refine wpAny_bind (applied2 hs ?_)
  show wpAny _ _ (if ((0 : Int) == 0 && (2 : Int) == 1 && ((items.size + 1) / 2) == items.size) = true then _ else _) _ _ s
  rw [if_neg (by simp), pick2]
  first
    | exact wpAny_bind (m := Builtin.Tuple.tupleExact _) (wpAny_newObj_type (wpAny_pure ⟨_, rfl, wpAny_pure h⟩) htake)
    | exact wpAny_bind (m := Builtin.Tuple.tupleExact _) (wpAny_newObj_type (wpAny_bind (wpAny_pure (wpAny_pure ⟨_, rfl, wpAny_pure h⟩))) htake)
    | exact wpAny_bind (wpAny_bind (m := Builtin.Tuple.tupleExact _) (wpAny_newObj_type (wpAny_pure (wpAny_pure ⟨_, rfl, wpAny_pure h⟩)) htake))
    | exact wpAny_bind (wpAny_bind (m := Builtin.Tuple.tupleExact _) (wpAny_newObj_type (wpAny_pure ⟨_, rfl, wpAny_pure h⟩) htake))
def tEvens (K : PySem.W.Frag) (te : TE) : TE := fun σ H Q => te σ H fun x H1 => ∃ a xs, x = .ref a ∧ SqT K H1 a xs ∧ ∀ p, H1 p = none → Q (.ref p) (upd H1 p (.tup (evens xs)))
theorem pe_evens {e : Expr} {te : TE} {j : Nat} {pos p2 p3 : Pos} (he : PE X e te) : PE X (.Subscript e (.Slice none none (some (.Constant (.int 2) j p3)) p2) pos) (tEvens X.K te) := by
  intro pins s σ H Q I h
  refine Subscript_ (thn (he pins s σ H _ I h) fun v s1 ⟨x, H1, I1, r1, a, xs, ex, hx, q⟩ => ?_)
  subst ex
  cases r1
  refine wpAny_Slice ?_
  rw [evalPart_none]
  refine wpAny_pure ?_
  refine wpAny_pure ?_
  rw [evalPart_some]
  refine wpAny_Constant_int ?_
  obtain ⟨its, r, ht, hz⟩ := I1.tuple hx
  have hlen : its.toArray.size = xs.length := by rw [List.size_toArray]; exact r.length.symm
  have I4 : Inv X pins σ H1 { s1 with heap := s1.heap.push { cls := .type "slice", data := .fields #[.none, .none, .int 2 s1.toks] }, toks := s1.toks + 1 } := I1.kept fun b ob q => Heap.get?_push_of_some _ q
  have ht4 : IsTup (s1.heap.push { cls := .type "slice", data := .fields #[.none, .none, .int 2 s1.toks] }) a its.toArray := by
    obtain ⟨o, e, r⟩ := ht
    exact ⟨o, Heap.get?_push_of_some _ e, r⟩
  refine tail_any (ops := [.ref a, .ref s1.heap.objs.size]) (s := { s1 with heap := s1.heap.push { cls := .type "slice", data := .fields #[.none, .none, .int 2 s1.toks] }, toks := s1.toks + 1 }) ht4.typeIs PyProof.Rows.slot_tuple_getitem.lookup (getItem_tuple_two ht4 (Heap.IsSliceOf.new ..) ?_ (by rw [hlen]; exact hz)) (by with_unfolding_all rfl)
  refine ⟨.ref _, _, I4.laid (t' := s1.toks + 1) (o := .tup (evens xs)) (fun b ob q => Heap.get?_push_of_some _ q) (Nat.le_refl _) ?_, rfl, q _ (I4.hok.fresh (Nat.le_refl _))⟩
  exact ⟨Nat.le_trans (evens_le xs) hz, _, r.evens, IsTup.new _ _⟩

/-! ### join -/
theorem strsAre_of : ∀ {ys : List Str} {us : List Value}, Vals (ys.map V.str) us → StrsAre us ys
  | [], _, r => by cases r; exact .nil
  | y :: ys, _, r => by
    cases r with
    | cons r1 r2 =>
      obtain ⟨t, e⟩ := r1
      subst e
      exact .cons y t (strsAre_of r2)
theorem mt_join : MtR X "str.join" (fun x xs H Q => ∃ (sep : Str) (p : Addr) (ys : List Str), x = .str sep ∧ xs = [.ref p] ∧ SqL X.K H p (ys.map V.str) ∧ (ys.map (·.length)).sum + ys.length * sep.length ≤ 16777216 ∧ Q (.str (Txt.join sep ys)) H) := by
  intro pins s σ H x xs v us Q I rx rs h
  obtain ⟨sep, p, ys, rfl, rfl, hq, hz, q⟩ := h
  obtain ⟨t, rfl⟩ := rx
  obtain ⟨u, rfl, ru⟩ := rs.one
  cases ru
  obtain ⟨its, rv, pl, _⟩ := I.list hq
  exact join_list pl.isList (strsAre_of rv) hz fun t' k => ⟨.str _, H, I.tok _, ⟨_, rfl⟩, q⟩
theorem m_join {o e : Expr} {to : TE} {t : TA} {apos cpos : Pos} (ho : PE X o to) (ha : PA X [e] t) (hbase : attributeBase o "join" X.env (eval o X.env) = eval o X.env := by rfl)
    (hfew : ((backTo cpos (starEach [e] X.env)).all (fun x => !x.1) && (backToKw cpos (keywordEach [] X.env)).all (fun x => x.1.isSome)
      && decide ([e].length + ([] : List Keyword).length + (if ([] : List Keyword).isEmpty then 0 else 1) < 30)) = true := by rfl)
    (hline : (apos.endLine == cpos.line) = true := by rfl) (hs : starEach [e] X.env = (false, eval e X.env) :: starEach [] X.env := by rfl) (hplain : (backTo cpos (starEach [] X.env)).any (·.1) = false := by rfl) :
    PE X (.Call (.Attribute o "join" apos) [e] [] cpos) (tBM X.K "str" (fun x xs H Q => ∃ (sep : Str) (p : Addr) (ys : List Str), x = .str sep ∧ xs = [.ref p] ∧ SqL X.K H p (ys.map V.str) ∧ (ys.map (·.length)).sum + ys.length * sep.length ≤ 16777216 ∧ Q (.str (Txt.join sep ys)) H) to t) :=
  pe_bm PySem.F.plainAttrs_str PySem.F.slot_str_join PySem.F.type_str_join mt_join ho ha hbase hfew hline hs hplain
/-- str of an int, of a text -/
theorem c_str2 : CallR X (.type "str") (fun xs H Q => (∃ i, xs = [.int i] ∧ i.natAbs.log2 < 1920 ∧ Q (.str (toString i)) H) ∨ ∃ x, xs = [.str x] ∧ Q (.str x) H) := by
  intro pins s σ H xs us Q I r h
  rcases h with h | ⟨x, rfl, q⟩
  · exact call_str_int pins s σ H xs us Q I r h
  · obtain ⟨u, rfl, t, rfl⟩ := vals1 r
    exact PySem.P.str_of_str ⟨.str x, H, I, ⟨_, rfl⟩, q⟩

/-! ### isinstance with a tuple of classes, of a flat value -/
theorem cvs_rel : ∀ {cs : List V} {us : List Value}, Vals cs us → (∀ c ∈ cs, cvOf c ≠ .none) → us = cs.map cvOf
  | [], _, r, _ => by cases r; rfl
  | c :: cs, _, r, h => by
    cases r with
    | cons r1 r2 =>
      rw [List.map_cons, cvs_rel r2 fun d hd => h d (List.mem_cons_of_mem _ hd), cvOf_rel r1 (h c List.mem_cons_self)]
theorem c_isinstT : CallR X (.builtin "isinstance") (fun xs H Q => ∃ (x : V) (p : Addr) (cs : List V) (t : Value) (b : Bool), xs = [x, .ref p] ∧ flatV x = true ∧ H p = some (.tup cs) ∧ (∀ c ∈ cs, cvOf c ≠ .none) ∧ TyOf X.K H x t ∧ PySem.W.kitAny X.K t (cs.map cvOf) = some b ∧ Q (.bl b) H) := by
  intro pins s σ H xs us Q I r h
  obtain ⟨x, p, cs, t, b, rfl, fx, hp, hcs, ty, e, q⟩ := h
  obtain ⟨u, w', rfl, rx, ry⟩ := vals2 r
  cases ry
  obtain ⟨_, its, rv, o, ho, hc, n, hd⟩ := I.hok p _ hp
  have ei := cvs_rel rv hcs
  subst ei
  obtain ⟨cls, dd, data, sl⟩ := o
  simp only at hc hd
  subst hc hd
  have fin : ∀ tk, EP X pins σ Q (.bool b) { s with toks := tk } := fun tk => ⟨.bl b, H, I.tok _, rfl, q⟩
  cases ty with
  | non => cases (show u = Value.none from rx); exact PySem.W.kia_tup PySem.W.kitx_none I.kIn True.intro ho e (fun z => nomatch z) fin
  | bl y => cases (show u = Value.bool y from rx); exact PySem.W.kia_tup PySem.W.kitx_bool I.kIn True.intro ho e (fun z => nomatch z) fin
  | int i => obtain ⟨t, q⟩ := (show ∃ t, u = Value.int i t from rx); cases q; exact PySem.W.kia_tup PySem.W.kitx_int I.kIn True.intro ho e (fun z => nomatch z) fin
  | str y => obtain ⟨t, q⟩ := (show ∃ t, u = Value.str y t from rx); cases q; exact PySem.W.kia_tup PySem.W.kitx_str I.kIn True.intro ho e (fun z => nomatch z) fin
  | _ => cases fx
/-! ### a tuple of the module's -/
theorem rel_of_abs {x : V} {u : Value} (h : absV u = some x) : RelV x u := by
  cases u with
  | none => cases h; rfl
  | bool b => cases h; rfl
  | int i t => cases h; exact ⟨t, rfl⟩
  | str y t => cases h; exact ⟨t, rfl⟩
  | bytes y t => cases h; exact ⟨t, rfl⟩
  | float y t => cases h; exact ⟨t, rfl⟩
  | ref a => cases h; rfl
  | type n => cases h; rfl
  | _ => cases h
theorem vals_of_abs : ∀ {xs : List V} {us : List Value}, us.map absV = xs.map some → Vals xs us
  | [], [], _ => .nil
  | [], _ :: _, h => by cases h
  | _ :: _, [], h => by cases h
  | x :: xs, u :: us, h => by
    rw [List.map_cons, List.map_cons] at h
    exact .cons (rel_of_abs (List.cons.inj h).1) (vals_of_abs (List.cons.inj h).2)
theorem tab_tup {K : PySem.W.Frag} {a : Addr} {o : Obj} {its : Array Value} {n : Nat} {xs : List V} (h : K.lookup a = some o) (hc : o.cls = .type "tuple") (hd : o.data = .seq its n) (hz : its.size ≤ sizeLine) (hv : its.toList.map absV = xs.map some) (H : Hp) : SqT K H a xs :=
  .inr ⟨o, its, n, h, hc, hd, hz, vals_of_abs hv⟩
theorem pe_gtup {x : Str} {pos : Pos} {a : Addr} (h : X.mg x = some (.ref a)) (hg : Gl X x := by rfl) (hd : (x == ("__debug__" : Str)) = false := by decide) : PE X (.Name x pos) (tC (.ref a)) := pe_glob hg h rfl hd
end
end L2

set_option Elab.async false
set_option linter.all false
set_option maxRecDepth 100000
/-! Walks over tuples and by steps; lists of texts as data. -/
namespace L2
open PySem PySem.Spec PyProof.Rows
/-- over a tuple that stays -/
theorem comp_tup {K : PySem.W.Frag} {a : Addr} {xs : List V} {fr : List Nat} {tf : CB → TT} {te : CB → TE} {Q : VK} {σ : St} {H1 : Hp} (p : V → Bool) (f : V → V) (hx : SqT K H1 a xs) (hn : xs.length < sizeLine)
    (hf : ∀ b x H (R : Bool → Hp → Prop), x ∈ xs → Same H1 H → (∀ H', Same H H' → R (p x) H') → tf b (some x :: cFr fr σ) H R)
    (he : ∀ b x H (R : VK), x ∈ xs → p x = true → Same H1 H → (∀ H', Same H H' → R (f x) H') → te b (some x :: cFr fr σ) H R)
    (fin : ∀ D H, H1 D = none → Same H1 H → H D = some (.lst ((xs.filter p).map f)) → Q (.ref D) H) : tBlock (Itt K a) 1 fr (fun _ => gName 0) tf te Q σ H1 := by
  have mem : ∀ i, i < xs.length → xs.getD i .non ∈ xs := fun i h => by
    rw [List.getD_eq_getElem?_getD, List.getElem?_eq_getElem h]
    exact List.getElem_mem h
  refine comp_turns (x := fun i => xs.getD i .non) (fun i => p (xs.getD i .non)) (fun i => f (xs.getD i .non)) hn (fun H s => ⟨xs, s.tup hx, Nat.le_refl _⟩) (fun i H h s => ⟨xs, xs[i], s.tup hx, List.getElem?_eq_getElem h⟩)
    (fun i H v H' h s y => ⟨y.1, ?_⟩) (fun b i H R h s k => hf b _ H R (mem i h) s k) (fun b i H R h hp s k => he b _ H R (mem i h) hp s k) fun D H hD s e => fin D H hD s ?_
  · have := y.2 xs (s.tup hx)
    rw [List.getD_eq_getElem?_getD, this]
    rfl
  · rw [e, filter_range p f]
theorem for_range3 {lo c : Int} {n : Nat} {g : TG} {tb : TS} {D : Ends} {σ : St} {H : Hp} (Pv : Nat → St → Hp → Prop) (h0 : Pv 0 σ H)
    (hs : ∀ i σ H, i < n → Pv i σ H → g (.int (lo + i * c)) σ H fun σ2 H2 => tb { D with nx := Pv (i + 1), ct := Pv (i + 1), bk := D.nx } σ2 H2) (hd : ∀ σ H, Pv n σ H → D.nx σ H) :
    ∃ W : Nat → Nat → St → Hp → Prop, (∃ m, W 0 m σ H) ∧ ∀ i m σ H, W i m σ H →
      ((Itr3 lo c n).stop i H ∧ D.nx σ H) ∨ ((Itr3 lo c n).go i H ∧ ∃ N : St → Hp → Prop, (∀ σ' H', N σ' H' → ∃ m', m' < m ∧ W (i + 1) m' σ' H') ∧ ∀ x H', (Itr3 lo c n).yld i H x H' → g x σ H' fun σ2 H2 => tb { D with nx := N, ct := N, bk := D.nx } σ2 H2) := by
  refine ⟨fun i m σ H => m = n - i ∧ i ≤ n ∧ Pv i σ H, ⟨n, by simp, Nat.zero_le _, h0⟩, ?_⟩
  rintro i m σ H ⟨rfl, hi, p⟩
  by_cases hlt : i < n
  · refine .inr ⟨hlt, Pv (i + 1), fun σ' H' p' => ⟨n - (i + 1), by omega, rfl, hlt, p'⟩, fun x H' y => ?_⟩
    obtain ⟨e, y⟩ := y
    subst e y
    exact hs i σ _ hlt p
  · have e : i = n := by omega
    subst e
    exact .inl ⟨Nat.le_refl _, hd σ H p⟩
/-! ### lists of texts as data -/
theorem RepAll.strs {K : PySem.W.Frag} {H : Hp} : ∀ ys : List Str, RepAll K H (ys.map V.str) (ys.map PyData.str)
  | [] => .nil
  | y :: r => .cons (.str y) (RepAll.strs r)
theorem lay_strs : ∀ ys : List Str, (∀ y ∈ ys, PyData.strOk y = true) → PyData.canLayAll0 (ys.map PyData.str) = true
  | [], _ => rfl
  | y :: r, h => by simp [PyData.canLayAll0, PyData.canLay0, lay_strs r fun z hz => h z (List.mem_cons_of_mem _ hz), h y List.mem_cons_self]
theorem depth_strs : ∀ ys : List Str, PyData.depthAll (ys.map PyData.str) = 0
  | [] => rfl
  | _ :: r => by simp [PyData.depthAll, PyData.depth, depth_strs r]
theorem shaped_strs {ys : List Str} (h : ∀ y ∈ ys, PyData.strOk y = true) : SeqAt.shaped (.list (ys.map PyData.str)) = true := by
  simp [SeqAt.shaped, PyData.canLay0, PyData.depth, lay_strs ys h, depth_strs]
theorem eqv_strs {ys : List Str} (h : ∀ y ∈ ys, PyData.strOk y = true) : PyData.eqv (.list (ys.map PyData.str)) (.list (ys.map PyData.str)) = true := SeqAt.eqv_refl _ (by simp [PyData.canLay0, lay_strs ys h])
end L2

set_option Elab.async false
set_option linter.all false
set_option maxRecDepth 100000
namespace L2
open PySem PySem.Spec PyProof.Rows
/-! ### a comprehension whose items are new things -/
theorem comp_rel {J : It} {n : Nat} {x : Nat → V} {fr : List Nat} {te : CB → TE} {Q : VK} {σ : St} {H1 : Hp} (R : Nat → V → Hp → Prop) (hn : n < sizeLine)
    (stop : ∀ H, Same H1 H → J.stop n H) (go : ∀ i H, i < n → Same H1 H → J.go i H) (yld : ∀ i H v H', i < n → Same H1 H → J.yld i H v H' → H' = H ∧ v = x i)
    (he : ∀ b i H (G : VK), i < n → Same H1 H → (∀ y H', Same H H' → R i y H' → G y H') → te b (some (x i) :: cFr fr σ) H G)
    (mono : ∀ i y H H', Same H H' → R i y H → R i y H') (st : ∀ i y H D ys zs, H D = some (.lst ys) → R i y H → R i y (upd H D (.lst zs)))
    (fin : ∀ D H ys, H1 D = none → Same H1 H → H D = some (.lst ys) → ys.length = n → (∀ (i : Nat) y, ys[i]? = some y → R i y H) → Q (.ref D) H) : tBlock J 1 fr (fun _ => gName 0) (fun _ => tYes) te Q σ H1 := by
  refine ⟨fun b D hD => ?_⟩
  refine ⟨fun i m σ' H' => m = n - i ∧ i ≤ n ∧ (∃ v0, σ' = v0 :: cFr fr σ) ∧ Same H1 H' ∧ ∃ ys, H' D = some (.lst ys) ∧ ys.length = i ∧ ∀ (j : Nat) y, ys[j]? = some y → R j y H', ⟨n, rfl, Nat.zero_le _, ⟨none, rfl⟩, Same.upd hD _, [], upd_same, rfl, fun j y h => by cases h⟩, ?_⟩
  rintro i m σ' H' ⟨rfl, hi, ⟨v0, rfl⟩, sm, ys, hl, hy, hR⟩
  by_cases hlt : i < n
  · refine .inr ⟨go i H' hlt sm, fun σ2 H2 => (∃ v0, σ2 = v0 :: cFr fr σ) ∧ Same H1 H2 ∧ ∃ ys, H2 D = some (.lst ys) ∧ ys.length = i + 1 ∧ ∀ (j : Nat) y, ys[j]? = some y → R j y H2, fun σ2 H2 q => ⟨n - (i + 1), by omega, rfl, hlt, q⟩, fun v H2 y => ?_⟩
    obtain ⟨rfl, rfl⟩ := yld i H' v H2 hlt sm y
    refine he b i _ _ hlt sm fun z H4 s4 rz => ⟨ys, s4 _ _ hl, by omega, ⟨_, rfl⟩, ?_, ys ++ [z], upd_same, by simp [hy], fun j y' hj => ?_⟩
    · intro c o q
      by_cases hc : c = D
      · rw [hc, hD] at q; cases q
      · rw [upd_ne hc]; exact (sm.trans s4) c o q
    · have hD4 := s4 _ _ hl
      by_cases hji : j < ys.length
      · rw [List.getElem?_append_left hji] at hj
        exact st _ _ _ _ _ _ hD4 (mono _ _ _ _ s4 (hR j y' hj))
      · by_cases e : j = ys.length
        · subst e
          rw [List.getElem?_append_right (Nat.le_refl _)] at hj
          simp at hj
          subst hj
          rw [hy]
          exact st _ _ _ _ _ _ hD4 rz
        · rw [List.getElem?_eq_none (by simp; omega)] at hj
          cases hj
  · have e : i = n := by omega
    subst e
    exact .inl ⟨stop H' sm, fin D H' ys hD sm hl hy hR⟩
theorem comp_relL {K : PySem.W.Frag} {a : Addr} {xs : List V} {fr : List Nat} {te : CB → TE} {Q : VK} {σ : St} {H1 : Hp} (R : V → V → Hp → Prop) (hx : SqL K H1 a xs) (hn : xs.length < sizeLine)
    (he : ∀ b x H (G : VK), x ∈ xs → Same H1 H → (∀ y H', Same H H' → R x y H' → G y H') → te b (some x :: cFr fr σ) H G)
    (mono : ∀ x y H H', Same H H' → R x y H → R x y H') (st : ∀ x y H D ys zs, H D = some (.lst ys) → R x y H → R x y (upd H D (.lst zs)))
    (fin : ∀ D H ys, H1 D = none → Same H1 H → H D = some (.lst ys) → ys.length = xs.length → (∀ (i : Nat) y, ys[i]? = some y → R (xs.getD i .non) y H) → Q (.ref D) H) : tBlock (Itl K a) 1 fr (fun _ => gName 0) (fun _ => tYes) te Q σ H1 := by
  have mem : ∀ i, i < xs.length → xs.getD i .non ∈ xs := fun i h => by
    rw [List.getD_eq_getElem?_getD, List.getElem?_eq_getElem h]
    exact List.getElem_mem h
  refine comp_rel (x := fun i => xs.getD i .non) (fun i y H => R (xs.getD i .non) y H) hn (fun H s => ⟨xs, s.seq hx, Nat.le_refl _⟩) (fun i H h s => ⟨xs, xs[i], s.seq hx, List.getElem?_eq_getElem h⟩)
    (fun i H v H' h s y => ⟨y.1, ?_⟩) (fun b i H G h s k => he b _ H G (mem i h) s k) (fun i => mono _) (fun i => st _) fin
  have := y.2 xs (s.seq hx)
  rw [List.getD_eq_getElem?_getD, this]
  rfl
end L2

/-! own classes that are no refusals: made, their methods called, their fields, what they stand under -/
set_option Elab.async false
set_option linter.all false
set_option maxRecDepth 100000
namespace L2
open PySem PySem.Spec PyProof.Rows
section
variable {P : Program} {w : World} {K : PySem.W.Frag} {mg : Str → Option Value} {base : Heap}
/-- a method of the class at C (its own or one from above) -/
structure MFn (K : PySem.W.Frag) (C : Addr) (m qual : Str) (st : Stmt) (ps : List Str) : Prop where
  ex : ∃ f fd, Fun K m qual st f fd ∧ Binds K fd ps [] ∧ Meth K C m f
def HasM (P : Program) (w : World) (K : PySem.W.Frag) (mg : Str → Option Value) (base : Heap) (k : Nat) (C : Addr) (m : Str) (ps : List Str) (sp : Sp) : Prop :=
  ∃ f fd, FnOk P w K mg base CX0 k f fd ps sp ∧ Binds K fd ps [] ∧ Meth K C m f
theorem MFn.has {C : Addr} {m qual : Str} {st : Stmt} {N ps : List Str} {k : Nat} {sp : Sp} (F : MFn K C m qual st ps) (S : FnScope N ps (defScope st)) (len : ∀ vs H Q E, sp vs H Q E → vs.length = ps.length)
    (hbody : ∀ (f : Addr) (cdv : Value) (A : Around) (outer : List Env) (s : Shared) (H : Hp) (vs : List V) (Q : VK) (E : XK), Room k (A.deeper (envOfC qual (defScope st) s.heap.objs.size f cdv)) → (A.deeper (envOfC qual (defScope st) s.heap.objs.size f cdv)).units + 64 < cLine → sp vs H Q E →
      ∃ t, PSs (cxOf CX0 P w K mg base N qual (defScope st) f cdv A outer s H E).nox (defBody st) t ∧ t { nx := fun _ H' => Q .non H', rt := Q } (start N vs) H) : HasM P w K mg base (k + 1) C m ps sp := by
  obtain ⟨f, fd, F, b, m⟩ := F.ex
  exact ⟨f, fd, F.ok S len fun cdv A outer s H vs Q E hr h => hbody f cdv A outer s H vs Q E hr hr.units h, b, m⟩
theorem HasM.imp {k : Nat} {C : Addr} {m : Str} {ps : List Str} {sp sp' : Sp} (D : HasM P w K mg base k C m ps sp) (h : ∀ vs H Q E, sp' vs H Q E → sp vs H Q E) : HasM P w K mg base k C m ps sp' := by
  obtain ⟨f, fd, F, b, m⟩ := D
  exact ⟨f, fd, F.imp h, b, m⟩
theorem HasM.mono {j k : Nat} {C : Addr} {m : Str} {ps : List Str} {sp : Sp} (D : HasM P w K mg base j C m ps sp) (h : j ≤ k) : HasM P w K mg base k C m ps sp := by
  obtain ⟨f, fd, F, b, m⟩ := D
  exact ⟨f, fd, F.mono h, b, m⟩
theorem Has.imp {k : Nat} {x : Str} {ps : List Str} {sp sp' : Sp} (D : Has P w K mg base k x ps sp) (h : ∀ vs H Q E, sp' vs H Q E → sp vs H Q E) : Has P w K mg base k x ps sp' := by
  obtain ⟨f, fd, F, b⟩ := D
  exact ⟨f, fd, F.imp h, b⟩
theorem Has.mono {j k : Nat} {x : Str} {ps : List Str} {sp : Sp} (D : Has P w K mg base j x ps sp) (h : j ≤ k) : Has P w K mg base k x ps sp := by
  obtain ⟨f, fd, F, b⟩ := D
  exact ⟨f, fd, F.mono h, b⟩
/-- an own class: up is what it stands under, itself first -/
structure OwnC (K : PySem.W.Frag) (mg : Str → Option Value) (C : Addr) (x : Str) (up : List Addr) : Prop where
  mg : mg x = some (.ref C)
  cl : Cls K C
  mro : ∃ cd, PySem.W.clsIn K C = some cd ∧ cd.mro = up.map Value.ref ++ [Value.type "object"]
  ty : PySem.W.typeIn K (.ref C) = some (.type "type")
  kc : PySem.W.findIn K (.ref C) "__class__" = some (some (.builtin "object.__class__"))
  cg : PySem.W.specialIn K (.builtin "object.__class__") "__get__" = some (some (.builtin "getset_descriptor.__get__"))
  ct : PySem.W.takesIn K (.builtin "object.__class__") = some true
  mks : PySem.W.makesIn K C = true
  kp : PySem.W.keepIn K (.ref C) = true
variable {C D : Addr} {x y : Str} {up vp : List Addr}
theorem OwnC.sub (O : OwnC K mg C x up) (b : Value) : PySem.W.mroIn K C b = some ((up.map Value.ref ++ [Value.type "object"]).contains b) := by
  obtain ⟨cd, h1, h2⟩ := O.mro
  unfold PySem.W.mroIn
  rw [h1]
  show (if cd.mro.isEmpty = true then none else some (cd.mro.contains b)) = _
  rw [h2, if_neg (by cases up <;> simp)]
theorem refs_contains (up : List Addr) (D : Addr) : (up.map Value.ref ++ [Value.type "object"]).contains (Value.ref D) = decide (D ∈ up) := by
  induction up with
  | nil => rfl
  | cons a r ih =>
    show ((Value.ref D == Value.ref a) || (r.map Value.ref ++ [Value.type "object"]).contains (Value.ref D)) = _
    rw [ih]
    by_cases h : D = a
    · subst h; simp
    · have : (Value.ref D == Value.ref a) = false := by
        rw [Bool.eq_false_iff]
        intro z
        exact h (Value.ref.inj (beq_iff_eq.mp z))
      rw [this, Bool.false_or]
      simp [h]
/-- isinstance(an object of C, D) -/
theorem OwnC.kit (O : OwnC K mg C x up) (U : OwnC K mg D y vp) (hs : C ∈ up) : PySem.W.kitOne K (.ref C) (.ref D) = some (decide (D ∈ up)) := by
  unfold PySem.W.kitOne
  split
  · rename_i q
    have : C = D := Value.ref.inj (beq_iff_eq.mp q)
    rw [← this, decide_eq_true hs]
  · obtain ⟨cd, h1, _⟩ := U.mro
    unfold PySem.W.kitCls
    dsimp only
    rw [h1, U.ty]
    rw [if_pos (by rfl)]
    show PySem.W.mroIn K C (.ref D) = _
    rw [O.sub, refs_contains]
/-- of a class that is built in -/
theorem OwnC.kitB (O : OwnC K mg C x up) {T : String} (hm : PySem.W.kitMeta T = true) (hn : (T == "object") = false) : PySem.W.kitOne K (.ref C) (.type T) = some false := by
  unfold PySem.W.kitOne
  rw [if_neg (by intro z; cases beq_iff_eq.mp z)]
  unfold PySem.W.kitCls
  dsimp only
  rw [if_pos hm]
  show PySem.W.mroIn K C (.type T) = _
  rw [O.sub]
  have : ∀ l : List Addr, (l.map Value.ref ++ [Value.type "object"]).contains (Value.type T) = false := by
    intro l
    induction l with
    | nil =>
      show ((Value.type T == Value.type "object") || false) = false
      rw [Bool.or_false, Bool.eq_false_iff]
      intro z
      have := Value.type.inj (beq_iff_eq.mp z)
      rw [this] at hn
      exact absurd hn (by decide)
    | cons a r ih =>
      show ((Value.type T == Value.ref a) || _) = false
      have e : (Value.type T == Value.ref a) = false := by
        rw [Bool.eq_false_iff]
        intro z
        cases beq_iff_eq.mp z
      rw [e, Bool.false_or]
      exact ih
  rw [this]
/-- its objects' type -/
theorem OwnC.tyOf (O : OwnC K mg C x up) {H : Hp} {a dx : Addr} {fs : List (Str × V)} (e : H a = some (.ins C dx fs)) : TyOf K H (.ref a) (.ref C) :=
  .ins e O.cl O.kc O.cg O.ct ((O.sub _).trans (by simp))
/-- a built-in value is of no own class -/
theorem OwnC.kitN (U : OwnC K mg D y vp) {T : String} {l : List Value} (h : PySem.fastBuiltinMro T = some l) (hn : l.contains (Value.ref D) = false) : PySem.W.kitOne K (.type T) (.ref D) = some false := by
  unfold PySem.W.kitOne
  rw [if_neg (by intro z; cases beq_iff_eq.mp z)]
  obtain ⟨cd, h1, _⟩ := U.mro
  unfold PySem.W.kitCls
  dsimp only
  rw [h1, U.ty]
  rw [if_pos (by rfl)]
  show (PySem.fastBuiltinMro T).map (·.contains (Value.ref D)) = _
  rw [h]
  show some (l.contains (Value.ref D)) = _
  rw [hn]
end
section
variable {X : Cx} {k j : Nat} {C : Addr} {x m : Str} {ps : List Str} {sp : Sp} {o e : Expr} {es : List Expr} {ta : TE} {t : TA} {p apos pos : Pos} {up : List Addr}
/-- C(..) -/
theorem pe_makeD (O : OwnC X.K X.mg C x up) (D : HasM X.prog X.w X.K X.mg X.base j C "__init__" ps sp) (hr : Room k X.A) (ha : PA X (e :: es) t) (hj : j + 1 ≤ k := by decide) (hg : Gl X x := by rfl) (hdb : (x == ("__debug__" : Str)) = false := by decide)
    (he : starEach (e :: es) X.env = (false, eval e X.env) :: starEach es X.env := by rfl) (hpl : (backTo pos (starEach es X.env)).any (·.1) = false := by rfl) : PE X (.Call (.Name x p) (e :: es) [] pos) (tMake C sp [] E0 t) := by
  obtain ⟨f, fd, F, b, m⟩ := D
  exact pe_make ⟨O.mks, m.at_, m.fn, O.kp⟩ F (hr.mono hj) hg O.mg b .nil pass0 ha hdb he hpl
theorem pe_makeD0 (O : OwnC X.K X.mg C x up) (D : HasM X.prog X.w X.K X.mg X.base j C "__init__" ps sp) (hr : Room k X.A) (hj : j + 1 ≤ k := by decide) (hg : Gl X x := by rfl) (hdb : (x == ("__debug__" : Str)) = false := by decide) : PE X (.Call (.Name x p) [] [] pos) (tMake C sp [] E0 tNil) := by
  obtain ⟨f, fd, F, b, m⟩ := D
  exact pe_make0 ⟨O.mks, m.at_, m.fn, O.kp⟩ F (hr.mono hj) hg O.mg b .nil pass0 hdb
/-- o.m(..), o of the class at C -/
theorem pe_methD {pl : Sem Bool} (he : PE X o ta) (c : Cls X.K C) (D : HasM X.prog X.w X.K X.mg X.base j C m ps sp) (hr : Room k X.A) (ha : PA X (e :: es) t) (hj : j ≤ k := by decide)
    (hst : starEach (e :: es) X.env = (false, eval e X.env) :: starEach es X.env := by rfl) (hpl : (backTo pos (starEach es X.env)).any (·.1) = false := by rfl)
    (ht : eval (.Call (.Attribute o m apos) (e :: es) [] pos) X.env = (do
      let ov ← eval o X.env
      standAt apos.atName
      let (f, first) ← holding [ov] (getMethod ov m pl)
      callWith pos f first (backTo pos (starEach (e :: es) X.env)) (backToKw pos (keywordEach [] X.env))) := by rfl) :
    PE X (.Call (.Attribute o m apos) (e :: es) [] pos) (tMeth C m sp [] E0 ta t) := by
  obtain ⟨f, fd, F, b, hm⟩ := D
  exact pe_meth (pl := pl) he c hm F (hr.mono hj) b .nil pass0 ha hst hpl ht
theorem pe_methD0 {pl : Sem Bool} (he : PE X o ta) (c : Cls X.K C) (D : HasM X.prog X.w X.K X.mg X.base j C m ps sp) (hr : Room k X.A) (hj : j ≤ k := by decide)
    (ht : eval (.Call (.Attribute o m apos) [] [] pos) X.env = (do
      let ov ← eval o X.env
      standAt apos.atName
      let (f, first) ← holding [ov] (getMethod ov m pl)
      callWith pos f first (backTo pos (starEach [] X.env)) (backToKw pos (keywordEach [] X.env))) := by rfl) :
    PE X (.Call (.Attribute o m apos) [] [] pos) (tMeth C m sp [] E0 ta tNil) := by
  obtain ⟨f, fd, F, b, hm⟩ := D
  exact pe_meth0 (pl := pl) he c hm F (hr.mono hj) b .nil pass0 ht
/-- o.m(..), o of any class that M tells a promise for -/
def tMethV (M : Addr → Sp → Prop) (m : Str) (ta : TE) (t : TA) : TE := fun σ H Q => ta σ H fun x H1 => ∃ a C dx fs sp, x = .ref a ∧ H1 a = some (.ins C dx fs) ∧ fs.lookup m = none ∧ M C sp ∧ t σ H1 fun vs H2 => sp (x :: vs) H2 Q E0
theorem pe_methV0 {M : Addr → Sp → Prop} {pl : Sem Bool} (he : PE X o ta) (hM : ∀ C sp, M C sp → Cls X.K C ∧ ∃ ps, HasM X.prog X.w X.K X.mg X.base j C m ps sp) (hr : Room k X.A) (hj : j ≤ k := by decide)
    (ht : eval (.Call (.Attribute o m apos) [] [] pos) X.env = (do
      let ov ← eval o X.env
      standAt apos.atName
      let (f, first) ← holding [ov] (getMethod ov m pl)
      callWith pos f first (backTo pos (starEach [] X.env)) (backToKw pos (keywordEach [] X.env))) := by rfl) :
    PE X (.Call (.Attribute o m apos) [] [] pos) (tMethV M m ta tNil) := by
  intro pins s σ H Q I h
  refine PySem.W.methodCall_KW (pl := pl) (thn (he pins s σ H _ I h) fun u s1 ⟨x, H1, I1, rx, a, C, dx, fs, sp, ex, ea, l, hm, q⟩ => ?_) ht
  obtain ⟨c, ps, f, fd, F, b, hm⟩ := hM C sp hm
  subst ex
  obtain rfl : u = Value.ref a := rx
  refine getmeth_ok I1 ea c hm l ?_
  exact PySem.W.callWith_K0 (first := [.ref a]) I1.kIn hm.kp (run_fn (us := [.ref a]) (vs := [.ref a]) (dvs := []) F (hr.mono hj) b .nil pass0 I1 (.cons rfl .nil) q)
/-- a method taken from its class: C.m(o, ..) -/
structure OfC (K : PySem.W.Frag) (C : Addr) (m : Str) : Prop where
  ga : PySem.W.specialIn K (.ref C) "__getattribute__" = some (some (.builtin "type.__getattribute__"))
  rd : PySem.W.readsIn K C (.type "type") = true
  fc : ∃ f, PySem.W.findIn K (.ref C) m = some (some (.ref f)) ∧ PySem.W.findCls K (.ref C) (.type "type") m = some (.val (.ref f))
theorem pe_callOf {pl : Sem Bool} (O : OwnC X.K X.mg C x up) (W : OfC X.K C m) (D : HasM X.prog X.w X.K X.mg X.base j C m ps sp) (hr : Room k X.A) (ha : PA X (e :: es) t) (hj : j ≤ k := by decide) (hg : Gl X x := by rfl) (hdb : (x == ("__debug__" : Str)) = false := by decide)
    (hst : starEach (e :: es) X.env = (false, eval e X.env) :: starEach es X.env := by rfl) (hpl : (backTo pos (starEach es X.env)).any (·.1) = false := by rfl)
    (ht : eval (.Call (.Attribute (.Name x p) m apos) (e :: es) [] pos) X.env = (do
      let ov ← eval (.Name x p) X.env
      standAt apos.atName
      let (f, first) ← holding [ov] (getMethod ov m pl)
      callWith pos f first (backTo pos (starEach (e :: es) X.env)) (backToKw pos (keywordEach [] X.env))) := by rfl) :
    PE X (.Call (.Attribute (.Name x p) m apos) (e :: es) [] pos) (tCall sp [] E0 t) := by
  obtain ⟨f, fd, F, b, hm⟩ := D
  intro pins s σ H Q I h
  refine PySem.W.methodCall_KW (pl := pl) (ld_glob I hg O.mg ?_ hdb) ht
  obtain ⟨f', h1, h2⟩ := W.fc
  have ef : f = f' := by
    have := hm.at_.symm.trans h1
    cases this
    rfl
  subst ef
  refine PySem.W.method_cls I.kIn W.ga (PySem.W.cls_value I.kIn W.rd h2 rfl ?_)
  refine PySem.W.callWith_K (h₀ := X.base) I.ok.mod.kin hm.kp (thn (ha pos pins _ σ H _ (I.tok _) h) fun us s2 ⟨vs, H2, I2, r, q2⟩ => ⟨I2.kIn, ?_⟩) hst hpl
  exact run_fn (us := us) (vs := vs) F (hr.mono hj) b .nil pass0 I2 r q2
end
/-! ### premises from the fragment -/
theorem mFn_mk {K : PySem.W.Frag} {C : Addr} {m qual : Str} {st : Stmt} {ps : List Str} {f : Addr} {oc : Value} {od an : Option Addr} {osl : Array (Option Value)} {kV doc pm cdv ct : Value}
    (a : PySem.W.findIn K (.ref C) m = some (some (.ref f))) (fn : PySem.W.isFn K (.ref f) = true) (l : K.lookup f = some ⟨oc, od, .func (PySem.W.fnOf m qual (defArgs st) (defBody st) (defScope st) .none kV doc pm an cdv ct), osl⟩) (c : PySem.W.codeIn K cdv qual = true) (k : PySem.W.keepIn K (.ref f) = true)
    (hb : ∀ (kV doc pm : Value) (an : Option Addr) (cdv ct : Value) (us : List Value), us.length = ps.length → bindArgs (PySem.W.fnOf m qual (defArgs st) (defBody st) (defScope st) .none kV doc pm an cdv ct) ⟨us, []⟩ = pure (ps.zip us)) : MFn K C m qual st ps :=
  ⟨f, _, fun_mk l c k, (fun_mk l c k).binds hb, ⟨a, fn, k⟩⟩
end L2
/-! ### new objects and their fields -/
namespace L2
open PySem PySem.Spec PyProof.Rows
/-- all but the object at x stays -/
def But (x : Addr) (H H' : Hp) : Prop := ∀ b, b ≠ x → ∀ o, H b = some o → H' b = some o
theorem But.refl (x : Addr) (H : Hp) : But x H H := fun _ _ _ h => h
theorem But.trans {x : Addr} {H H1 H2 : Hp} (a : But x H H1) (b : But x H1 H2) : But x H H2 := fun c hc o h => b c hc o (a c hc o h)
theorem But.at (x : Addr) (H : Hp) (o : HO) : But x H (upd H x o) := fun b hb u q => by rw [upd_ne hb]; exact q
theorem But.new {x p : Addr} {H : Hp} (h : H p = none) (o : HO) : But x H (upd H p o) := fun b _ u q => by rw [upd_ne (ne_of_none q h)]; exact q
theorem But.of {x : Addr} {H H' : Hp} (s : Same H H') : But x H H' := fun b _ o h => s b o h
theorem But.same {x dx : Addr} {H H' : Hp} {o o' : HO} (b : But x (upd (upd H dx o) x o') H') (hx : H x = none) (hd : H dx = none) : Same H H' := fun a u q => by
  have h1 : a ≠ x := fun z => by rw [z, hx] at q; cases q
  have h2 : a ≠ dx := fun z => by rw [z, hd] at q; cases q
  exact b a h1 u (by rw [upd_ne h1, upd_ne h2]; exact q)
theorem made_same {x dx : Addr} {H : Hp} {o o' : HO} (hx : H x = none) (hd : H dx = none) (u : HO) : Same H (upd (upd (upd H dx o) x o') x u) := But.same (But.at x _ u) hx hd
theorem SqL.but {K : PySem.W.Frag} {H H' : Hp} {x t C dx : Addr} {fs : List (Str × V)} {xs : List V} (h : SqL K H t xs) (hx : H x = some (.ins C dx fs)) (b : But x H H') : SqL K H' t xs := by
  rcases h with (h | ⟨o, h⟩) | h
  · exact .inl (.inl (b t (fun z => by rw [z, hx] at h; cases h) _ h))
  · exact .inl (.inr ⟨o, b t (fun z => by rw [z, hx] at h; cases h) _ h⟩)
  · exact .inr h
theorem SqT.but {K : PySem.W.Frag} {H H' : Hp} {x t C dx : Addr} {fs : List (Str × V)} {xs : List V} (h : SqT K H t xs) (hx : H x = some (.ins C dx fs)) (b : But x H H') : SqT K H' t xs := by
  rcases h with (h | ⟨o, h⟩) | h
  · exact .inl (.inl (b t (fun z => by rw [z, hx] at h; cases h) _ h))
  · exact .inl (.inr ⟨o, b t (fun z => by rw [z, hx] at h; cases h) _ h⟩)
  · exact .inr h
theorem SqL.new {K : PySem.W.Frag} {H : Hp} {t x dx : Addr} {xs : List V} {o o' : HO} (h : SqL K H t xs) (hx : H x = none) (hd : H dx = none) : SqL K (upd (upd H dx o) x o') t xs :=
  Same.seq (fun a u q => by
    have h1 : a ≠ x := fun z => by rw [z, hx] at q; cases q
    have h2 : a ≠ dx := fun z => by rw [z, hd] at q; cases q
    rw [upd_ne h1, upd_ne h2]; exact q) h
end L2
namespace L2
open PySem
theorem new_none {H : Hp} {x dx p : Addr} {o o' : HO} (hx : H x = none) (hd : H dx = none) (h : upd (upd H dx o) x o' p = none) : H p = none := by
  unfold upd at h
  split at h
  · cases h
  · split at h
    · cases h
    · exact h
end L2
namespace L2
open PySem
theorem But.none {x p : Addr} {H H' : Hp} (b : But x H H') (e : p ≠ x) (h : H' p = Option.none) : H p = Option.none := by
  cases z : H p with
  | none => rfl
  | some o => exact absurd (h.symm.trans (b _ e _ z)) (by intro w; cases w)
end L2

/-! lists that hold the same things are equal, whatever the things are; int of a truth -/
set_option Elab.async false
set_option linter.all false
set_option maxRecDepth 100000
namespace L2
open PySem PySem.Spec PyProof.Rows
section
variable {X : Cx}
def flatR : V → Bool
  | .flt _ => false
  | .byt _ => false
  | _ => true
theorem eqAt_same {x : V} {u v : Value} (hx : flatR x = true) (ru : RelV x u) (rv : RelV x v) (A : Around) (s : Shared) : SeqAt.EqAt A s u v true := by
  cases x with
  | non => cases ru; cases rv; exact .same _
  | bl b => cases ru; cases rv; exact .same _
  | int i =>
    obtain ⟨t, rfl⟩ := ru
    obtain ⟨t', rfl⟩ := rv
    have := SeqAt.EqAt.int_int (A := A) (s := s) i t i t'
    rwa [beq_self_eq_true] at this
  | str y =>
    obtain ⟨t, rfl⟩ := ru
    obtain ⟨t', rfl⟩ := rv
    have := SeqAt.EqAt.str_str (A := A) (s := s) y t y t'
    rwa [beq_self_eq_true] at this
  | byt _ => cases hx
  | flt _ => cases hx
  | ref a => cases ru; cases rv; exact .same _
  | ty n => cases ru; cases rv; exact .same _
theorem o_eqS (hu : X.A.units + 64 < cLine) : OpR X (compareOp .Eq) (fun x y H Q => ∃ p q xs, x = .ref p ∧ y = .ref q ∧ SqL X.K H p xs ∧ SqL X.K H q xs ∧ xs.all flatR = true ∧ Q (.bl true) H) := by
  intro pins s σ H x y v u Q I rx ry h
  obtain ⟨p, q, xs, rfl, rfl, hp, hq, hf, k⟩ := h
  cases rx
  cases ry
  obtain ⟨its, r1, ⟨o, n, e1, c1, _, d1⟩, _⟩ := I.list hp
  obtain ⟨jts, r2, ⟨o2, n2, e2, c2, _, d2⟩, _⟩ := I.list hq
  have l1 := r1.length
  have l2 := r2.length
  refine SeqAt.eq_listAt (e := fun _ => true) ⟨o, e1, c1, n, d1⟩ ⟨o2, e2, c2, n2, d2⟩ (by simp; omega) (by omega) (fun j h1 h2 => ?_) ?_
  · simp at h1 h2
    obtain ⟨x, hx⟩ : ∃ x, xs[j]? = some x := ⟨xs[j]'(by omega), List.getElem?_eq_getElem (by omega)⟩
    obtain ⟨u1, g1, w1⟩ := r1.get hx
    obtain ⟨u2, g2, w2⟩ := r2.get hx
    have z1 : its.toArray[j]'(by simpa using h1) = u1 := by
      have := List.getElem?_eq_getElem h1
      rw [g1] at this
      simpa using (Option.some.inj this).symm
    have z2 : jts.toArray[j]'(by simpa using h2) = u2 := by
      have := List.getElem?_eq_getElem h2
      rw [g2] at this
      simpa using (Option.some.inj this).symm
    rw [z1, z2]
    exact eqAt_same (List.all_eq_true.mp hf x (List.mem_of_getElem? hx)) w1 w2 _ _
  · have : ((List.range its.toArray.size).all fun _ => true) = true := by simp
    rw [this]
    exact ⟨.bl true, H, I, rfl, k⟩
/-- two things of the heap compared: by what they hold, or as lists of the very same things -/
def fEqA (K : PySem.W.Frag) : R2 := fun x y H Q => match x, y with
  | .ref p, .ref q => (∃ d e, RepD K H (.ref p) d ∧ RepD K H (.ref q) e ∧ SeqAt.shaped d = true ∧ SeqAt.shaped e = true ∧ Q (.bl (PyData.eqv d e)) H) ∨ (∃ xs, SqL K H p xs ∧ SqL K H q xs ∧ xs.all flatR = true ∧ Q (.bl true) H)
  | x, y => scal x y = true ∧ Q (.bl (decide (x = y))) H
theorem o_eqA (hu : X.A.units + 64 < cLine) : OpR X (compareOp .Eq) (fEqA X.K) := ((o_eq hu).or (o_eqS hu)).imp fun x y H Q q => by
  by_cases hr : ∃ p q, x = V.ref p ∧ y = V.ref q
  · obtain ⟨p, q', rfl, rfl⟩ := hr
    rcases q with q | ⟨xs, h1, h2, h3, h4⟩
    · exact .inl q
    · exact .inr ⟨p, q', xs, rfl, rfl, h1, h2, h3, h4⟩
  · refine .inl ?_
    cases x <;> cases y <;> first | exact q | exact absurd ⟨_, _, rfl, rfl⟩ hr
theorem c_intB : CallR X (.type "int") (fun xs H Q => ∃ b, xs = [.bl b] ∧ Q (.int (if b = true then 1 else 0)) H) := by
  intro pins s σ H xs us Q I r h
  obtain ⟨b, rfl, q⟩ := h
  obtain ⟨u, rfl, rfl⟩ := vals1 r
  exact PySem.call_int_bool ⟨.int _, H, I.tok _, ⟨_, rfl⟩, q⟩
end
end L2

set_option Elab.async false
set_option linter.all false
set_option maxRecDepth 100000
namespace L2
open PySem PySem.Spec PyProof.Rows

/-! ### lists of pairs as tables -/
section
variable {κ : Type} [DecidableEq κ]
def valV (kvs : List (κ × V)) (k : κ) : Option V := (kvs.find? fun kv => decide (kv.1 = k)).map (·.2)
/-- in its place, or at the end -/
def putK (kvs : List (κ × V)) (k : κ) (v : V) : List (κ × V) :=
  if (kvs.any fun kv => decide (kv.1 = k)) = true then kvs.map (fun kv => if kv.1 = k then (kv.1, v) else kv) else kvs ++ [(k, v)]
def dropK (kvs : List (κ × V)) (k : κ) : List (κ × V) := kvs.filter fun kv => decide (kv.1 ≠ k)

theorem valV_nil {k : κ} : valV ([] : List (κ × V)) k = none := rfl
theorem valV_pos {p : κ × V} {r : List (κ × V)} {k : κ} (e : p.1 = k) : valV (p :: r) k = some p.2 := by simp [valV, List.find?_cons, e]
theorem valV_neg {p : κ × V} {r : List (κ × V)} {k : κ} (e : ¬ p.1 = k) : valV (p :: r) k = valV r k := by simp [valV, List.find?_cons, e]
theorem valV_any (k : κ) : ∀ kvs : List (κ × V), (kvs.any fun kv => decide (kv.1 = k)) = (valV kvs k).isSome
  | [] => rfl
  | p :: r => by
    rw [List.any_cons]
    by_cases e : p.1 = k
    · simp only [valV_pos e, decide_eq_true e, Bool.true_or, Option.isSome_some]
    · rw [valV_neg e, decide_eq_false e, Bool.false_or]; exact valV_any k r
theorem valV_map (k j : κ) (y : V) : ∀ kvs : List (κ × V), valV (kvs.map fun kv => if kv.1 = k then (kv.1, y) else kv) j = (valV kvs j).map fun x => if j = k then y else x
  | [] => rfl
  | p :: r => by
    have ih := valV_map k j y r
    rw [List.map_cons]
    by_cases h : p.1 = k
    · rw [if_pos h]
      by_cases e : p.1 = j
      · rw [valV_pos (p := (p.1, y)) e, valV_pos e, Option.map_some, if_pos (e.symm.trans h)]
      · rw [valV_neg (p := (p.1, y)) e, valV_neg e, ih]
    · rw [if_neg h]
      by_cases e : p.1 = j
      · rw [valV_pos (p := p) e, valV_pos e, Option.map_some, if_neg (fun z => h (e.trans z))]
      · rw [valV_neg (p := p) e, valV_neg e, ih]
theorem valV_snoc (k j : κ) (y : V) : ∀ kvs : List (κ × V), valV kvs k = none → valV (kvs ++ [(k, y)]) j = if j = k then some y else valV kvs j
  | [], _ => by
    by_cases e : k = j
    · rw [if_pos e.symm]; exact valV_pos (p := (k, y)) e
    · rw [if_neg (fun z => e z.symm)]; exact valV_neg (p := (k, y)) e
  | p :: r, hn => by
    rw [List.cons_append]
    have hk : ¬ p.1 = k := fun z => by rw [valV_pos z] at hn; cases hn
    rw [valV_neg hk] at hn
    have ih := valV_snoc k j y r hn
    by_cases e : p.1 = j
    · rw [valV_pos e, valV_pos e, if_neg (fun z => hk (e.trans z))]
    · rw [valV_neg e, valV_neg e, ih]
theorem valV_put (kvs : List (κ × V)) (k j : κ) (y : V) : valV (putK kvs k y) j = if j = k then some y else valV kvs j := by
  unfold putK
  by_cases a : (kvs.any fun kv => decide (kv.1 = k)) = true
  · rw [if_pos a, valV_map]
    rw [valV_any] at a
    by_cases e : j = k
    · obtain ⟨x, hx⟩ := Option.isSome_iff_exists.mp a
      rw [if_pos e, e, hx, Option.map_some, if_pos rfl]
    · rw [if_neg e]
      cases valV kvs j with
      | none => rfl
      | some x => rw [Option.map_some, if_neg e]
  · rw [if_neg a]
    refine valV_snoc k j y kvs ?_
    rw [valV_any] at a
    cases q : valV kvs k with
    | none => rfl
    | some x => rw [q] at a; exact (a rfl).elim
theorem length_putK (kvs : List (κ × V)) (k : κ) (v : V) : (putK kvs k v).length ≤ kvs.length + 1 := by
  unfold putK
  split
  · rw [List.length_map]; omega
  · rw [List.length_append, List.length_cons, List.length_nil]; omega
theorem putK_new {kvs : List (κ × V)} {k : κ} (v : V) (h : valV kvs k = none) : putK kvs k v = kvs ++ [(k, v)] := by
  unfold putK
  rw [valV_any, h]
  exact if_neg (by decide)

theorem RelO.isSome_eq {o : Option V} {u : Option Value} (r : RelO o u) : o.isSome = u.isSome := by
  cases o with
  | none => cases u with
    | none => rfl
    | some _ => exact (show False from r).elim
  | some _ => cases u with
    | none => exact (show False from r).elim
    | some _ => rfl
theorem RelO.getD {o : Option V} {u : Option Value} {d : V} {d' : Value} (r : RelO o u) (rd : RelV d d') : RelV (o.getD d) (u.getD d') := by
  cases o with
  | none => cases u with
    | none => exact rd
    | some _ => exact (show False from r).elim
  | some _ => cases u with
    | none => exact (show False from r).elim
    | some _ => exact r

/-- raw tables of the same keys -/
theorem KV.val {kvs : List (κ × V)} {vs : List (κ × Value)} (r : KV kvs vs) (k : κ) : RelO (valV kvs k) (valueAt vs k) := by
  unfold KV at r
  induction r with
  | nil => exact True.intro
  | @cons p q ps qs h t ih =>
    obtain ⟨h1, h2⟩ := h
    by_cases e : p.1 = k
    · have e' : q.1 = k := h1.symm.trans e
      have b : valueAt (q :: qs) k = some q.2 := by simp [valueAt, List.find?_cons, e']
      rw [valV_pos e, b]; exact h2
    · have e' : ¬ q.1 = k := fun z => e (h1.trans z)
      have b : valueAt (q :: qs) k = valueAt qs k := by simp [valueAt, List.find?_cons, e']
      rw [valV_neg e, b]; exact ih
theorem KV.any {kvs : List (κ × V)} {vs : List (κ × Value)} (r : KV kvs vs) (k : κ) : (kvs.any fun kv => decide (kv.1 = k)) = vs.any fun kv => decide (kv.1 = k) := by
  unfold KV at r
  induction r with
  | nil => rfl
  | cons h t ih => rw [List.any_cons, List.any_cons, ih, h.1]
theorem KV.repl {kvs : List (κ × V)} {vs : List (κ × Value)} (r : KV kvs vs) (k : κ) {y : V} {u : Value} (ry : RelV y u) :
    KV (kvs.map fun kv => if kv.1 = k then (kv.1, y) else kv) (vs.map fun kv => if kv.1 = k then (kv.1, u) else kv) := by
  unfold KV at r ⊢
  induction r with
  | nil => exact .nil
  | @cons p q ps qs h t ih =>
    rw [List.map_cons, List.map_cons]
    refine .cons ?_ ih
    obtain ⟨h1, h2⟩ := h
    by_cases e : p.1 = k
    · rw [if_pos e, if_pos (h1.symm.trans e)]; exact ⟨h1, ry⟩
    · rw [if_neg e, if_neg (fun z => e (h1.trans z))]; exact ⟨h1, h2⟩
theorem KV.put {kvs : List (κ × V)} {vs : List (κ × Value)} (r : KV kvs vs) (k : κ) {y : V} {u : Value} (ry : RelV y u) : KV (putK kvs k y) (stored vs k u) := by
  unfold putK stored
  rw [r.any k]
  by_cases e : (vs.any fun kv => decide (kv.1 = k)) = true
  · rw [if_pos e, if_pos e]; exact r.repl k ry
  · rw [if_neg e, if_neg e]; exact Paired.snoc r ⟨rfl, ry⟩
theorem KV.drop {kvs : List (κ × V)} {vs : List (κ × Value)} (r : KV kvs vs) (k : κ) : KV (dropK kvs k) (without vs k) := by
  unfold KV at r ⊢
  unfold dropK without
  induction r with
  | nil => exact .nil
  | @cons p q ps qs h t ih =>
    obtain ⟨h1, h2⟩ := h
    rw [List.filter_cons, List.filter_cons]
    by_cases e : p.1 = k
    · have a : ¬ decide (p.1 ≠ k) = true := by simp [e]
      have b : ¬ decide (q.1 ≠ k) = true := by simp [h1.symm.trans e]
      rw [if_neg a, if_neg b]; exact ih
    · have e' : ¬ q.1 = k := fun z => e (h1.trans z)
      have a : decide (p.1 ≠ k) = true := by simp [e]
      have b : decide (q.1 ≠ k) = true := by simp [e']
      rw [if_pos a, if_pos b]; exact .cons ⟨h1, h2⟩ ih
theorem KV.keys {kvs : List (κ × V)} {vs : List (κ × Value)} (r : KV kvs vs) : kvs.map (·.1) = vs.map (·.1) := by
  unfold KV at r
  induction r with
  | nil => rfl
  | cons h t ih => rw [List.map_cons, List.map_cons, ih, h.1]
theorem KV.length {kvs : List (κ × V)} {vs : List (κ × Value)} (r : KV kvs vs) : kvs.length = vs.length := Paired.length r
theorem dropK_le (kvs : List (κ × V)) (k : κ) : (dropK kvs k).length ≤ kvs.length := List.length_filter_le _ _
end


/-! ### a tracked dict, its keys ints and texts or tuples of these -/
theorem kV_is {P : Program} {w : World} {k : Key} {u : Value} (r : RelV (kV k) u) : (mixKind P w).is k u = true := by
  cases k with
  | inl i => obtain ⟨t, e⟩ := (show ∃ t, u = Value.int i t from r); subst e; exact mixKind_int P w i t
  | inr x => obtain ⟨t, e⟩ := (show ∃ t, u = Value.str x t from r); subst e; exact mixKind_str P w x t
theorem kV_inj {a b : Key} (e : kV a = kV b) : a = b := by
  cases a with
  | inl i => cases b with
    | inl j => have e' : V.int i = V.int j := e; injection e' with e'; rw [e']
    | inr y => exact nomatch (show V.int i = V.str y from e)
  | inr x => cases b with
    | inl j => exact nomatch (show V.str x = V.int j from e)
    | inr y => have e' : V.str x = V.str y := e; injection e' with e'; rw [e']
theorem kVs_inj : ∀ {a b : List Key}, a.map kV = b.map kV → a = b
  | [], [], _ => rfl
  | [], _ :: _, e => by simp at e
  | _ :: _, [], e => by simp at e
  | x :: xs, y :: ys, e => by
    rw [List.map_cons, List.map_cons] at e
    injection e with e1 e2
    rw [kV_inj e1, kVs_inj e2]
theorem items_are {P : Program} {w : World} : ∀ {ks : List Key} {us : List Value}, Vals (ks.map kV) us → ItemsAre (mixKind P w) ks us
  | [], _, r => by rw [List.map_nil] at r; cases r; exact .nil
  | k :: ks, _, r => by
    rw [List.map_cons] at r
    cases r with
    | cons h t => exact .cons (kV_is h) (items_are t)

/-- raw entries of a dict with tuple keys -/
abbrev KT (H : Hp) : List (List Key × V) → List (List Key × Addr × Value) → Prop := Paired fun p q => p.1 = q.1 ∧ H q.2.1 = some (.tup (p.1.map kV)) ∧ RelV p.2 q.2.2
theorem KT.val {H : Hp} {kvs : List (List Key × V)} {xs : List (List Key × Addr × Value)} (r : KT H kvs xs) (k : List Key) : RelO (valV kvs k) ((atKey xs k).map (·.2)) := by
  induction r with
  | nil => exact True.intro
  | @cons p q ps qs h t ih =>
    obtain ⟨h1, _, h2⟩ := h
    by_cases e : p.1 = k
    · have e' : q.1 = k := h1.symm.trans e
      have b : atKey (q :: qs) k = some q.2 := by simp [atKey, List.find?_cons, e']
      rw [valV_pos e, b]; exact h2
    · have e' : ¬ q.1 = k := fun z => e (h1.trans z)
      have b : atKey (q :: qs) k = atKey qs k := by simp [atKey, List.find?_cons, e']
      rw [valV_neg e, b]; exact ih
theorem KT.repl {H : Hp} {kvs : List (List Key × V)} {xs : List (List Key × Addr × Value)} (r : KT H kvs xs) (k : List Key) {y : V} {u : Value} (ry : RelV y u) :
    KT H (kvs.map fun kv => if kv.1 = k then (kv.1, y) else kv) (xs.map (putAt k u)) := by
  induction r with
  | nil => exact .nil
  | @cons p q ps qs h t ih =>
    rw [List.map_cons, List.map_cons]
    refine .cons ?_ ih
    obtain ⟨h1, h2, h3⟩ := h
    unfold putAt
    by_cases e : p.1 = k
    · rw [if_pos e, if_pos (h1.symm.trans e)]; exact ⟨h1, h2, ry⟩
    · rw [if_neg e, if_neg (fun z => e (h1.trans z))]; exact ⟨h1, h2, h3⟩
theorem KT.put {H : Hp} {kvs : List (List Key × V)} {xs : List (List Key × Addr × Value)} (r : KT H kvs xs) (k : List Key) {b : Addr} {y : V} {u : Value} (hb : H b = some (.tup (k.map kV))) (ry : RelV y u) :
    KT H (putK kvs k y) (storedH xs k b u) := by
  have e : (kvs.any fun kv => decide (kv.1 = k)) = (atKey xs k).isSome := by
    rw [valV_any, (r.val k).isSome_eq, Option.isSome_map]
  unfold putK storedH
  rw [e]
  by_cases q : (atKey xs k).isSome = true
  · rw [if_pos q, if_pos q]; exact r.repl k ry
  · rw [if_neg q, if_neg q]; exact Paired.snoc r ⟨rfl, hb, ry⟩
theorem KT.keeps {H H' : Hp} {kvs : List (List Key × V)} {xs : List (List Key × Addr × Value)} (r : KT H kvs xs) (ht : ∀ b ys, H b = some (.tup ys) → H' b = some (.tup ys)) : KT H' kvs xs :=
  Paired.mapP r fun _ _ z => ⟨z.1, ht _ _ z.2.1, z.2.2⟩

section
variable {P : Program} {w : World} {H : Hp} {h : Heap} {a : Addr}
theorem rd_of {u : HO} (ok : HOk P w H h) (e : Rd H a u) : ObjOk P w H h a u := e.ok ok
theorem dk_rd {kvs : List (Key × V)} (ok : HOk P w H h) (e : Rd H a (.dK kvs)) : kvs.length ≤ sizeLine ∧ (a == sysModules) = false ∧ ∃ vs, KV kvs vs ∧ h.DictOf (mixKind P w) a vs :=
  show ObjOk P w H h a (.dK kvs) from rd_of ok e
theorem dk_of {kvs : List (Key × V)} (ok : HOk P w H h) (e : H a = some (.dK kvs)) : kvs.length ≤ sizeLine ∧ (a == sysModules) = false ∧ ∃ vs, KV kvs vs ∧ h.DictOf (mixKind P w) a vs := dk_rd ok (.inl e)
/-- a tracked tuple of ints and texts is a key -/
theorem key_of {ks : List Key} (ok : HOk P w H h) (e : H a = some (.tup (ks.map kV))) : (tupleKind (mixKind P w)).is h ks a := by
  obtain ⟨_, its, r, o, h1, h2, n, h3⟩ := (show ObjOk P w H h a (.tup (ks.map kV)) from ok a _ e)
  exact ⟨o, its.toArray, n, h1, h2, h3, by simpa using items_are r⟩
theorem dt_rd {kvs : List (List Key × V)} (ok : HOk P w H h) (e : Rd H a (.dT kvs)) : kvs.length ≤ sizeLine ∧ (a == sysModules) = false ∧
    ∃ xs, KT H kvs xs ∧ h.DictOfH (tupleKind (mixKind P w)) a xs := by
  obtain ⟨z, y, xs, r, o, es, ep, h1, h2, h3, h4, h5⟩ := (show ObjOk P w H h a (.dT kvs) from rd_of ok e)
  refine ⟨z, y, xs, r, o, es, ep, h1, h2, h3, h4, fun x hx => ?_, h5⟩
  have all : ∀ {l : List (List Key × V)} {m : List (List Key × Addr × Value)}, KT H l m → ∀ x ∈ m, (tupleKind (mixKind P w)).is h x.1 x.2.1 := by
    intro l m q
    induction q with
    | nil => intro x hx; exact nomatch hx
    | @cons p q ps qs hq t ih =>
      intro x hx
      rcases List.mem_cons.mp hx with e | hx
      · subst e
        exact key_of ok (by rw [← hq.1]; exact hq.2.1)
      · exact ih x hx
  exact all r x hx
theorem dt_of {kvs : List (List Key × V)} (ok : HOk P w H h) (e : H a = some (.dT kvs)) : kvs.length ≤ sizeLine ∧ (a == sysModules) = false ∧
    ∃ xs, KT H kvs xs ∧ h.DictOfH (tupleKind (mixKind P w)) a xs := dt_rd ok (.inl e)
end

/-- what the dict at a holds at the key y -/
def DGet (H : Hp) (a : Addr) (y : V) (r : Option V) : Prop :=
  (∃ kvs k, Rd H a (.dK kvs) ∧ y = kV k ∧ r = valV kvs k) ∨ ∃ kvs k b, Rd H a (.dT kvs) ∧ y = .ref b ∧ H b = some (.tup (k.map kV)) ∧ r = valV kvs k
/-- the heap behind a[y] = v -/
def DPut (H : Hp) (a : Addr) (y v : V) (H' : Hp) : Prop :=
  (∃ kvs k, H a = some (.dK kvs) ∧ y = kV k ∧ kvs.length < sizeLine ∧ H' = upd H a (.dK (putK kvs k v))) ∨
  ∃ kvs k b, H a = some (.dT kvs) ∧ y = .ref b ∧ H b = some (.tup (k.map kV)) ∧ kvs.length < sizeLine ∧ H' = upd H a (.dT (putK kvs k v))
theorem DGet.k {H : Hp} {a : Addr} {kvs : List (Key × V)} {k : Key} (e : H a = some (.dK kvs)) : DGet H a (kV k) (valV kvs k) := .inl ⟨kvs, k, .inl e, rfl, rfl⟩
theorem DGet.t {H : Hp} {a b : Addr} {kvs : List (List Key × V)} {k : List Key} (e : H a = some (.dT kvs)) (eb : H b = some (.tup (k.map kV))) : DGet H a (.ref b) (valV kvs k) := .inr ⟨kvs, k, b, .inl e, rfl, eb, rfl⟩
theorem DPut.k {H : Hp} {a : Addr} {kvs : List (Key × V)} {k : Key} {v : V} (e : H a = some (.dK kvs)) (hl : kvs.length < sizeLine) : DPut H a (kV k) v (upd H a (.dK (putK kvs k v))) := .inl ⟨kvs, k, e, rfl, hl, rfl⟩
theorem DPut.t {H : Hp} {a b : Addr} {kvs : List (List Key × V)} {k : List Key} {v : V} (e : H a = some (.dT kvs)) (eb : H b = some (.tup (k.map kV))) (hl : kvs.length < sizeLine) :
    DPut H a (.ref b) v (upd H a (.dT (putK kvs k v))) := .inr ⟨kvs, k, b, e, rfl, eb, hl, rfl⟩


section
variable {X : Cx} {pins : List (Addr × Obj)} {σ : St} {H : Hp} {s : Shared} {a : Addr} {y v : V} {u r : Value} {o : Option V} {A : Around} {E : Value → Shared → Prop}

theorem Inv.big (I : Inv X pins σ H s) : sysModules < s.heap.objs.size := by
  have h : mainGlobals < s.heap.objs.size := (I.mod.glob.keeps I.bk).lt
  exact Nat.lt_trans (by decide) h

/-- d[y], there -/
theorem d_getItem {Q : Value → Shared → Prop} (hu : A.units + 1 < cLine) (I : Inv X pins σ H s) (g : DGet H a y (some v)) (ry : RelV y u) (h : ∀ w' s', Inv X pins σ H s' → RelV v w' → Q w' s') :
    wpAny (model X.prog X.w) A (getItem (.ref a) u) Q E s := by
  rcases g with ⟨kvs, k, e, ey, l⟩ | ⟨kvs, k, b, e, ey, eb, l⟩
  · subst ey
    obtain ⟨z, hd, vs, rel, dd⟩ := dk_rd I.hok e
    obtain ⟨w', hw, rw'⟩ := RelO.some_of (v := v) (o := valueAt vs k) (by rw [l]; exact rel.val k)
    exact wpAny_getItem_of (kV_is ry) dd.mapOf hw (h w' _ (I.tok _) rw')
  · subst ey
    cases (show u = Value.ref b from ry)
    obtain ⟨z, hd, xs, rel, dd⟩ := dt_rd I.hok e
    obtain ⟨w', hw, rw'⟩ := RelO.some_of (v := v) (o := (atKey xs k).map (·.2)) (by rw [l]; exact rel.val k)
    obtain ⟨p, hp, hp2⟩ := Option.map_eq_some_iff.mp hw
    refine wpAny_getItem_heap (tupleKind_room_in1 hu) (key_of I.hok eb) dd hp ?_
    rw [hp2]
    exact h w' _ (I.tok _) rw'
/-- y in d -/
theorem d_in {Q : Value → Shared → Prop} (hu : A.units + 1 < cLine) (I : Inv X pins σ H s) (g : DGet H a y o) (ry : RelV y u) (h : ∀ s', Inv X pins σ H s' → Q (.bool o.isSome) s') :
    wpAny (model X.prog X.w) A (compareOp .In u (.ref a)) Q E s := by
  rcases g with ⟨kvs, k, e, ey, l⟩ | ⟨kvs, k, b, e, ey, eb, l⟩
  · subst ey
    obtain ⟨z, hd, vs, rel, dd⟩ := dk_rd I.hok e
    refine wpAny_in_of (kV_is ry) hd dd.mapOf ?_
    rw [← (rel.val k).isSome_eq, ← l]
    exact h _ (I.tok _)
  · subst ey
    cases (show u = Value.ref b from ry)
    obtain ⟨z, hd, xs, rel, dd⟩ := dt_rd I.hok e
    refine wpAny_in_heap (tupleKind_room_in1 hu) (key_of I.hok eb) hd dd ?_
    have q := (rel.val k).isSome_eq
    rw [Option.isSome_map] at q
    rw [← q, ← l]
    exact h _ (I.tok _)
theorem d_notIn {Q : Value → Shared → Prop} (hu : A.units + 1 < cLine) (I : Inv X pins σ H s) (g : DGet H a y o) (ry : RelV y u) (h : ∀ s', Inv X pins σ H s' → Q (.bool (!o.isSome)) s') :
    wpAny (model X.prog X.w) A (compareOp .NotIn u (.ref a)) Q E s := by
  rcases g with ⟨kvs, k, e, ey, l⟩ | ⟨kvs, k, b, e, ey, eb, l⟩
  · subst ey
    obtain ⟨z, hd, vs, rel, dd⟩ := dk_rd I.hok e
    refine wpAny_notIn_of (kV_is ry) hd dd.mapOf ?_
    rw [← (rel.val k).isSome_eq, ← l]
    exact h _ (I.tok _)
  · subst ey
    cases (show u = Value.ref b from ry)
    obtain ⟨z, hd, xs, rel, dd⟩ := dt_rd I.hok e
    refine wpAny_notIn_heap (tupleKind_room_in1 hu) (key_of I.hok eb) hd dd ?_
    have q := (rel.val k).isSome_eq
    rw [Option.isSome_map] at q
    rw [← q, ← l]
    exact h _ (I.tok _)
/-- a dict's object is replaced -/
theorem d_write {h' : Heap} {t' : Nat} {ob : HO} (I : Inv X pins σ H s) (mu : Mut (H a)) (hs : Heap.SameBut a s.heap h') (he : ∃ q, h'.get? a = some q) (new : ObjOk X.prog X.w (upd H a ob) h' a ob) :
    Inv X pins σ (upd H a ob) { s with heap := h', toks := t' } :=
  I.write (x := a) (e := a) mu (.inl rfl) (fun b q hb z => (hs.2 b hb).trans z) he new
theorem dk_new {P : Program} {w : World} {H' : Hp} {h' : Heap} {kvs : List (Key × V)} {vs : List (Key × Value)} (z : kvs.length ≤ sizeLine) (hd : (a == sysModules) = false) (rel : KV kvs vs) (dd : h'.DictOf (mixKind P w) a vs) :
    ObjOk P w H' h' a (.dK kvs) := ⟨z, hd, vs, rel, dd⟩
/-- d[y] = v -/
theorem d_setItem {H' : Hp} {Q : Unit → Shared → Prop} (hu : A.units + 1 < cLine) (I : Inv X pins σ H s) (g : DPut H a y v H') (ry : RelV y u) (rv : RelV v r) (h : ∀ s', Inv X pins σ H' s' → Q () s') :
    wpAny (model X.prog X.w) A (setItem (.ref a) u r) Q E s := by
  rcases g with ⟨kvs, k, e, ey, l, eH⟩ | ⟨kvs, k, b, e, ey, eb, l, eH⟩
  · subst ey eH
    obtain ⟨z, hd, vs, rel, dd⟩ := dk_of I.hok e
    have hz : vs.length ≤ sizeLine := by rw [← rel.length]; exact z
    have hl : (putK kvs k v).length ≤ sizeLine := by have := length_putK kvs k v; omega
    refine wpAny_setItem_pairs (hsz := hz) (kV_is ry) dd fun h' dd' hs => h _ ?_
    have he : ∃ q, h'.get? a = some q := let ⟨q, _, _, hq, _⟩ := dd'; ⟨q, hq⟩
    exact d_write I (by rw [e]; exact True.intro) hs he (dk_new hl hd (rel.put k rv) dd')
  · subst ey eH
    cases (show u = Value.ref b from ry)
    obtain ⟨z, hd, xs, rel, dd⟩ := dt_of I.hok e
    have hz : xs.length ≤ sizeLine := by rw [← Paired.length rel]; exact z
    have hl : (putK kvs k v).length ≤ sizeLine := by have := length_putK kvs k v; omega
    refine wpAny_setItem_heap (hsz := hz) (tupleKind_room_in1 hu) (key_of I.hok eb) dd fun h' dd' hs => h _ ?_
    obtain ⟨q, es, ep, hq, h2, h3, h4, _, h5⟩ := dd'
    refine d_write I (by rw [e]; exact True.intro) hs ⟨q, hq⟩ ⟨hl, hd, _, (rel.put k eb rv).keeps fun c ys ec => ?_, q, es, ep, hq, h2, h3, h4, h5⟩
    rw [upd_ne (ne_of ec e (fun z => nomatch z))]
    exact ec
end

section
variable {X : Cx} {pins : List (Addr × Obj)} {σ : St} {H : Hp} {s : Shared} {a : Addr} {kvs : List (Key × V)} {k : Key} {u : Value} {A : Around} {E : Value → Shared → Prop}
/-- del d[k] -/
theorem d_delItem {Q : Unit → Shared → Prop} (I : Inv X pins σ H s) (e : H a = some (.dK kvs)) (ry : RelV (kV k) u) (l : (valV kvs k).isSome = true) (h : ∀ s', Inv X pins σ (upd H a (.dK (dropK kvs k))) s' → Q () s') :
    wpAny (model X.prog X.w) A (delItem (.ref a) u) Q E s := by
  obtain ⟨z, hd, vs, rel, dd⟩ := dk_of I.hok e
  refine wpAny_delItem_slot dd.typeIs (by decide) PySem.F.slot_dict_delitem
    (call_meetsIn PySem.F.slot_dict_delitem dd.typeIs PySem.F.entry_dict_delitem (PySem.F.args_dict_delitem_2 _ _) (meets_dict_delitem_pairs (mixKind X.prog X.w) a (kV_is ry)) ⟨vs, dd, by rw [← rel.length]; exact z, by rw [← (rel.val k).isSome_eq]; exact l, fun h' dd' hs => h _ ?_⟩)
  have he : ∃ q, h'.get? a = some q := let ⟨q, _, _, hq, _⟩ := dd'; ⟨q, hq⟩
  exact d_write I (by rw [e]; exact True.intro) hs he (dk_new (Nat.le_trans (dropK_le kvs k) z) hd (rel.drop k) dd')
/-- d.pop(k[, x]), there -/
theorem d_pop {v : V} {more : List Value} {Q : Value → Shared → Prop} (I : Inv X pins σ H s) (e : H a = some (.dK kvs)) (ry : RelV (kV k) u) (l : valV kvs k = some v) (hm : more = [] ∨ ∃ x, more = [x])
    (h : ∀ w' s', Inv X pins σ (upd H a (.dK (dropK kvs k))) s' → RelV v w' → Q w' s') : wpAny (model X.prog X.w) A (call (.builtin "dict.pop") (.ref a :: u :: more)) Q E s := by
  obtain ⟨z, hd, vs, rel, dd⟩ := dk_of I.hok e
  obtain ⟨w', hw, rw'⟩ := RelO.some_of (v := v) (o := valueAt vs k) (by rw [← l]; exact rel.val k)
  have hp : (keyPart u).isSome = true := by
    cases k with
    | inl i => obtain ⟨t, q⟩ := (show ∃ t, u = Value.int i t from ry); subst q; rfl
    | inr x => obtain ⟨t, q⟩ := (show ∃ t, u = Value.str x t from ry); subst q; rfl
  have ha : argsOk "dict.pop" ⟨.ref a :: u :: more, []⟩ := by
    rcases hm with q | ⟨x, q⟩
    · subst q; exact PySem.F.args_dict_pop_2 _ _
    · subst q; exact PySem.F.args_dict_pop_3 _ _ _
  refine call_meetsIn PySem.F.slot_dict_pop dd.typeIs PySem.F.entry_dict_pop ha (meets_dict_pop_there (mixKind X.prog X.w) a (kV_is ry) more hm hp)
    ⟨vs, w', dd, by rw [← rel.length]; exact z, hw, fun h' dd' hs => h w' _ ?_ rw'⟩
  have he : ∃ q, h'.get? a = some q := let ⟨q, _, _, hq, _⟩ := dd'; ⟨q, hq⟩
  exact d_write I (by rw [e]; exact True.intro) hs he (dk_new (Nat.le_trans (dropK_le kvs k) z) hd (rel.drop k) dd')
/-- d.pop(k, x), not there -/
theorem d_popD {r : Value} {Q : Value → Shared → Prop} (I : Inv X pins σ H s) (e : H a = some (.dK kvs)) (ry : RelV (kV k) u) (l : valV kvs k = none) (h : ∀ s', Inv X pins σ H s' → Q r s') :
    wpAny (model X.prog X.w) A (call (.builtin "dict.pop") [.ref a, u, r]) Q E s := by
  obtain ⟨z, hd, vs, rel, dd⟩ := dk_of I.hok e
  have hn : valueAt vs k = none := RelO.none_of (by rw [← l]; exact rel.val k)
  have hp : (keyPart u).isSome = true := by
    cases k with
    | inl i => obtain ⟨t, q⟩ := (show ∃ t, u = Value.int i t from ry); subst q; rfl
    | inr x => obtain ⟨t, q⟩ := (show ∃ t, u = Value.str x t from ry); subst q; rfl
  exact call_meetsIn PySem.F.slot_dict_pop dd.typeIs PySem.F.entry_dict_pop (PySem.F.args_dict_pop_3 _ _ _) (meets_dict_pop_default (mixKind X.prog X.w) a (kV_is ry) hd hp r) ⟨vs, dd, hn, h _ (I.tok _)⟩
/-- d.clear() -/
theorem d_clear {Q : Value → Shared → Prop} (I : Inv X pins σ H s) (e : H a = some (.dK kvs)) (h : ∀ s', Inv X pins σ (upd H a (.dK [])) s' → Q .none s') : wpAny (model X.prog X.w) A (call (.builtin "dict.clear") [.ref a]) Q E s := by
  obtain ⟨z, hd, vs, rel, dd⟩ := dk_of I.hok e
  refine call_meetsIn PySem.F.slot_dict_clear dd.typeIs PySem.F.entry_dict_clear (PySem.F.args_dict_clear_1 _) (meets_dict_clear (mixKind X.prog X.w) a) ⟨vs, dd, by rw [← rel.length]; exact z, fun h' dd' hs => h _ ?_⟩
  have he : ∃ q, h'.get? a = some q := let ⟨q, _, _, hq, _⟩ := dd'; ⟨q, hq⟩
  exact d_write (t' := s.toks) I (by rw [e]; exact True.intro) hs he (dk_new (Nat.zero_le _) hd .nil dd')
/-- len(d) -/
theorem d_len {Q : Value → Shared → Prop} (I : Inv X pins σ H s) (e : Rd H a (.dK kvs)) (h : ∀ t s', Inv X pins σ H s' → Q (.int kvs.length t) s') : wpAny (model X.prog X.w) A (call (.builtin "len") [.ref a]) Q E s := by
  obtain ⟨z, hd, vs, rel, dd⟩ := dk_rd I.hok e
  refine call_len_dict hd dd (by rw [← rel.length]; rw [sizeLine_eq] at z; omega) ?_
  rw [← rel.length]
  exact h _ _ (I.tok _)
/-- if d -/
theorem d_truth {Q : Bool → Shared → Prop} (I : Inv X pins σ H s) (e : Rd H a (.dK kvs)) (h : ∀ s', Inv X pins σ H s' → Q (!kvs.isEmpty) s') : wpAny (model X.prog X.w) A (truthy (.ref a)) Q E s := by
  obtain ⟨z, hd, vs, rel, dd⟩ := dk_rd I.hok e
  refine wpAny_truthy_dict hd dd (by rw [← rel.length]; rw [sizeLine_eq] at z; omega) ?_
  have q : kvs.isEmpty = vs.isEmpty := by cases rel <;> rfl
  rw [← q]
  exact h _ (I.tok _)
end


/-! ### readings and rules -/
/-- the element of a subscription, not a slice -/
def NoSl (i : Expr) : Prop := ∀ ov iv, subscripted i false ov iv = operate [ov, iv] (getItem ov iv)
theorem subD_of {prog : Program} {w : World} {A : Around} {E : Value → Shared → Prop} {s : Shared} {env : Env} {value slice : Expr} {pos : Pos} {T id : String} {Q : Value → Shared → Prop}
    (hl : typeLookup (.type T) "__getitem__" = pure (some (.builtin id))) (hs : NoSl slice)
    (h : wpAny (model prog w) A (eval value env) (fun o s₁ => wpAny (model prog w) A (eval slice env) (fun i s₂ => s₂.TypeIs o T ∧ wpAny (model prog w) A (getItem o i) Q E s₂) E s₁) E s) :
    wpAny (model prog w) A (eval (.Subscript value slice pos) env) Q E s := by
  refine Subscript_ (wpAny_mono h (fun o s₁ h₁ => wpAny_mono h₁ (fun i s₂ h₂ => ?_) fun _ _ x => x) fun _ _ x => x)
  obtain ⟨hT, h₂⟩ := h₂
  unfold subscriptTail
  refine wpAny_bind ?_
  rw [getitemInPython_of_ne hT.not_modules]
  refine wpAny_bind (wpAny_specialOf hT hl ?_)
  have fin : wpAny (model prog w) A (subscripted slice false o i) (fun r s₃ => wpAny (model prog w) A (letTemporaryGo value o r >>= fun _ => pure r) Q E s₃) E s₂ := by
    rw [hs o i]
    exact wpAny_operating (wpAny_mono h₂ (fun r s₃ h₃ => wpAny_bind (wpAny_letTemporaryGo (wpAny_pure h₃))) fun _ _ x => x)
  first
    | exact wpAny_pure (wpAny_bind fin)
    | exact wpAny_bind (wpAny_pure (wpAny_bind fin))
    | exact wpAny_bind fin

theorem dict_typeIs {X : Cx} {pins : List (Addr × Obj)} {σ : St} {H : Hp} {s : Shared} {a : Addr} {y : V} {o : Option V} (I : Inv X pins σ H s) (g : DGet H a y o) : s.TypeIs (.ref a) "dict" := by
  rcases g with ⟨kvs, k, e, _, _⟩ | ⟨kvs, k, b, e, _, _, _⟩
  · obtain ⟨_, _, vs, _, dd⟩ := dk_rd I.hok e
    exact dd.typeIs
  · obtain ⟨_, _, xs, _, dd⟩ := dt_rd I.hok e
    exact dd.typeIs
theorem dict_noDict {X : Cx} {pins : List (Addr × Obj)} {σ : St} {H : Hp} {s : Shared} {a : Addr} {y : V} {o : Option V} (I : Inv X pins σ H s) (g : DGet H a y o) :
    ∀ b, Value.ref a = .ref b → ∃ ob, s.heap.get? b = some ob ∧ ob.dict = none := fun b q => by
  cases q
  rcases g with ⟨kvs, k, e, _, _⟩ | ⟨kvs, k, b, e, _, _, _⟩
  · obtain ⟨_, _, vs, _, ob, _, _, h1, h2, _⟩ := dk_rd I.hok e
    exact ⟨ob, h1, h2.2.1⟩
  · obtain ⟨_, _, xs, _, ob, _, _, h1, h2, _⟩ := dt_rd I.hok e
    exact ⟨ob, h1, h2.2.1⟩

/-- d[y] -/
def tDGet (td ty : TE) : TE := fun σ H Q => td σ H fun x H1 => ty σ H1 fun y H2 => ∃ a v, x = .ref a ∧ DGet H2 a y (some v) ∧ Q v H2
/-- y in d, y not in d -/
def tDIn (ty td : TE) : TE := fun σ H Q => ty σ H fun y H1 => td σ H1 fun x H2 => ∃ a o, x = .ref a ∧ DGet H2 a y o ∧ Q (.bl o.isSome) H2
def tDNotIn (ty td : TE) : TE := fun σ H Q => ty σ H fun y H1 => td σ H1 fun x H2 => ∃ a o, x = .ref a ∧ DGet H2 a y o ∧ Q (.bl (!o.isSome)) H2
/-- d[y] = v -/
def sDPut (td ty tv : TE) : TS := fun D σ H => tv σ H fun v H1 => td σ H1 fun x H2 => ty σ H2 fun y H3 => ∃ a H4, x = .ref a ∧ DPut H3 a y v H4 ∧ D.nx σ H4
/-- d[y] op= v -/
def sDAug (td ty tv : TE) (rd : V → V → Hp → VK → Prop) : TS := fun D σ H => td σ H fun x H1 => ty σ H1 fun y H2 => ∃ a v, x = .ref a ∧ DGet H2 a y (some v) ∧
  tv σ H2 fun y2 H3 => rd v y2 H3 fun z H4 => ∃ H5, DPut H4 a y z H5 ∧ D.nx σ H5
/-- del d[y] -/
def sDDel (td ty : TE) : TS := fun D σ H => td σ H fun x H1 => ty σ H1 fun y H2 => ∃ a kvs k, x = .ref a ∧ H2 a = some (.dK kvs) ∧ y = kV k ∧ (valV kvs k).isSome = true ∧ D.nx σ (upd H2 a (.dK (dropK kvs k)))

section
variable {X : Cx} {o i e value : Expr} {pos pos' tpos : Pos} {td ty tv : TE}
theorem pe_dget (hu : X.A.units + 1 < cLine) (ho : PE X o td) (hi : PE X i ty) (hs : NoSl i) : PE X (.Subscript o i pos) (tDGet td ty) := by
  intro pins s σ H Q I h
  refine subD_of PySem.F.slot_dict_getitem.lookup hs (thn (ho pins s σ H _ I h) fun u s1 ⟨x, H1, I1, rx, q1⟩ => thn (hi pins s1 σ H1 _ I1 q1) fun iv s2 ⟨y, H2, I2, ry, a, v, ex, g, q2⟩ => ?_)
  subst ex
  obtain rfl : u = Value.ref a := rx
  exact ⟨dict_typeIs I2 g, d_getItem hu I2 g ry fun w' s3 I3 rw' => ⟨v, H2, I3, rw', q2⟩⟩
theorem pc_din (hu : X.A.units + 1 < cLine) (hi : PE X i ty) (ho : PE X o td) : PC X .In i o (tDIn ty td) := by
  intro pins s σ H Q I h
  refine thn (hi pins s σ H _ I h) fun iv s1 ⟨y, H1, I1, ry, q1⟩ => thn (ho pins s1 σ H1 _ I1 q1) fun u s2 ⟨x, H2, I2, rx, a, ov, ex, g, q2⟩ => ?_
  subst ex
  obtain rfl : u = Value.ref a := rx
  exact d_in hu I2 g ry fun s3 I3 => ⟨.bl ov.isSome, H2, I3, rfl, q2⟩
theorem pc_dnotin (hu : X.A.units + 1 < cLine) (hi : PE X i ty) (ho : PE X o td) : PC X .NotIn i o (tDNotIn ty td) := by
  intro pins s σ H Q I h
  refine thn (hi pins s σ H _ I h) fun iv s1 ⟨y, H1, I1, ry, q1⟩ => thn (ho pins s1 σ H1 _ I1 q1) fun u s2 ⟨x, H2, I2, rx, a, ov, ex, g, q2⟩ => ?_
  subst ex
  obtain rfl : u = Value.ref a := rx
  exact d_notIn hu I2 g ry fun s3 I3 => ⟨.bl (!ov.isSome), H2, I3, rfl, q2⟩
theorem ps_dput (hu : X.A.units + 1 < cLine) (ho : PE X o td) (hi : PE X i ty) (hv : PE X value tv) (hs : swapsWith value (some (.Subscript o i pos')) pos.line X.env = pure false) :
    PS X (.Assign [.Subscript o i pos'] value pos) (sDPut td ty tv) := by
  intro pins s σ H D I h
  refine wpAny_Assign_Subscript (thn (hv pins s σ H _ I h) fun r s1 ⟨v, H1, I1, rv, q1⟩ => thn (ho pins s1 σ H1 _ I1 q1) fun u s2 ⟨x, H2, I2, rx, q2⟩ => thn (hi pins s2 σ H2 _ I2 q2) fun iv s3 ⟨y, H3, I3, ry, a, H4, ex, g, q3⟩ => ?_) hs
  subst ex
  obtain rfl : u = Value.ref a := rx
  exact d_setItem hu I3 g ry rv fun s4 I4 => ⟨σ, H4, I4, q3⟩
theorem ps_daug {op : Operator} {rd : V → V → Hp → VK → Prop} (hu : X.A.units + 1 < cLine) (ho : PE X o td) (hi : PE X i ty) (hv : PE X value tv) (hop : InOp X op rd)
    (ha : ∀ ov iv new, augStore i ov iv new = (do holding [new, ov, iv] (setItem ov iv new); release [new, ov, iv] []; pure .next)) : PS X (.AugAssign (.Subscript o i tpos) op value pos) (sDAug td ty tv rd) := by
  intro pins s σ H D I h
  refine wpAny_AugAssign_SubscriptAny (thn (ho pins s σ H _ I h) fun u s1 ⟨x, H1, I1, rx, q1⟩ => thn (hi pins s1 σ H1 _ I1 q1) fun iv s2 ⟨y, H2, I2, ry, a, v, ex, g, q2⟩ => ?_) ha
  subst ex
  obtain rfl : u = Value.ref a := rx
  refine d_getItem hu I2 g ry fun w' s3 I3 rw' => thn (hv pins s3 σ H2 _ I3 q2) fun w2 s4 ⟨y2, H3, I4, ry2, q3⟩ => thn (hop pins s4 σ H3 v y2 w' w2 _ I4 rw' ry2 q3) fun w3 s5 ⟨z, H4, I5, rz, H5, g5, q4⟩ => ?_
  exact d_setItem hu I5 g5 ry rz fun s6 I6 => ⟨σ, H5, I6, q4⟩
theorem ps_ddel (ho : PE X o td) (hi : PE X i ty) : PS X (.Delete [.Subscript o i tpos] pos) (sDDel td ty) := by
  intro pins s σ H D I h
  refine wpAny_Delete (wpAny_deleteEach_cons (wpAny_delete_Subscript (thn (ho pins s σ H _ I h) fun u s1 ⟨x, H1, I1, rx, q1⟩ => thn (hi pins s1 σ H1 _ I1 q1) fun iv s2 ⟨y, H2, I2, ry, a, kvs, k, ex, e, ey, l, q2⟩ => ?_)))
  subst ex ey
  obtain rfl : u = Value.ref a := rx
  exact d_delItem I2 e ry l fun s3 I3 => wpAny_deleteEach_nil ⟨σ, _, I3, q2⟩
end


/-! ### displays -/
theorem dk_empty {P : Program} {w : World} {H : Hp} (h : Heap) (hb : sysModules < h.objs.size) : ObjOk P w H (h.push { cls := .type "dict", data := .dict #[] }) h.objs.size (.dK []) :=
  ⟨Nat.zero_le _, beq_eq_false_iff_ne.mpr (Ne.symm (Nat.ne_of_lt hb)), [], .nil, Heap.DictOf.new h⟩
theorem dt_empty {P : Program} {w : World} {H : Hp} (h : Heap) (hb : sysModules < h.objs.size) : ObjOk P w H (h.push { cls := .type "dict", data := .dict #[] }) h.objs.size (.dT []) :=
  ⟨Nat.zero_le _, beq_eq_false_iff_ne.mpr (Ne.symm (Nat.ne_of_lt hb)), [], .nil, _, #[], 0, Heap.get?_push_size _ rfl, ⟨rfl, rfl, rfl⟩, rfl, rfl, List.nodup_nil⟩
/-- {}, to be a dict of the kind that is wanted -/
def tDNewK : TE := fun _ H Q => ∀ p, H p = none → Q (.ref p) (upd H p (.dK []))
def tDNewT : TE := fun _ H Q => ∀ p, H p = none → Q (.ref p) (upd H p (.dT []))
section
variable {X : Cx} {pos : Pos}
theorem pe_dnewK : PE X (.Dict [] [] pos) tDNewK := fun pins s σ H Q I h =>
  wpAny_Dict_empty ⟨.ref s.heap.objs.size, _, I.laid (a := s.heap.objs.size) (o := .dK []) (t' := s.toks) (fun _ _ q => Heap.get?_push_of_some _ q) (Nat.le_refl _) (dk_empty s.heap I.big), rfl, h _ (I.hok.fresh (Nat.le_refl _))⟩
theorem pe_dnewT : PE X (.Dict [] [] pos) tDNewT := fun pins s σ H Q I h =>
  wpAny_Dict_empty ⟨.ref s.heap.objs.size, _, I.laid (a := s.heap.objs.size) (o := .dT []) (t' := s.toks) (fun _ _ q => Heap.get?_push_of_some _ q) (Nat.le_refl _) (dt_empty s.heap I.big), rfl, h _ (I.hok.fresh (Nat.le_refl _))⟩
end

/-- the pairs of a display, from the left -/
def tPairs : List (TE × TE) → St → Hp → (List (V × V) → Hp → Prop) → Prop
  | [], _, H, Q => Q [] H
  | (tk, tv) :: r, σ, H, Q => tk σ H fun x H1 => tv σ H1 fun y H2 => tPairs r σ H2 fun ps H3 => Q ((x, y) :: ps) H3
abbrev VV : List (V × V) → List (Value × Value) → Prop := Paired fun p q => RelV p.1 q.1 ∧ RelV p.2 q.2
def PPs (X : Cx) (pos : Pos) (keys : List (Option Expr)) (values : List Expr) (trs : List (TE × TE)) : Prop :=
  ∀ (pins : List (Addr × Obj)) (s : Shared) (σ : St) (H : Hp) (Q : List (V × V) → Hp → Prop), Inv X pins σ H s → tPairs trs σ H Q →
    wpAny (model X.prog X.w) X.A (evalPairs (pairTrees keys values X.env pos)) (fun vs s' => ∃ ps H', Inv X pins σ H' s' ∧ VV ps vs ∧ Q ps H') X.xe s
theorem pps_nil {X : Cx} {pos : Pos} : PPs X pos [] [] [] := fun pins s σ H Q I h => pairTrees_nil_walk ⟨[], H, I, .nil, h⟩
theorem pps_cons {X : Cx} {pos : Pos} {k v : Expr} {ks : List (Option Expr)} {vs : List Expr} {tk tv : TE} {trs : List (TE × TE)} (hk : PE X k tk) (hv : PE X v tv) (hr : PPs X pos ks vs trs) :
    PPs X pos (some k :: ks) (v :: vs) ((tk, tv) :: trs) := fun pins s σ H Q I h =>
  pairTrees_cons_walk (thn (hk pins s σ H _ I h) fun u s1 ⟨x, H1, I1, rx, q1⟩ => thn (hv pins s1 σ H1 _ I1 q1) fun w2 s2 ⟨y, H2, I2, ry, q2⟩ =>
    thn (hr pins s2 σ H2 _ I2 q2) fun ws s3 ⟨ps, H3, I3, rel, q3⟩ => ⟨(x, y) :: ps, H3, I3, .cons ⟨rx, ry⟩ rel, q3⟩)

def mergeK (kvs more : List (Key × V)) : List (Key × V) := more.foldl (fun acc kv => putK acc kv.1 kv.2) kvs
theorem KV.merge : ∀ {more : List (Key × V)} {rs : List (Key × Value)} {kvs : List (Key × V)} {vs : List (Key × Value)}, KV more rs → KV kvs vs → KV (mergeK kvs more) (merged vs rs) := by
  intro more rs kvs vs r
  unfold KV at r
  induction r generalizing kvs vs with
  | nil => intro q; exact q
  | @cons p q ps qs h t ih =>
    intro r0
    have e : KV (putK kvs p.1 p.2) (stored vs q.1 q.2) := by
      have := r0.put p.1 h.2
      rw [← h.1]; exact this
    exact ih e
theorem length_mergeK : ∀ (more kvs : List (Key × V)), (mergeK kvs more).length ≤ kvs.length + more.length
  | [], kvs => by show kvs.length ≤ kvs.length + 0; omega
  | p :: r, kvs => by
    have h1 := length_mergeK r (putK kvs p.1 p.2)
    have h2 := length_putK kvs p.1 p.2
    show (mergeK (putK kvs p.1 p.2) r).length ≤ _
    rw [List.length_cons]; omega
theorem carries_of {P : Program} {w : World} : ∀ {kvs : List (Key × V)} {ws : List (Value × Value)}, VV (kvs.map fun kv => (kV kv.1, kv.2)) ws → ∃ rs, Carries (mixKind P w) ws rs ∧ KV kvs rs
  | [], _, r => by rw [List.map_nil] at r; cases r; exact ⟨[], True.intro, .nil⟩
  | p :: kvs, _, r => by
    rw [List.map_cons] at r
    cases r with
    | @cons a b as bs h t =>
      obtain ⟨rs, c, q⟩ := carries_of (P := P) (w := w) t
      obtain ⟨b1, b2⟩ := b
      exact ⟨(p.1, b2) :: rs, ⟨kV_is h.1, rfl, c⟩, .cons ⟨rfl, h.2⟩ q⟩
/-- {k: v, ..} with keys ints and texts; the new dict stands empty while the pairs are made -/
def tDisp (trs : List (TE × TE)) : TE := fun σ H Q => ∀ p, H p = none → tPairs trs σ (upd H p (.dK [])) fun ps H2 => H2 p = some (.dK []) ∧ ∃ kvs : List (Key × V), ps = kvs.map (fun kv => (kV kv.1, kv.2)) ∧ kvs.length ≤ 15 ∧ Q (.ref p) (upd H2 p (.dK (mergeK [] kvs)))
theorem pe_disp {X : Cx} {pos : Pos} {keys : List (Option Expr)} {values : List Expr} {trs : List (TE × TE)} (h : PPs X pos keys values trs) (hall : keys.all (·.isSome) = true) (hl : keys.length = values.length) (h0 : keys ≠ [])
    (h15 : keys.length ≤ 15) : PE X (.Dict keys values pos) (tDisp trs) := by
  intro pins s σ H Q I q
  have hn := I.hok.fresh (Nat.le_refl s.heap.objs.size)
  have I1 := I.laid (a := s.heap.objs.size) (o := .dK []) (h' := s.heap.push { cls := .type "dict", data := .dict #[] }) (t' := s.toks) (fun _ _ q => Heap.get?_push_of_some _ q) (Nat.le_refl _) (dk_empty s.heap I.big)
  refine wpAny_Dict_walk (knd := mixKind X.prog X.w) hall hl h0 h15 (thn (h pins _ σ _ _ I1 (q _ hn)) fun ws s2 ⟨ps, H2, I2, rel, e, kvs, ep, lk, q2⟩ => ?_)
  subst ep
  obtain ⟨rs, c, rk⟩ := carries_of (P := X.prog) (w := X.w) rel
  obtain ⟨z, hd, vs0, r0, dd⟩ := dk_of I2.hok e
  cases r0
  refine ⟨rs, c, dd, fun h' dd' hs => ⟨.ref s.heap.objs.size, _, ?_, rfl, q2⟩⟩
  have hz : (mergeK [] kvs).length ≤ sizeLine := by
    have h1 := length_mergeK kvs []
    rw [List.length_nil] at h1
    rw [sizeLine_eq]; omega
  have he : ∃ q, h'.get? s.heap.objs.size = some q := let ⟨q, _, _, hq, _⟩ := dd'; ⟨q, hq⟩
  exact d_write I2 (by rw [e]; exact True.intro) hs he (dk_new hz hd (rk.merge .nil) dd')


/-! ### methods -/
/-- a method call o.m(e) of a built-in, with one argument: what must be seen of the text -/
structure M1 (X : Cx) (o : Expr) (m : Str) (apos : Pos) (e : Expr) (cpos : Pos) : Prop where
  base : attributeBase o m X.env (eval o X.env) = eval o X.env
  few : ((backTo cpos (starEach [e] X.env)).all (fun x => !x.1) && (backToKw cpos (keywordEach [] X.env)).all (fun x => x.1.isSome)
    && decide (([e] : List Expr).length + ([] : List Keyword).length + (if ([] : List Keyword).isEmpty then 0 else 1) < 30)) = true
  line : (apos.endLine == cpos.line) = true
  trees : backTo cpos (starEach [e] X.env) = [(false, eval e X.env)]
structure M2 (X : Cx) (o : Expr) (m : Str) (apos : Pos) (e f : Expr) (cpos : Pos) : Prop where
  base : attributeBase o m X.env (eval o X.env) = eval o X.env
  few : ((backTo cpos (starEach [e, f] X.env)).all (fun x => !x.1) && (backToKw cpos (keywordEach [] X.env)).all (fun x => x.1.isSome)
    && decide (([e, f] : List Expr).length + ([] : List Keyword).length + (if ([] : List Keyword).isEmpty then 0 else 1) < 30)) = true
  line : (apos.endLine == cpos.line) = true
  trees : backTo cpos (starEach [e, f] X.env) = [(false, eval e X.env), (false, eval f X.env)]

/-- a is a dict, whatever its keys -/
def IsD (H : Hp) (a : Addr) : Prop := (∃ kvs, Rd H a (.dK kvs)) ∨ ∃ kvs, Rd H a (.dT kvs)
theorem isD_at {X : Cx} {pins : List (Addr × Obj)} {σ : St} {H : Hp} {s : Shared} {a : Addr} (I : Inv X pins σ H s) (d : IsD H a) :
    s.TypeIs (.ref a) "dict" ∧ (∀ b, Value.ref a = .ref b → ∃ ob, s.heap.get? b = some ob ∧ ob.dict = none) ∧ (a == sysModules) = false := by
  rcases d with ⟨kvs, e⟩ | ⟨kvs, e⟩
  · obtain ⟨_, hd, vs, _, dd⟩ := dk_rd I.hok e
    refine ⟨dd.typeIs, fun b q => ?_, hd⟩
    cases q
    obtain ⟨ob, _, _, h1, h2, _⟩ := dd
    exact ⟨ob, h1, h2.2.1⟩
  · obtain ⟨_, hd, xs, _, dd⟩ := dt_rd I.hok e
    refine ⟨dd.typeIs, fun b q => ?_, hd⟩
    cases q
    obtain ⟨ob, _, _, h1, h2, _⟩ := dd
    exact ⟨ob, h1, h2.2.1⟩

section
variable {X : Cx} {pins : List (Addr × Obj)} {σ : St} {H : Hp} {s : Shared} {a : Addr} {y d : V} {u r : Value} {o : Option V} {A : Around} {E : Value → Shared → Prop}
/-- d.get(y) -/
theorem d_get1 {Q : Value → Shared → Prop} (hu : A.units + 1 < cLine) (I : Inv X pins σ H s) (g : DGet H a y o) (ry : RelV y u) (h : ∀ w' s', Inv X pins σ H s' → RelV (o.getD .non) w' → Q w' s') :
    wpAny (model X.prog X.w) A (call (.builtin "dict.get") [.ref a, u]) Q E s := by
  rcases g with ⟨kvs, k, e, ey, l⟩ | ⟨kvs, k, b, e, ey, eb, l⟩
  · subst ey
    obtain ⟨z, hd, vs, rel, dd⟩ := dk_rd I.hok e
    refine call_meetsIn PySem.F.slot_dict_get dd.typeIs PySem.F.entry_dict_get (PySem.F.args_dict_get_2 _ _) (meets_dict_get (mixKind X.prog X.w) a (kV_is ry) hd) ⟨_, dd.mapOf, h _ _ (I.tok _) ?_⟩
    rw [l]
    exact (rel.val k).getD rfl
  · subst ey
    cases (show u = Value.ref b from ry)
    obtain ⟨z, hd, xs, rel, dd⟩ := dt_rd I.hok e
    refine call_meetsIn PySem.F.slot_dict_get dd.typeIs PySem.F.entry_dict_get (PySem.F.args_dict_get_2 _ _) (meetsH_dict_get (tupleKind (mixKind X.prog X.w)) a b hd) ⟨tupleKind_room_in1 hu, k, xs, key_of I.hok eb, dd, h _ _ (I.tok _) ?_⟩
    rw [l]
    exact (rel.val k).getD rfl
/-- d.get(y, x) -/
theorem d_get2 {Q : Value → Shared → Prop} (hu : A.units + 1 < cLine) (I : Inv X pins σ H s) (g : DGet H a y o) (ry : RelV y u) (rd : RelV d r) (h : ∀ w' s', Inv X pins σ H s' → RelV (o.getD d) w' → Q w' s') :
    wpAny (model X.prog X.w) A (call (.builtin "dict.get") [.ref a, u, r]) Q E s := by
  rcases g with ⟨kvs, k, e, ey, l⟩ | ⟨kvs, k, b, e, ey, eb, l⟩
  · subst ey
    obtain ⟨z, hd, vs, rel, dd⟩ := dk_rd I.hok e
    refine call_meetsIn PySem.F.slot_dict_get dd.typeIs PySem.F.entry_dict_get (PySem.F.args_dict_get_3 _ _ _) (meets_dict_get_default (mixKind X.prog X.w) a (kV_is ry) hd r) ⟨_, dd.mapOf, h _ _ (I.tok _) ?_⟩
    rw [l]
    exact (rel.val k).getD rd
  · subst ey
    cases (show u = Value.ref b from ry)
    obtain ⟨z, hd, xs, rel, dd⟩ := dt_rd I.hok e
    refine call_meetsIn PySem.F.slot_dict_get dd.typeIs PySem.F.entry_dict_get (PySem.F.args_dict_get_3 _ _ _) (meetsH_dict_get_default (tupleKind (mixKind X.prog X.w)) a b hd r) ⟨tupleKind_room_in1 hu, k, xs, key_of I.hok eb, dd, h _ _ (I.tok _) ?_⟩
    rw [l]
    exact (rel.val k).getD rd
end

def tDGet1 (td ty : TE) : TE := fun σ H Q => td σ H fun x H1 => ∃ a, x = .ref a ∧ IsD H1 a ∧ ty σ H1 fun y H2 => ∃ o, DGet H2 a y o ∧ Q (o.getD .non) H2
def tDGet2 (td ty tx : TE) : TE := fun σ H Q => td σ H fun x H1 => ∃ a, x = .ref a ∧ IsD H1 a ∧ ty σ H1 fun y H2 => tx σ H2 fun z H3 => ∃ o, DGet H3 a y o ∧ Q (o.getD z) H3
/-- d.pop(k): there; d.pop(k, x): there or not -/
def tDPop1 (td ty : TE) : TE := fun σ H Q => td σ H fun x H1 => ∃ a, x = .ref a ∧ IsD H1 a ∧ ty σ H1 fun y H2 => ∃ kvs k v, H2 a = some (.dK kvs) ∧ y = kV k ∧ valV kvs k = some v ∧ Q v (upd H2 a (.dK (dropK kvs k)))
def tDPop2 (td ty tx : TE) : TE := fun σ H Q => td σ H fun x H1 => ∃ a, x = .ref a ∧ IsD H1 a ∧ ty σ H1 fun y H2 => tx σ H2 fun z H3 => ∃ kvs k, H3 a = some (.dK kvs) ∧ y = kV k ∧
  (∀ v, valV kvs k = some v → Q v (upd H3 a (.dK (dropK kvs k)))) ∧ (valV kvs k = none → Q z H3)
section
variable {X : Cx} {o e f : Expr} {apos cpos : Pos} {td ty tx : TE}
theorem pe_dget1 (hu : X.A.units + 1 < cLine) (ho : PE X o td) (he : PE X e ty) (m : M1 X o "get" apos e cpos) : PE X (.Call (.Attribute o "get" apos) [e] [] cpos) (tDGet1 td ty) := by
  intro pins s σ H Q I h
  refine wpAny_Call_method m.base m.few m.line PySem.F.plainAttrs_dict PySem.F.slot_dict_get PySem.F.type_dict_get (thn (ho pins s σ H _ I h) fun u s1 ⟨x, H1, I1, rx, a, ex, d, q1⟩ => ?_)
  subst ex
  obtain rfl : u = Value.ref a := rx
  obtain ⟨t1, t2, _⟩ := isD_at I1 d
  refine ⟨t1, t2, ?_⟩
  rw [m.trees]
  refine Calls.callWith_builtin rfl (Calls.evalArgs_plain (Calls.spliced_cons (thn (he pins s1 σ H1 _ I1 q1) fun iv s2 ⟨y, H2, I2, ry, ov, g, q2⟩ => Calls.spliced_nil ?_)))
  exact d_get1 hu I2 g ry fun w' s3 I3 rw' => ⟨_, H2, I3, rw', q2⟩
theorem pe_dget2 (hu : X.A.units + 1 < cLine) (ho : PE X o td) (he : PE X e ty) (hf : PE X f tx) (m : M2 X o "get" apos e f cpos) : PE X (.Call (.Attribute o "get" apos) [e, f] [] cpos) (tDGet2 td ty tx) := by
  intro pins s σ H Q I h
  refine wpAny_Call_method m.base m.few m.line PySem.F.plainAttrs_dict PySem.F.slot_dict_get PySem.F.type_dict_get (thn (ho pins s σ H _ I h) fun u s1 ⟨x, H1, I1, rx, a, ex, d, q1⟩ => ?_)
  subst ex
  obtain rfl : u = Value.ref a := rx
  obtain ⟨t1, t2, _⟩ := isD_at I1 d
  refine ⟨t1, t2, ?_⟩
  rw [m.trees]
  refine Calls.callWith_builtin rfl (Calls.evalArgs_plain (Calls.spliced_cons (thn (he pins s1 σ H1 _ I1 q1) fun iv s2 ⟨y, H2, I2, ry, q2⟩ =>
    Calls.spliced_cons (thn (hf pins s2 σ H2 _ I2 q2) fun fv s3 ⟨z, H3, I3, rz, ov, g, q3⟩ => Calls.spliced_nil ?_))))
  exact d_get2 hu I3 g ry rz fun w' s4 I4 rw' => ⟨_, H3, I4, rw', q3⟩
theorem pe_dpop1 (ho : PE X o td) (he : PE X e ty) (m : M1 X o "pop" apos e cpos) : PE X (.Call (.Attribute o "pop" apos) [e] [] cpos) (tDPop1 td ty) := by
  intro pins s σ H Q I h
  refine wpAny_Call_method m.base m.few m.line PySem.F.plainAttrs_dict PySem.F.slot_dict_pop PySem.F.type_dict_pop (thn (ho pins s σ H _ I h) fun u s1 ⟨x, H1, I1, rx, a, ex, d, q1⟩ => ?_)
  subst ex
  obtain rfl : u = Value.ref a := rx
  obtain ⟨t1, t2, _⟩ := isD_at I1 d
  refine ⟨t1, t2, ?_⟩
  rw [m.trees]
  refine Calls.callWith_builtin rfl (Calls.evalArgs_plain (Calls.spliced_cons (thn (he pins s1 σ H1 _ I1 q1) fun iv s2 ⟨y, H2, I2, ry, kvs, k, v, ea, ey, l, q2⟩ => Calls.spliced_nil ?_)))
  subst ey
  exact d_pop I2 ea ry l (.inl rfl) fun w' s3 I3 rw' => ⟨v, _, I3, rw', q2⟩
theorem pe_dpop2 (ho : PE X o td) (he : PE X e ty) (hf : PE X f tx) (m : M2 X o "pop" apos e f cpos) : PE X (.Call (.Attribute o "pop" apos) [e, f] [] cpos) (tDPop2 td ty tx) := by
  intro pins s σ H Q I h
  refine wpAny_Call_method m.base m.few m.line PySem.F.plainAttrs_dict PySem.F.slot_dict_pop PySem.F.type_dict_pop (thn (ho pins s σ H _ I h) fun u s1 ⟨x, H1, I1, rx, a, ex, d, q1⟩ => ?_)
  subst ex
  obtain rfl : u = Value.ref a := rx
  obtain ⟨t1, t2, _⟩ := isD_at I1 d
  refine ⟨t1, t2, ?_⟩
  rw [m.trees]
  refine Calls.callWith_builtin rfl (Calls.evalArgs_plain (Calls.spliced_cons (thn (he pins s1 σ H1 _ I1 q1) fun iv s2 ⟨y, H2, I2, ry, q2⟩ =>
    Calls.spliced_cons (thn (hf pins s2 σ H2 _ I2 q2) fun fv s3 ⟨z, H3, I3, rz, kvs, k, ea, ey, q3, q4⟩ => Calls.spliced_nil ?_))))
  subst ey
  cases l : valV kvs k with
  | some v => exact d_pop I3 ea ry l (.inr ⟨fv, rfl⟩) fun w' s4 I4 rw' => ⟨v, _, I4, rw', q3 v l⟩
  | none => exact d_popD I3 ea ry l fun s4 I4 => ⟨z, H3, I4, rz, q4 l⟩
end

/-! ### dict(d): a copy -/
section
variable {X : Cx} {pins : List (Addr × Obj)} {σ : St} {H : Hp} {s : Shared} {a : Addr} {kvs : List (Key × V)} {A : Around} {E : Value → Shared → Prop}
theorem d_copyOf {Q : Value → Shared → Prop} (I : Inv X pins σ H s) (e : Rd H a (.dK kvs)) (h : ∀ p s', H p = none → Inv X pins σ (upd H p (.dK kvs)) s' → Q (.ref p) s') : wpAny (model X.prog X.w) A (call (.type "dict") [.ref a]) Q E s := by
  obtain ⟨z, hd, vs, rel, dd⟩ := dk_rd I.hok e
  refine kt_call_dict hd dd (by rw [← rel.length]; exact z) fun h' dd' hs => ?_
  refine h _ _ (I.hok.fresh (Nat.le_refl _)) (I.laid (a := s.heap.objs.size) (o := .dK kvs) (t' := s.toks) (fun b q hq => ?_) (Nat.le_refl _) (dk_new z (beq_eq_false_iff_ne.mpr (Ne.symm (Nat.ne_of_lt I.big))) rel dd'))
  exact (hs.2 b (Nat.ne_of_lt (Heap.lt_size hq))).trans (Heap.get?_push_of_some _ hq)
end


section
variable {X : Cx} {pins : List (Addr × Obj)} {σ : St} {H : Hp} {s : Shared} {a : Addr} {y : V} {u : Value} {A : Around} {E : Value → Shared → Prop}
/-- d[y], not there: a KeyError -/
theorem d_missing {Q : Value → Shared → Prop} (hu : A.units + 1 < cLine) (hh : A.handled = none) (I : Inv X pins σ H s) (g : DGet H a y none) (ry : RelV y u)
    (h : ∀ h' e t', Heap.NewExc s.heap h' e "KeyError" → E (.ref e) { s with heap := h', toks := t' }) : wpAny (model X.prog X.w) A (getItem (.ref a) u) Q E s := by
  rcases g with ⟨kvs, k, e, ey, l⟩ | ⟨kvs, k, b, e, ey, eb, l⟩
  · subst ey
    obtain ⟨z, hd, vs, rel, dd⟩ := dk_rd I.hok e
    have hn : valueAt vs k = none := RelO.none_of (by rw [l]; exact rel.val k)
    exact wpAny_getItem_missing_of (kV_is ry) hd hh dd.mapOf hn fun h' ex ne => h h' ex _ ne
  · subst ey
    cases (show u = Value.ref b from ry)
    obtain ⟨z, hd, xs, rel, dd⟩ := dt_rd I.hok e
    have hn : (atKey xs k).map (·.2) = none := RelO.none_of (by rw [l]; exact rel.val k)
    exact wpAny_getItem_missing_heap (tupleKind_room_in1 hu) (key_of I.hok eb) hd hh dd (Option.map_eq_none_iff.mp hn) fun h' ex ne => h h' ex _ ne
end
end L2

/-! dicts beside lists: places, stores, in, len, isinstance; what a dict of names holds -/
set_option Elab.async false
set_option linter.all false
set_option maxRecDepth 100000
namespace L2
open PySem PySem.Spec PyProof.Rows
section
variable {X : Cx}
theorem ix_dictK (hu : X.A.units + 64 < cLine) : IxR X (fun x y H Q => ∃ a v, x = .ref a ∧ DGet H a y (some v) ∧ Q v H) := by
  intro value slice pins s σ H x y v u Q I rx ry h hs
  obtain ⟨a, z, rfl, g, q⟩ := h
  cases rx
  have hT := dict_typeIs I g
  unfold subscriptTail
  refine wpAny_bind ?_
  rw [getitemInPython_of_ne hT.not_modules]
  refine wpAny_bind (wpAny_specialOf hT PySem.F.slot_dict_getitem.lookup ?_)
  have h₂ : wpAny (model X.prog X.w) X.A (getItem (.ref a) u) (EP X pins σ Q) X.xe s := d_getItem (by omega) I g ry fun w' s3 I3 rw' => ⟨z, H, I3, rw', q⟩
  have fin : wpAny (model X.prog X.w) X.A (subscripted slice false (.ref a) u) (fun r s₃ => wpAny (model X.prog X.w) X.A (letTemporaryGo value (.ref a) r >>= fun _ => pure r) (EP X pins σ Q) X.xe s₃) X.xe s := by
    rw [hs]
    exact wpAny_operating (wpAny_mono h₂ (fun r s₃ h₃ => wpAny_bind (wpAny_letTemporaryGo (wpAny_pure h₃))) fun _ _ x => x)
  first
    | exact wpAny_pure (wpAny_bind fin)
    | exact wpAny_bind (wpAny_pure (wpAny_bind fin))
    | exact wpAny_bind fin
/-- a place of a list, a tuple, a text, a dict -/
def fIxA (K : PySem.W.Frag) : R2 := fun x y H Q => match x, y with
  | .ref p, .int i => (∃ xs v, (SqL K H p xs ∨ SqT K H p xs) ∧ atI xs i = some v ∧ Q v H) ∨ (∃ v, DGet H p (.int i) (some v) ∧ Q v H)
  | .ref p, .str k => ∃ v, DGet H p (.str k) (some v) ∧ Q v H
  | .str z, .int i => ∃ c, z.length ≤ sizeLine ∧ atI z.cps.toList i = some c ∧ Q (.str ⟨#[c]⟩) H
  | _, _ => False
theorem ix_all (hu : X.A.units + 64 < cLine) : IxR X (fIxA X.K) := by
  intro value slice pins s σ H x y v u Q I rx ry h hs
  cases x with
  | ref p =>
    cases y with
    | int i =>
      rcases h with h | ⟨w, g, q⟩
      · exact ix_any value slice pins s σ H _ _ v u Q I rx ry h hs
      · exact ix_dictK hu value slice pins s σ H _ _ v u Q I rx ry ⟨p, w, rfl, g, q⟩ hs
    | str k =>
      obtain ⟨w, g, q⟩ := h
      exact ix_dictK hu value slice pins s σ H _ _ v u Q I rx ry ⟨p, w, rfl, g, q⟩ hs
    | _ => exact (show False from h).elim
  | str z =>
    cases y with
    | int i => exact ix_any value slice pins s σ H _ _ v u Q I rx ry h hs
    | _ => exact (show False from h).elim
  | _ => cases y <;> exact (show False from h).elim
/-- the store of a place -/
theorem st_dictK (hu : X.A.units + 64 < cLine) : PSet X (fun o i v H Q => ∃ a H', o = .ref a ∧ DPut H a i v H' ∧ Q H') := by
  intro pins s σ H o i v ov iv u Q I ro ri rv h
  obtain ⟨a, H', rfl, g, q⟩ := h
  cases ro
  exact d_setItem (by omega) I g ri rv fun s4 I4 => ⟨H', I4, q⟩
def fSetA : TSet := fun o i v H Q => match o, i with
  | .ref p, .int k => (∃ xs j, H p = some (.lst xs) ∧ ixN xs.length k = some j ∧ Q (upd H p (.lst (xs.set j v)))) ∨ (∃ H', DPut H p (.int k) v H' ∧ Q H')
  | .ref p, .str k => ∃ H', DPut H p (.str k) v H' ∧ Q H'
  | _, _ => False
theorem st_all (hu : X.A.units + 64 < cLine) (hl : PSet X rSetL) : PSet X fSetA := by
  intro pins s σ H o i v ov iv u Q I ro ri rv h
  cases o with
  | ref p =>
    cases i with
    | int k =>
      rcases h with ⟨xs, j, h1, h2, q⟩ | ⟨H', g, q⟩
      · exact hl pins s σ H _ _ v ov iv u Q I ro ri rv ⟨p, xs, k, j, rfl, rfl, h1, h2, q⟩
      · exact st_dictK hu pins s σ H _ _ v ov iv u Q I ro ri rv ⟨p, H', rfl, g, q⟩
    | str k =>
      obtain ⟨H', g, q⟩ := h
      exact st_dictK hu pins s σ H _ _ v ov iv u Q I ro ri rv ⟨p, H', rfl, g, q⟩
    | _ => exact (show False from h).elim
  | _ => cases i <;> exact (show False from h).elim
/-- in -/
theorem o_inD (hu : X.A.units + 64 < cLine) : OpR X (compareOp .In) (fun x y H Q => ∃ a o, y = .ref a ∧ DGet H a x o ∧ Q (.bl o.isSome) H) := by
  intro pins s σ H x y v u Q I rx ry h
  obtain ⟨a, o, rfl, g, q⟩ := h
  cases ry
  exact d_in (by omega) I g rx fun s3 I3 => ⟨.bl o.isSome, H, I3, rfl, q⟩
theorem o_notinD (hu : X.A.units + 64 < cLine) : OpR X (compareOp .NotIn) (fun x y H Q => ∃ a o, y = .ref a ∧ DGet H a x o ∧ Q (.bl (!o.isSome)) H) := by
  intro pins s σ H x y v u Q I rx ry h
  obtain ⟨a, o, rfl, g, q⟩ := h
  cases ry
  exact d_notIn (by omega) I g rx fun s3 I3 => ⟨.bl (!o.isSome), H, I3, rfl, q⟩
theorem o_inA (hu : X.A.units + 64 < cLine) : OpR X (compareOp .In) (fun x y H Q => fIn X.K false x y H Q ∨ ∃ a o, y = .ref a ∧ DGet H a x o ∧ Q (.bl o.isSome) H) := o_in.or (o_inD hu)
theorem o_notinA (hu : X.A.units + 64 < cLine) : OpR X (compareOp .NotIn) (fun x y H Q => fIn X.K true x y H Q ∨ ∃ a o, y = .ref a ∧ DGet H a x o ∧ Q (.bl (!o.isSome)) H) := o_notin.or (o_notinD hu)
theorem c_lenD : CallR X (.builtin "len") (fun xs H Q => ∃ a kvs, xs = [.ref a] ∧ Rd H a (.dK kvs) ∧ Q (.int (kvs.length : Nat)) H) := by
  intro pins s σ H xs us Q I r h
  obtain ⟨a, kvs, rfl, e, q⟩ := h
  obtain ⟨u, rfl, rfl⟩ := vals1 r
  exact d_len I e fun t s' I' => ⟨.int _, H, I', ⟨_, rfl⟩, q⟩
theorem c_dictD : CallR X (.type "dict") (fun xs H Q => ∃ a kvs, xs = [.ref a] ∧ Rd H a (.dK kvs) ∧ ∀ p, H p = none → Q (.ref p) (upd H p (.dK kvs))) := by
  intro pins s σ H xs us Q I r h
  obtain ⟨a, kvs, rfl, e, q⟩ := h
  obtain ⟨u, rfl, rfl⟩ := vals1 r
  exact d_copyOf I e fun p s' hp I' => ⟨.ref p, _, I', rfl, q p hp⟩
end
end L2

set_option Elab.async false
set_option linter.all false
set_option maxRecDepth 100000
namespace PySem
open Sem (wp)
section
variable {prog : Program} {w : World} {A : Around} {E : Value → Shared → Prop} {s : Shared}
theorem list_no_keys : typeLookup (.type "list") "keys" = pure none := am_miss_of_fast (by kernel_rfl)
theorem keys_of_list {a : Addr} {o : Obj} {xs : Array Value} {k : Nat} {Q : Option Value → Shared → Prop} (hx : s.heap.get? a = some o) (hc : o.cls = .type "list") (hdat : o.data = .seq xs k) (hd : o.dict = none) (hA : A.handled = none)
    (h : ∀ h' tk, (∀ b ob, s.heap.get? b = some ob → h'.get? b = some ob) → Q none { s with heap := h', toks := tk }) : wpAny (model prog w) A (getAttr? (.ref a) "keys") Q E s := by
  obtain ⟨c, dct, dat, sl⟩ := o
  simp only at hc hdat hd
  subst hc hdat hd
  obtain ⟨hp, g, d, tk, os⟩ := s
  have hT : ∀ tk', (⟨hp, g, d, tk', os⟩ : Shared).TypeIs (.ref a) "list" := fun _ => ⟨_, hx, rfl⟩
  have f1 := sub_AttributeError
  have f3 := F.slot_list_getattribute.lookup
  have f4 := F.slot_list_getattribute.bind (.ref a)
  have f5 := am_list_getattr_none
  have hmiss := list_no_keys
  have hname : (["__module__", "__name__", "__qualname__", "__doc__", "__annotations__"] : List Str).contains "keys" = false := by decide +kernel
  unfold getAttr? getAttrBy? getAttrBy
  repeat (any_goals (first | assumption | exact hT _ | ((with_reducible show wpAny _ _ (call (Value.builtin "list.__getattribute__") _ _) _ _ _); refine call_meets F.slot_list_getattribute (hT _) am_entry_list_getattribute (F.args_list_getattribute_2 _ _) (meets_getattribute_miss_list a xs k sl "keys" _ hmiss hname (by decide)) ⟨hx, hA, fun h' tk' e hx' => ?_⟩) | wp_step))
  obtain ⟨t', u', he⟩ := hx'.there
  have hTe : (⟨h', g, d, tk', os⟩ : Shared).TypeIs (.ref e) "AttributeError" := ⟨_, he, rfl⟩
  show wpAny _ _ (getattributeRaised _ _ _ _ _ _ _) _ _ _
  unfold getattributeRaised
  repeat (any_goals (first | assumption | wp_step))
  exact h _ _ hx'.keeps
end
end PySem
namespace L2
open PySem PySem.Spec PyProof.Rows
theorem entry_upd_loop : entryFor table "dict.update.loop" = some Builtin.«dict.update.loop» := entryFor_of_tree (by kernel_rfl)
theorem plain_upd_loop : plainId "dict.update.loop" = true := by decide +kernel
section
variable {X : Cx} {pins : List (Addr × Obj)} {σ : St} {H0 : Hp} {A : Around}
theorem pair_items {prog : Program} {w : World} {E : Value → Shared → Prop} {s : Shared} {t : Addr} {its : Array Value} {Q : List Value → Shared → Prop} (h : s.heap.IsTuple t its) (q : Q its.toList s) : wpAny (model prog w) A (Builtin.Dict.pairItems (.ref t)) Q E s := by
  obtain ⟨o, ho, hc, n, hd⟩ := h
  unfold Builtin.Dict.pairItems
  refine wpAny_bind (wpAny_typeOf ⟨o, ho, hc⟩ ?_)
  rw [if_pos (by decide)]
  refine wpAny_bind ?_
  obtain ⟨c, dct, dat, sl⟩ := o
  simp only at hc hd
  subst hc hd
  obtain ⟨hp, g, d, tk, os⟩ := s
  repeat (any_goals (first | assumption | wp_step))
theorem take_merge (kvs : List (Key × V)) (i : Nat) {k : Key} {v : V} (h : kvs[i]? = some (k, v)) : mergeK [] (kvs.take (i + 1)) = putK (mergeK [] (kvs.take i)) k v := by
  unfold mergeK
  rw [List.take_add_one, h, List.foldl_append]
  rfl
theorem upd_loop (hc : X.calm = true) {l p it : Addr} {ps : List Addr} {kvs : List (Key × V)} {R : Result → Shared → Prop} (hA : A.handled = none) (hl : SqL X.K H0 l (ps.map V.ref)) (hlen : ps.length = kvs.length) (hn : kvs.length ≤ 1000)
    (hps : ∀ (i : Nat) t k v, ps[i]? = some t → kvs[i]? = some (k, v) → SqT X.K H0 t [kV k, v]) (hp : H0 p = none)
    (fin : ∀ s', Inv X pins σ (upd H0 p (.dK (mergeK [] kvs))) s' → R (.ok (.ret .none)) s') :
    ∀ (n i : Nat) (s : Shared), n + i = ps.length → Inv X pins σ (upd H0 p (.dK (mergeK [] (kvs.take i)))) s → FpOk X pins (upd H0 p (.dK (mergeK [] (kvs.take i)))) it → s.heap.IsListIter it l i →
      codeAny (model X.prog X.w) A (.builtin "dict.update.loop" ⟨[.ref p, .ref it, rawInt i, .none], []⟩) R s := by
  intro n
  induction n with
  | zero =>
    intro i s hi I hf st
    refine codeAny_builtin entry_upd_loop ?_
    rw [Around.under_plainId plain_upd_loop _]
    have sm := Same.upd hp (.dK (mergeK [] (kvs.take i)))
    obtain ⟨its, rv, pl, hz⟩ := I.list (sm.seq hl)
    have hll := rv.length
    rw [List.length_map] at hll
    obtain ⟨f0, f1, f2, f3, f4, f5⟩ := hf
    unfold Builtin.«dict.update.loop»
    refine wpAny_bind (wpAny_pyNext_list_end hA st pl.isList (by simp; omega) fun h' eb => ?_)
    have I' : Inv X pins σ (upd H0 p (.dK (mergeK [] (kvs.take i)))) { s with heap := h' } := I.turned (t' := s.toks) (fun b o hb e => eb b o hb e) f0 f1 f3 f4 f5
    rw [List.take_of_length_le (by omega)] at I'
    exact wpAny_bind (wpAny_pure (wpAny_pure (fin _ I')))
  | succ n ih =>
    intro i s hi I hf st
    refine codeAny_builtin entry_upd_loop ?_
    rw [Around.under_plainId plain_upd_loop _]
    have sm := Same.upd hp (.dK (mergeK [] (kvs.take i)))
    obtain ⟨its, rv, pl, hz⟩ := I.list (sm.seq hl)
    have hll := rv.length
    rw [List.length_map] at hll
    obtain ⟨t, ht⟩ : ∃ t, ps[i]? = some t := ⟨ps[i]'(by omega), List.getElem?_eq_getElem (by omega)⟩
    obtain ⟨⟨k, v⟩, hk⟩ : ∃ kv, kvs[i]? = some kv := ⟨kvs[i]'(by omega), List.getElem?_eq_getElem (by omega)⟩
    obtain ⟨u, hu1, hu2⟩ := rv.get (x := .ref t) (i := i) (by rw [List.getElem?_map, ht]; rfl)
    cases hu2
    obtain ⟨f0, f1, f2, f3, f4, f5⟩ := hf
    unfold Builtin.«dict.update.loop»
    refine wpAny_bind (wpAny_pyNext_list_item st pl.isList (x := .ref t) (by simpa using hu1) fun h' st' sb => ?_)
    have I1 : Inv X pins σ (upd H0 p (.dK (mergeK [] (kvs.take i)))) { s with heap := h' } := I.turned (t' := s.toks) (fun b o hb e => (sb.2 b hb).trans e) f0 f1 f3 f4 f5
    obtain ⟨jts, rj, pt, _⟩ := I1.tuple (sm.tup (hps i t k v ht hk))
    obtain ⟨u1, u2, e12, r1, r2⟩ : ∃ u1 u2, jts = [u1, u2] ∧ RelV (kV k) u1 ∧ RelV v u2 := by
      cases rj with
      | cons r1 q => cases q with
        | cons r2 q => cases q; exact ⟨_, _, rfl, r1, r2⟩
    subst e12
    refine wpAny_bind (wpAny_holding (wpAny_bind (wpAny_tryCatch (pair_items pt ?_))))
    show wpAny _ _ (holding [u1, u2] (dictSet p u1 u2)) _ _ _
    refine wpAny_holding ?_
    obtain ⟨z, hd, vs, rel, dd⟩ := dk_of I1.hok (upd_same (H := H0) (a := p) (o := .dK (mergeK [] (kvs.take i))))
    have hz' : vs.length ≤ sizeLine := by rw [← rel.length]; exact z
    have hlk : (mergeK [] (kvs.take i)).length ≤ 1000 := by
      have := length_mergeK (kvs.take i) []
      rw [List.length_take, List.length_nil] at this
      omega
    have hlp : (putK (mergeK [] (kvs.take i)) k v).length ≤ sizeLine := by
      have h1 := length_putK (mergeK [] (kvs.take i)) k v
      have h2 := small1000 hlk
      omega
    refine wpAny_dictSet_pairs (hsz := hz') (kV_is r1) dd fun h2 dd' hs => ?_
    have he : ∃ q, h2.get? p = some q := let ⟨q, _, _, hq, _⟩ := dd'; ⟨q, hq⟩
    have I2 := d_write (t' := s.toks + 1) (ob := .dK (putK (mergeK [] (kvs.take i)) k v)) I1 (by rw [upd_same]; exact True.intro) hs he (dk_new hlp hd (rel.put k r2) dd')
    rw [upd_upd, ← take_merge kvs i hk] at I2
    have hne : it ≠ p := fun z => by rw [z, upd_same] at f0; cases f0
    have f0' : upd H0 p (.dK (mergeK [] (kvs.take (i + 1)))) it = none := by
      rw [upd_ne hne] at f0 ⊢
      exact f0
    refine wpAny_pure ⟨plainId_quiet plain_upd_loop _, ?_⟩
    have ec : ((i : Int) + 1) = ((i + 1 : Nat) : Int) := by push_cast; rfl
    rw [ec]
    exact ih (i + 1) _ (by omega) I2 ⟨f0', f1, f2, f3, f4, f5⟩ (st'.at fun o e => (hs.2 it hne).trans e)
/-- dict([(k, v), ..]) -/
theorem c_dictP (hc : X.calm = true := by rfl) : CallR X (.type "dict") (fun xs H Q => ∃ (l : Addr) (ps : List Addr) (kvs : List (Key × V)), xs = [.ref l] ∧ SqL X.K H l (ps.map V.ref) ∧ ps.length = kvs.length ∧ kvs.length ≤ 1000 ∧
    (∀ (i : Nat) t k v, ps[i]? = some t → kvs[i]? = some (k, v) → SqT X.K H t [kV k, v]) ∧ ∀ p, H p = none → Q (.ref p) (upd H p (.dK (mergeK [] kvs)))) := by
  intro pins s σ H xs us Q I r h
  obtain ⟨l, ps, kvs, rfl, hl, hlen, hn, hps, q⟩ := h
  obtain ⟨u, rfl, rfl⟩ := vals1 r
  have hA := I.ok.hd hc
  have hp := I.hok.fresh (Nat.le_refl s.heap.objs.size)
  have I1 := I.laid (a := s.heap.objs.size) (o := .dK []) (t' := s.toks) (h' := s.heap.push { cls := .type "dict", data := .dict #[] }) (fun _ _ q => Heap.get?_push_of_some _ q) (Nat.le_refl _) (dk_empty s.heap I.big)
  refine callType_codes (Q₁ := fun obj s₁ => obj = .ref s.heap.objs.size ∧ s₁ = { s with heap := s.heap.push { cls := .type "dict", data := .dict #[] } }) F.kt_called_dict (F.kt_typeCall_dict_1 _) F.entry_dict_init (kt_code_dict_new _ ⟨rfl, rfl⟩) ?_
  rintro obj s₁ ⟨rfl, rfl⟩
  have hnew : (s.heap.push { cls := .type "dict", data := .dict #[] }).DictOf (mixKind X.prog X.w) s.heap.objs.size [] := Heap.DictOf.new s.heap
  have sm := Same.upd hp (.dK [])
  obtain ⟨its, rv, pl, hz⟩ := I1.list (sm.seq hl)
  obtain ⟨o, n, ho, hoc, hod, hos⟩ := id pl
  refine ⟨hnew.typeIs, F.args_dict_init_2 _ _, ?_⟩
  unfold Builtin.«dict.__init__»
  refine wpAny_bind ?_
  unfold Builtin.Dict.selfAndRest
  refine wpAny_bind (wpAny_notOrdered_dict hnew.typeIs ?_)
  show wpAny _ _ (pure (s.heap.objs.size, [Value.ref l])) _ _ _
  refine wpAny_pure ?_
  show wpAny _ _ (Builtin.Dict.updateFrom "dict.__init__" s.heap.objs.size (.ref l) [] .none) _ _ _
  unfold Builtin.Dict.updateFrom
  refine wpAny_bind (wpAny_typeOf ⟨o, ho, hoc⟩ ?_)
  rw [if_pos (by decide)]
  refine wpAny_bind (keys_of_list ho hoc hos hod hA fun h2 tk2 k2 => ?_)
  have I2 : Inv X pins σ (upd H s.heap.objs.size (.dK [])) { s with heap := h2, toks := tk2 } := I1.kept (t' := tk2) k2
  rw [if_pos (show (none : Option Value).isNone = true from rfl)]
  obtain ⟨its2, rv2, pl2, _⟩ := I2.list (sm.seq hl)
  refine wpAny_bind (wpAny_rule (wpAny_bind (wpAny_pyIter_list pl2.isList ?_)))
  refine wpAny_pure ⟨plainId_quiet plain_upd_loop _, ?_⟩
  have I3 := I2.kept (h' := h2.push { cls := .type "list_iterator", data := .fields #[.ref l, .int 0 0] }) (t' := tk2) fun b o e => Heap.get?_push_of_some _ e
  have fp := I2.fpOk (H' := upd H s.heap.objs.size (.dK [])) (Nat.le_refl _) (I2.hok.fresh (Nat.le_refl _))
  refine upd_loop (X := X) (H0 := H) (A := X.A.in1) (p := s.heap.objs.size) (kvs := kvs) hc hA hl hlen hn hps hp (fun s' I' => ?_) ps.length 0 _ rfl I3 fp ⟨_, Heap.get?_push_size _ rfl, rfl, rfl⟩
  exact ⟨rfl, .ref s.heap.objs.size, _, I', rfl, q _ hp⟩
end
end L2

/-! loops over enumerate(list), over a dict's keys; list(dict) -/
set_option Elab.async false
set_option linter.all false
set_option maxRecDepth 100000
namespace L2
open PySem PySem.Spec PyProof.Rows
section
variable {X : Cx} {pins : List (Addr × Obj)} {σ : St} {H : Hp} {s : Shared}
/-- records of ours have turned -/
theorem Inv.turnedL {h' : Heap} {t' : Nat} {ch : List Addr} (I : Inv X pins σ H s) (hf : ∀ b ∈ ch, FpOk X pins H b) (k : ∀ b o, b ∉ ch → s.heap.get? b = some o → h'.get? b = some o) : Inv X pins σ H { s with heap := h', toks := t' } := by
  have nit : ∀ b u, H b = some u → b ∉ ch := fun b u e z => by rw [(hf b z).1] at e; cases e
  refine I.step (g' := s.gens) (d' := s.drawn) (ch := ch) (fun b hb => ⟨(hf b hb).2.2.2.1, (hf b hb).2.1, (hf b hb).2.2.2.2.1, (hf b hb).2.2.2.2.2⟩) (fun b o _ _ hc e _ => k b o hc e) (fun b o _ _ hc e _ => ⟨o.slots, k b o hc e⟩) (fun _ _ _ _ n => n)
    (fun b o hc e => ⟨o, k b o hc e⟩) (fun _ _ e => e) (fun _ _ _ e => e) (fun b ps e => ⟨#[], by rw [e]; simp⟩) (fun m hm => ?_) (fun b u e => ?_) I.bare
  · obtain ⟨o, es, ep, ho, r⟩ := hm
    exact ⟨o, es, ep, k _ o (fun z => (hf _ z).2.1 rfl) ho, r⟩
  · refine (I.hok b u e).stay (fun c v hc q => k c v ?_ q) (fun _ q => q) fun _ _ q => q
    rcases hc with rfl | hc
    · exact nit _ _ e
    · exact nit _ _ hc
/-- a young object that lies there is tracked from now on -/
theorem Inv.track {T : Addr} {u : HO} (I : Inv X pins σ H s) (hf : FpOk X pins H T) (hz : X.s₀.heap.objs.size ≤ T) (new : ObjOk X.prog X.w (upd H T u) s.heap T u) : Inv X pins σ (upd H T u) s := by
  obtain ⟨f0, f1, f2, f3, f4, f5⟩ := hf
  have ne0 : ∀ b o, X.s₀.heap.get? b = some o → b ≠ T := fun b o e => Nat.ne_of_lt (Nat.lt_of_lt_of_le (Heap.lt_size e) hz)
  have neS : ∀ b v, H b = some v → b ≠ T := fun b v e z => by rw [z, f0] at e; cases e
  refine ⟨I.ok, I.os, I.bare, ⟨I.base.keep, I.base.slot, fun b o e n hx => by rw [upd_ne (ne0 b o e)]; exact I.base.free b o e n hx, I.base.there, fun b xs e => by
      have := I.base.tups b xs e
      rw [upd_ne (neS b _ this)]; exact this, fun b o v e => by
      have := I.base.frzs b o v e
      rw [upd_ne (neS b _ this)]; exact this, fun b ps e => by
      obtain ⟨more, q⟩ := I.base.tbls b ps e
      exact ⟨more, by rw [upd_ne (neS b _ q)]; exact q⟩⟩, I.loc, I.cell, by rw [upd_ne (Ne.symm f1)]; exact I.free, fun x c e => by rw [upd_ne (f4 x c e)]; exact I.freeC x c e,
    fun p hp => by rw [upd_ne (f5 p hp)]; exact I.pin p hp, fun b v e => ?_, I.len⟩
  by_cases hb : b = T
  · subst hb; rw [upd_same] at e; cases e; exact new
  · rw [upd_ne hb] at e
    exact (I.hok b v e).stay (fun _ _ _ q => q) (fun c q => by rw [upd_ne (neS c _ q)]; exact q) fun c xs q => by rw [upd_ne (neS c _ q)]; exact q
/-- a thing is known no more -/
theorem Inv.thaw {a : Addr} {o : Obj} {u : HO} (I : Inv X pins σ H s) (e : H a = some (.frz o u)) (hn : ∀ o u, X.H₀ a ≠ some (.frz o u)) : Inv X pins σ (upd H a u) s := by
  have nn : ∀ b, H b = none → b ≠ a := fun b q z => by rw [z, e] at q; cases q
  have nt : ∀ b xs, H b = some (.tup xs) → b ≠ a := fun b xs q z => by rw [z, e] at q; cases q
  have nw : ∀ b x, H b = some (.own x) → b ≠ a := fun b x q z => by rw [z, e] at q; cases q
  have nb : ∀ b ps, H b = some (.tbl ps) → b ≠ a := fun b x q z => by rw [z, e] at q; cases q
  refine ⟨I.ok, I.os, I.bare, ⟨I.base.keep, I.base.slot, fun b o q n hx => by
      have := I.base.free b o q n hx
      rw [upd_ne (nn b this)]; exact this, I.base.there, fun b xs q => by
      have := I.base.tups b xs q
      rw [upd_ne (nt b xs this)]; exact this, fun b o v q => by
      have hb : b ≠ a := fun z => hn o v (by rw [← z]; exact q)
      rw [upd_ne hb]; exact I.base.frzs b o v q, fun b ps q => by
      obtain ⟨more, r⟩ := I.base.tbls b ps q
      exact ⟨more, by rw [upd_ne (nb b _ r)]; exact r⟩⟩, I.loc, I.cell, by rw [upd_ne (nn _ I.free)]; exact I.free, fun x c q => by rw [upd_ne (nn _ (I.freeC x c q))]; exact I.freeC x c q,
    fun p hp => by rw [upd_ne (nn _ (I.pin p hp).2.1)]; exact I.pin p hp, fun b v q => ?_, I.len⟩
  by_cases hb : b = a
  · subst hb
    rw [upd_same] at q; cases q
    exact (I.hok b _ e).2.stay (fun _ _ _ q => q) (fun c q => by rw [upd_ne (nw c _ q)]; exact q) fun c xs q => by rw [upd_ne (nt c _ q)]; exact q
  · rw [upd_ne hb] at q
    exact (I.hok b v q).stay (fun _ _ _ q => q) (fun c q => by rw [upd_ne (nw c _ q)]; exact q) fun c xs q => by rw [upd_ne (nt c _ q)]; exact q
theorem Inv.freeze {a : Addr} {o : Obj} {u : HO} (I : Inv X pins σ H s) (e : H a = some u) (mu : Mut (H a)) (ho : s.heap.get? a = some o) : Inv X pins σ (upd H a (.frz o u)) s := by
  have hk := I.hok a u e
  have := d_write (a := a) (h' := s.heap) (t' := s.toks) (ob := .frz o u) I mu ⟨rfl, fun _ _ => rfl⟩ ⟨o, ho⟩ ⟨ho, ?_⟩
  · exact this
  · have nw : ∀ b x, H b = some (.own x) → b ≠ a := fun b x q z => by rw [z] at q; rw [q] at mu; exact mu
    have nt : ∀ b xs, H b = some (.tup xs) → b ≠ a := fun b xs q z => by rw [z] at q; rw [q] at mu; exact mu
    exact hk.stay (fun _ _ _ q => q) (fun c q => by rw [upd_ne (nw c _ q)]; exact q) fun c xs q => by rw [upd_ne (nt c _ q)]; exact q
/-! ### enumerate -/
def Ite (K : PySem.W.Frag) (a : Addr) : It :=
  ⟨fun i H => ∃ xs x, SqL K H a xs ∧ xs[i]? = some x, fun i H x H' => ∃ T v, x = .ref T ∧ H T = none ∧ H' = upd H T (.tup [.int (i : Nat), v]) ∧ ∀ xs, SqL K H a xs → xs[i]? = some v, fun i H => ∃ xs, SqL K H a xs ∧ xs.length ≤ i⟩
theorem turn_enum {P : Program} {w : World} {K : PySem.W.Frag} {elts : List Expr} {x1} {pos : Pos} (a e it : Addr) (hne : e ≠ it) :
    Turn P w K (.Tuple elts x1 pos) (Ite K a) [e, it] e (fun i h => (∃ old, IsEnum h e it (i : Nat) old) ∧ h.IsListIter it a i) where
  mem := by simp
  obj := fun i h st b hb => by
    obtain ⟨⟨old, he⟩, o, e1, c, d⟩ := st
    rcases List.mem_cons.mp hb with rfl | hb
    · exact ⟨_, he, fun v z => by
        have z' : Data.fields _ = Data.cell v := z
        cases z'⟩
    · have : b = it := by simpa using hb
      subst this
      exact ⟨o, e1, fun v z => by rw [d] at z; cases z⟩
  keep := fun i h h' st k => by
    obtain ⟨⟨old, he⟩, hi⟩ := st
    exact ⟨⟨old, k e (by simp) _ he⟩, hi.at fun o e => k it (by simp) o e⟩
  item := by
    intro X hP hw hK hc i pins s σ H E I hf st hg
    subst hP hw hK
    obtain ⟨xs, x, hq, hx⟩ := hg
    obtain ⟨its, rv, p, hz⟩ := I.list hq
    obtain ⟨u, hu, ru⟩ := rv.get hx
    obtain ⟨⟨old, he⟩, hi⟩ := st
    have hT := I.fpOk (H' := H) (Nat.le_refl s.heap.objs.size) (I.hok.fresh (Nat.le_refl _))
    have hTe : s.heap.objs.size ≠ e := Nat.ne_of_gt (Heap.lt_size he)
    have hTi : s.heap.objs.size ≠ it := by obtain ⟨o, ho, _⟩ := hi; exact Nat.ne_of_gt (Heap.lt_size ho)
    refine wpAny_pyNext_enum_item he hi p.isList (x := u) (by simpa using hu) hne fun h' ho hi' hTo hsz hk => ?_
    have I1 : Inv X pins σ H { s with heap := h', toks := s.toks + 1 } := I.turnedL (ch := [e, it]) hf fun b o hb q => hk b o (fun z => hb (by simp [z])) (fun z => hb (by simp [z])) q
    have I2 := I1.track (u := .tup [.int (i : Nat), x]) hT I.sz ⟨by show 2 ≤ sizeLine; decide, [.int i s.toks, u], .cons ⟨_, rfl⟩ (.cons ru .nil), ⟨_, hTo, rfl, _, rfl⟩⟩
    refine ⟨_, rfl, wpAny_letOwnedTupleGo_enum (s := { s with heap := h', toks := s.toks + 1 }) ho fun h2 he2 hs2 => ?_⟩
    have f0 := hf e (by simp)
    refine ⟨.ref s.heap.objs.size, _, I2.turned (t' := s.toks + 1) (it := e) (fun b o hb q => (hs2.2 b hb).trans q) (by rw [upd_ne (Ne.symm hTe)]; exact f0.1) f0.2.1 f0.2.2.2.1 f0.2.2.2.2.1 f0.2.2.2.2.2, rfl,
      ⟨_, x, rfl, hT.1, rfl, fun ys hy => by rw [I.list_inj hy hq]; exact hx⟩, ⟨⟨_, by simpa using he2⟩, hi'.at fun o q => (hs2.2 it (Ne.symm hne)).trans q⟩, fun b hb => ?_⟩
    rw [upd_ne (fun z => by
      rcases List.mem_cons.mp hb with rfl | hb
      · exact hTe z.symm
      · have : b = it := by simpa using hb
        exact hTi (z.symm.trans this))]
    exact (hf b hb).1
  done := by
    intro X hP hw hK hc i pins s σ H E I hf st hg
    subst hP hw hK
    obtain ⟨xs, hq, hx⟩ := hg
    obtain ⟨its, rv, p, hz⟩ := I.list hq
    obtain ⟨⟨old, he⟩, hi⟩ := st
    have hl := rv.length
    obtain ⟨f0, f1, f2, f3, f4, f5⟩ := hf it (by simp)
    exact wpAny_pyNext_enum_end (I.ok.hd hc) he hi p.isList (by simp; omega) fun h' eb => ⟨rfl, I.turned (t' := s.toks) (it := it) (fun b o hb q => eb b o hb q) f0 f1 f3 f4 f5⟩
  self := fun _ _ _ _ _ st h => by
    obtain ⟨⟨old, he⟩, _⟩ := st
    exact wpAny_pyIter_enum he h
def iEnum (K : PySem.W.Frag) (ta : TA) : TI := fun σ H R => ta σ H fun vs H1 => ∃ a, vs = [.ref a] ∧ (∃ xs, SqL K H1 a xs) ∧ R (Ite K a) H1
theorem boot_enumerate' : bootBuiltins "enumerate" = some (.type "enumerate") := by decide +kernel
theorem pi_enum {a : Expr} {ta : TA} {p pos : Pos} {elts : List Expr} {x1} {pos2 : Pos} (hg : Gl X "enumerate") (hm : X.mg "enumerate" = none) (ha : PA X [a] ta) (hs : starEach [a] X.env = [(false, eval a X.env)] := by rfl) :
    PI X (.Tuple elts x1 pos2) (.Call (.Name "enumerate" p) [a] [] pos) (iEnum X.K ta) := by
  intro pins s σ H R I h
  refine Call_ (ld_blt I hg hm boot_enumerate' (PyProof.Rows.callWith_type1 (thn (ha pos pins s σ H _ I h) fun us s1 ⟨vs, H1, I1, r1, q1⟩ => ?_) hs rfl))
  obtain ⟨a, e, ⟨xs, hq⟩, q⟩ := q1
  subst e
  cases r1 with
  | cons r rr =>
    cases rr
    cases r
    obtain ⟨its, rv, p, hz⟩ := I1.list hq
    refine call_enumerate_list p.isList fun h' he hi hsz hk => ?_
    refine wpAny_pyIter_enum he ?_
    refine ⟨s1.heap.objs.size + 1, [s1.heap.objs.size + 1, s1.heap.objs.size], _, _, H1, rfl, I1.kept (t' := s1.toks) hk, turn_enum a _ _ (Nat.succ_ne_self _), ⟨⟨_, he⟩, hi⟩, fun b hb => ?_, q⟩
    rcases List.mem_cons.mp hb with rfl | hb
    · exact I1.fpOk (Nat.le_succ _) (I1.hok.fresh (Nat.le_succ _))
    · have e : b = s1.heap.objs.size := by simpa using hb
      subst e
      exact I1.fpOk (Nat.le_refl _) (I1.hok.fresh (Nat.le_refl _))
end
theorem for_enum {K : PySem.W.Frag} {a : Addr} {xs : List V} {g : TG} {tb : TS} {D : Ends} {σ : St} {H : Hp} (Pv : Nat → St → Hp → Prop) (h0 : Pv 0 σ H) (hl : ∀ i σ H, i ≤ xs.length → Pv i σ H → SqL K H a xs)
    (hs : ∀ i x σ H T, xs[i]? = some x → Pv i σ H → H T = none → g (.ref T) σ (upd H T (.tup [.int (i : Nat), x])) fun σ2 H2 => tb { D with nx := Pv (i + 1), ct := Pv (i + 1), bk := D.nx } σ2 H2) (hd : ∀ σ H, Pv xs.length σ H → D.nx σ H) :
    ∃ W : Nat → Nat → St → Hp → Prop, (∃ m, W 0 m σ H) ∧ ∀ i m σ H, W i m σ H →
      ((Ite K a).stop i H ∧ D.nx σ H) ∨ ((Ite K a).go i H ∧ ∃ N : St → Hp → Prop, (∀ σ' H', N σ' H' → ∃ m', m' < m ∧ W (i + 1) m' σ' H') ∧ ∀ x H', (Ite K a).yld i H x H' → g x σ H' fun σ2 H2 => tb { D with nx := N, ct := N, bk := D.nx } σ2 H2) := by
  refine ⟨fun i m σ H => m = xs.length - i ∧ i ≤ xs.length ∧ Pv i σ H, ⟨xs.length, by simp, Nat.zero_le _, h0⟩, ?_⟩
  rintro i m σ H ⟨rfl, hi, p⟩
  have q := hl i σ H hi p
  by_cases hlt : i < xs.length
  · refine .inr ⟨⟨xs, xs[i], q, by simp [hlt]⟩, Pv (i + 1), fun σ' H' p' => ⟨xs.length - (i + 1), by omega, rfl, hlt, p'⟩, fun x H' y => ?_⟩
    obtain ⟨T, v, rfl, hT, rfl, y⟩ := y
    exact hs i v σ _ T (y xs q) p hT
  · have e : i = xs.length := by omega
    subst e
    exact .inl ⟨⟨xs, q, Nat.le_refl _⟩, hd σ H p⟩
/-! ### a dict's keys -/
/-- the dict at d, known while it is walked -/
def Itd (d : Addr) (o : Obj) (kvs : List (Key × V)) : It :=
  ⟨fun i H => H d = some (.frz o (.dK kvs)) ∧ i < kvs.length, fun i H x H' => H' = H ∧ ∃ k v, kvs[i]? = some (k, v) ∧ x = kV k, fun i H => H d = some (.frz o (.dK kvs)) ∧ kvs.length ≤ i⟩
theorem is_kV {P : Program} {w : World} {k : Key} {u : Value} (h : (mixKind P w).is k u = true) : RelV (kV k) u := by
  cases k with
  | inl i => obtain ⟨t, e⟩ := Value.isInt_shape (show Value.isInt i u = true from h); exact ⟨t, e⟩
  | inr x => obtain ⟨t, e⟩ := Value.isStrOf_shape (show Value.isStrOf x u = true from h); exact ⟨t, e⟩
theorem dictAt_of {P : Program} {w : World} {H : Hp} {h : Heap} {d : Addr} {o : Obj} {kvs : List (Key × V)} {vs : List (Key × Value)} {ep : Nat} (dd : h.DictAt (mixKind P w) d vs ep) (ho : h.get? d = some o) {h' : Heap} (ho' : h'.get? d = some o) : h'.DictAt (mixKind P w) d vs ep := by
  obtain ⟨o2, es, e, r⟩ := dd
  rw [ho] at e; cases e
  exact ⟨o, es, ho', r⟩
section
variable {X : Cx}
theorem turn_dict {P : Program} {w : World} {K : PySem.W.Frag} {tg : Expr} (d it : Addr) (o : Obj) (kvs : List (Key × V)) (vs : List (Key × Value)) (ep : Nat) (rel : KV kvs vs) (hat : ∀ h : Heap, h.get? d = some o → h.DictAt (mixKind P w) d vs ep) :
    Turn P w K tg (Itd d o kvs) [it] it (fun i h => h.IsKeyIter it d i vs.length ep) where
  mem := by simp
  obj := fun i h st b hb => by
    have e : b = it := by simpa using hb
    subst e
    obtain ⟨o, e, c, d⟩ := st
    exact ⟨o, e, fun v z => by rw [d] at z; cases z⟩
  keep := fun i h h' st k => by
    obtain ⟨o, e, r⟩ := st
    exact ⟨o, k it (by simp) o e, r⟩
  item := by
    intro X hP hw hK hc i pins s σ H E I hf st hg
    subst hP hw hK
    obtain ⟨e, hlt⟩ := hg
    have hd := (show ObjOk X.prog X.w H s.heap d (.frz o (.dK kvs)) from I.hok d _ e).1
    have hl := rel.length
    obtain ⟨f0, f1, f2, f3, f4, f5⟩ := hf it (by simp)
    obtain ⟨⟨k, v⟩, hx⟩ : ∃ kv, vs[i]? = some kv := ⟨vs[i]'(by omega), List.getElem?_eq_getElem (by omega)⟩
    obtain ⟨⟨k', v'⟩, hx'⟩ : ∃ kv, kvs[i]? = some kv := ⟨kvs[i]'(by omega), List.getElem?_eq_getElem (by omega)⟩
    have hkk : k' = k := by
      have := congrArg (fun l => l[i]?) rel.keys
      simp only [List.getElem?_map, hx, hx'] at this
      simpa using this
    subst hkk
    refine wpAny_pyNext_dict_item st (hat _ hd) hx fun key h' hkey st' sb => ?_
    have I1 : Inv X pins σ H { s with heap := h' } := I.turned (t' := s.toks) (fun b o hb e => (sb.2 b hb).trans e) f0 f1 f3 f4 f5
    obtain ⟨oi, ei, ci, di⟩ := id st'
    exact ⟨key, rfl, go_of (s := { s with heap := h' }) ei ci di (by decide) ⟨kV k', H, I1, is_kV hkey, ⟨rfl, k', v', hx', rfl⟩, st', fun b hb => (hf b hb).1⟩⟩
  done := by
    intro X hP hw hK hc i pins s σ H E I hf st hg
    subst hP hw hK
    obtain ⟨e, hlt⟩ := hg
    have hd := (show ObjOk X.prog X.w H s.heap d (.frz o (.dK kvs)) from I.hok d _ e).1
    have hl := rel.length
    obtain ⟨f0, f1, f2, f3, f4, f5⟩ := hf it (by simp)
    exact wpAny_pyNext_dict_end (I.ok.hd hc) st (hat _ hd) (by simp; omega) fun h' eb => ⟨rfl, I.turned (t' := s.toks) (fun b o hb e => eb b o hb e) f0 f1 f3 f4 f5⟩
  self := fun _ _ _ _ _ st h => wpAny_pyIter_keyiter st h
end
end L2

set_option Elab.async false
set_option linter.all false
set_option maxRecDepth 100000
namespace L2
open PySem PySem.Spec PyProof.Rows
theorem paired_of_get {α β : Type} {F : α → β → Prop} : ∀ {l₁ : List α} {l₂ : List β}, l₁.length = l₂.length → (∀ (i : Nat) a b, l₁[i]? = some a → l₂[i]? = some b → F a b) → Paired F l₁ l₂
  | [], [], _, _ => .nil
  | [], _ :: _, h, _ => by simp at h
  | _ :: _, [], h, _ => by simp at h
  | x :: xs, y :: ys, h, f => .cons (f 0 x y rfl rfl) (paired_of_get (by simpa using h) fun i a b ha hb => f (i + 1) a b (by simpa using ha) (by simpa using hb))
theorem paired_at {α β : Type} {F : α → β → Prop} {l₁ : List α} {l₂ : List β} (h : Paired F l₁ l₂) : ∀ {i : Nat} {a : α} {b : β}, l₁[i]? = some a → l₂[i]? = some b → F a b := by
  induction h with
  | nil => intro i a b h; simp at h
  | cons r t ih =>
    intro i a b ha hb
    cases i with
    | zero => simp only [List.getElem?_cons_zero, Option.some.injEq] at ha hb; subst ha hb; exact r
    | succ j => exact ih (by simpa using ha) (by simpa using hb)
section
variable {X : Cx} {tg : Expr}
def NoFrz (X : Cx) (d : Addr) : Prop := ∀ o u, X.H₀ d ≠ some (.frz o u)
def iDict (X : Cx) (tl : TE) : TI := fun σ H R => tl σ H fun x H1 => ∃ d kvs, x = .ref d ∧ H1 d = some (.dK kvs) ∧ ∀ o, NoFrz X d → (kvs.map (·.1)).Nodup → R (Itd d o kvs) (upd H1 d (.frz o (.dK kvs)))
theorem pi_dict {l : Expr} {tl : TE} (hl : PE X l tl) : PI X tg l (iDict X tl) := by
  intro pins s σ H R I h
  refine thn (hl pins s σ H _ I h) fun v s1 ⟨x, H1, I1, r1, q1⟩ => ?_
  obtain ⟨d, kvs, e, hd, q⟩ := q1
  subst e
  cases r1
  obtain ⟨z, hs, vs, rel, dd⟩ := dk_of I1.hok hd
  obtain ⟨ep, dat⟩ := dd.dictAt
  obtain ⟨o, es, ho, r⟩ := id dat
  have hn : NoFrz X d := fun o u z => by
    have := I1.base.frzs d o u z
    rw [hd] at this; cases this
  refine wpAny_pyIter_dict hs dat ?_
  have I2 := I1.freeze hd (by rw [hd]; exact True.intro) ho
  have hfr : upd H1 d (.frz o (.dK kvs)) s1.heap.objs.size = none := by
    rw [upd_ne (Nat.ne_of_gt (Heap.lt_size ho))]; exact I1.hok.fresh (Nat.le_refl _)
  refine ⟨s1.heap.objs.size, [s1.heap.objs.size], _, _, _, rfl, I2.kept (t' := s1.toks) fun b o e => Heap.get?_push_of_some _ e,
    turn_dict d _ o kvs vs ep rel (fun h' h2 => dictAt_of (H := H1) (kvs := kvs) dat ho h2), ⟨_, Heap.get?_push_size _ rfl, rfl, rfl⟩, fun b hb => ?_, q o hn (by rw [rel.keys]; exact dat.nodup)⟩
  have e : b = s1.heap.objs.size := by simpa using hb
  subst e
  exact I1.fpOk (Nat.le_refl _) hfr
def thawN (X : Cx) (D : Ends) : St → Hp → Prop := fun σ H => ∃ d o kvs, NoFrz X d ∧ H d = some (.frz o (.dK kvs)) ∧ D.nx σ (upd H d (.dK kvs))
def tForD (X : Cx) (tl : TE) (g : TG) (tb : TS) : TS := fun D σ H => tl σ H fun x H1 => ∃ d kvs, x = .ref d ∧ H1 d = some (.dK kvs) ∧ ∀ o, NoFrz X d → (kvs.map (·.1)).Nodup → ∃ Pv : Nat → St → Hp → Prop, Pv 0 σ (upd H1 d (.frz o (.dK kvs))) ∧
  (∀ i σ H, i ≤ kvs.length → Pv i σ H → H d = some (.frz o (.dK kvs))) ∧
  (∀ i k v σ H, kvs[i]? = some (k, v) → Pv i σ H → g (kV k) σ H fun σ2 H2 => tb { D with nx := Pv (i + 1), ct := Pv (i + 1), bk := thawN X D } σ2 H2) ∧ ∀ σ H, Pv kvs.length σ H → D.nx σ (upd H d (.dK kvs))
/-- for k in d: of a dict that the body leaves as it is; known while it is walked -/
theorem ps_forD {l : Expr} {body : List Stmt} {tl : TE} {g : TG} {tb : TS} {pos : Pos} (hp : PassesOwn (model X.prog X.w) X.A X.env X.xe) (hc : X.calm = true) (hl : PE X l tl) (mono : ∀ σ H (Q Q' : V → Hp → Prop), (∀ v H, Q v H → Q' v H) → tl σ H Q → tl σ H Q')
    (hg : PG X tg g) (hb : PSs X body tb) (hs : ∀ x, foldedSetIterable l X.env x = pure x := by intro _; rfl) : PS X (.For tg l body [] pos) (tForD X tl g tb) := by
  intro pins s σ H D I h
  refine thn (ps_for hp hc (pi_dict hl) hg hb hs pins s σ H { D with nx := thawN X D } I ?_) fun f s1 q => ?_
  · refine mono σ H _ _ (fun x H1 q => ?_) h
    obtain ⟨d, kvs, e, hd, q⟩ := q
    refine ⟨d, kvs, e, hd, fun o hn hnd => ?_⟩
    obtain ⟨Pv, h0, hk, st, fin⟩ := q o hn hnd
    refine ⟨fun i m σ H => m = kvs.length - i ∧ i ≤ kvs.length ∧ Pv i σ H, ⟨kvs.length, by simp, Nat.zero_le _, h0⟩, ?_⟩
    rintro i m σ H ⟨rfl, hi, p⟩
    by_cases hlt : i < kvs.length
    · refine .inr ⟨⟨hk i σ H hi p, hlt⟩, Pv (i + 1), fun σ' H' p' => ⟨kvs.length - (i + 1), by omega, rfl, hlt, p'⟩, fun x H' y => ?_⟩
      obtain ⟨e, k, v, hx, y⟩ := y
      subst e y
      exact st i k v σ _ hx p
    · have e : i = kvs.length := by omega
      subst e
      exact .inl ⟨⟨hk _ σ H hi p, Nat.le_refl _⟩, d, o, kvs, hn, hk _ σ H hi p, fin σ H p⟩
  · cases f with
    | next =>
      obtain ⟨σ1, H1, I1, d, o, kvs, hn, e, q⟩ := q
      exact ⟨σ1, _, I1.thaw e hn, q⟩
    | cont => exact q
    | brk => exact q
    | ret v => exact q
/-- list(d) -/
theorem c_listD (hc : X.calm = true := by rfl) : CallR X (.type "list") (fun xs H Q => ∃ d kvs, xs = [.ref d] ∧ Rd H d (.dK kvs) ∧ ∀ l, H l = none → Q (.ref l) (upd H l (.lst (kvs.map fun kv => kV kv.1)))) := by
  intro pins s σ H xs us Q I r h
  obtain ⟨d, kvs, rfl, e, q⟩ := h
  obtain ⟨u, rfl, rfl⟩ := vals1 r
  obtain ⟨z, hs, vs, rel, dd⟩ := dk_rd I.hok e
  obtain ⟨ep, dat⟩ := dd.dictAt
  have hl := rel.length
  refine PySem.W.kdl_call (PySem.W.kdl_dict (knd := mixKind X.prog X.w) (kvs := vs) (ep := ep) hs) (I.ok.hd hc) dat (by omega) fun h' tk acc c hk hS hacc => ?_
  have hp := I.hok.fresh (Nat.le_refl s.heap.objs.size)
  refine ⟨.ref s.heap.objs.size, _, I.laid (a := s.heap.objs.size) (o := .lst (kvs.map fun kv => kV kv.1)) (t' := tk) hk (Nat.le_refl _) ⟨by rw [List.length_map]; exact z, acc.toList, c, ?_, by simpa using hS⟩, rfl, q _ hp⟩
  have hsz : acc.size = vs.length := hacc.1
  refine paired_of_get (by simp [hsz, hl]) fun i x y hx hy => ?_
  rw [List.getElem?_map] at hx
  obtain ⟨k, v, hv, hk⟩ := hacc.2 i y (by rw [← Array.getElem?_toList]; exact hy)
  cases hkv : kvs[i]? with
  | none => rw [hkv] at hx; cases hx
  | some kv =>
    rw [hkv] at hx
    have hx' : kV kv.1 = x := Option.some.inj hx
    have := congrArg (fun l => l[i]?) rel.keys
    simp only [List.getElem?_map, hkv, hv] at this
    have hkk : kv.1 = k := by simpa using this
    rw [← hx', hkk]
    exact is_kV hk
end
/-! ### d == e: as many keys, each there with an equal value -/
section
variable {prog : Program} {w : World} {K : Type} [DecidableEq K] {knd : KeyKind prog w K} {A : Around} {E : Value → Shared → Prop} {s : Shared}
theorem shows_all {d : Addr} {Q : Unit → Shared → Prop} (hd : (d == sysModules) = false) (q : Q () s) : wpAny (model prog w) A (Builtin.Dict.showsAll d) Q E s := by
  unfold Builtin.Dict.showsAll
  rw [if_neg (by rw [hd]; exact Bool.false_ne_true)]
  exact wpAny_pure q
theorem find_pairs {k : K} {v : Value} {es : List DictEntry} {lvs : List (K × Value)} (h : Pairs knd es lvs) : valueAt lvs k = some v → ∃ j e, (es.findIdx? fun e => knd.is k e.key) = some j ∧ es[j]? = some e ∧ e.val = v := by
  induction h with
  | nil => intro z; cases z
  | @cons e kv es lvs h1 h2 t ih =>
    intro z
    by_cases hk : kv.1 = k
    · subst hk
      have : valueAt (kv :: lvs) kv.1 = some kv.2 := by simp [valueAt, List.find?_cons]
      rw [this] at z
      exact ⟨0, e, by rw [List.findIdx?_cons, if_pos h1], rfl, by rw [h2]; exact Option.some.inj z⟩
    · have : valueAt (kv :: lvs) k = valueAt lvs k := by simp [valueAt, List.find?_cons, hk]
      rw [this] at z
      obtain ⟨j, f, hj, hf, hv⟩ := ih z
      have hn : ¬ knd.is k e.key = true := fun q => hk (knd.inj _ _ _ h1 q)
      exact ⟨j + 1, f, by rw [List.findIdx?_cons, if_neg hn, hj]; rfl, hf, hv⟩
theorem same_pairs {id : String} {a b : Addr} {kvs lvs : List (K × Value)} {Q : Bool → Shared → Prop} (hda : (a == sysModules) = false) (hdb : (b == sysModules) = false) (ha : s.heap.DictOf knd a kvs) (hb : s.heap.DictOf knd b lvs) (hl : kvs.length = lvs.length)
    (hv : ∀ (i : Nat) k v, kvs[i]? = some (k, v) → ∃ v', valueAt lvs k = some v' ∧ SeqAt.EqAt A s v v' true) (q : Q true s) : wpAny (model prog w) A (Builtin.Dict.samePairs id a b) Q E s := by
  obtain ⟨o, es, ep, ho, hx, hd, hk, hp, hn⟩ := ha
  obtain ⟨o2, es2, ep2, ho2, hx2, hd2, hk2, hp2, hn2⟩ := hb
  have hz : es.size = kvs.length := by rw [← hp.length]; simp
  have hz2 : es2.size = lvs.length := by rw [← hp2.length]; simp
  unfold Builtin.Dict.samePairs
  refine wpAny_bind (shows_all hda ?_)
  refine wpAny_bind (shows_all hdb ?_)
  refine wpAny_bind (wpAny_dictEntries ho hd ?_)
  refine wpAny_bind (wpAny_dictEntries ho2 hd2 ?_)
  rw [if_neg (by simp; omega)]
  refine wpAny_bind (wpAny_dictEpoch ho hd ?_)
  refine wpAny_bind ?_
  rw [Std.Legacy.Range.forIn_eq_forIn_range']
  simp only [Std.Legacy.Range.size, Nat.sub_zero, Nat.add_sub_cancel, Nat.div_one]
  refine wpAny_forIn_list _ (fun rest b s' => b = (none, ()) ∧ s' = s ∧ ∀ i ∈ rest, i < es.size) _ ?_ ?_ _ _ ⟨rfl, rfl, fun i hi => ?_⟩
  · rintro i rest c s' ⟨rfl, rfl, hr⟩
    have hi : i < es.size := hr i (by simp)
    refine wpAny_bind (wpAny_dictEntries ho hd ?_)
    rw [Array.getElem?_eq_getElem hi]
    obtain ⟨⟨k, v⟩, hkv⟩ : ∃ kv, kvs[i]? = some kv := ⟨kvs[i]'(by omega), List.getElem?_eq_getElem (by omega)⟩
    obtain ⟨hkey, hval⟩ := hp.get? (e := es[i]) (by simp [hi]) hkv
    obtain ⟨k', hk', hh⟩ := hk es[i] (Array.getElem_mem hi)
    obtain ⟨v', hv', he⟩ := hv i k v hkv
    have hkk : k' = k := knd.inj _ _ _ hk' hkey
    subst hkk
    show wpAny _ _ (holding [es[i].key, es[i].val] _ >>= _) _ _ _
    refine wpAny_bind (wpAny_holding ?_)
    rw [hh, hval]
    refine wpAny_bind (wpAny_dictFind_of hkey ho2 hd2 hk2 ?_)
    obtain ⟨j, f, hj, hf, hfv⟩ := find_pairs hp2 hv'
    rw [← List.findIdx?_toArray, Array.toArray_toList] at hj
    rw [Array.getElem?_toList] at hf
    rw [hj]
    refine wpAny_bind (wpAny_dictEntries ho2 hd2 ?_)
    rw [hf]
    show wpAny _ _ (holding [f.val] (eqBool v f.val)) _ _ _
    rw [hfv]
    refine wpAny_holding (he _ _ _ _ ?_)
    rw [if_neg (by decide)]
    refine wpAny_bind (wpAny_dictEpoch ho hd ?_)
    rw [if_neg (by simp)]
    exact wpAny_pure ⟨rfl, rfl, fun z hz => hr z (List.mem_cons_of_mem _ hz)⟩
  · rintro c s' ⟨rfl, rfl, _⟩
    exact wpAny_pure q
  · have := (List.mem_range'_1.mp hi).2
    omega
end
theorem valV_at {κ : Type} [DecidableEq κ] : ∀ {kvs : List (κ × V)} {i : Nat} {k : κ} {v : V}, (kvs.map (·.1)).Nodup → kvs[i]? = some (k, v) → valV kvs k = some v
  | [], i, k, v, _, h => by simp at h
  | p :: r, 0, k, v, _, h => by
    simp only [List.getElem?_cons_zero, Option.some.injEq] at h
    subst h
    exact valV_pos (p := (k, v)) rfl
  | p :: r, i + 1, k, v, hn, h => by
    rw [List.map_cons] at hn
    have hr := List.nodup_cons.mp hn
    have hi : r[i]? = some (k, v) := by simpa using h
    have hne : ¬ p.1 = k := fun z => hr.1 (by rw [z]; exact List.mem_map_of_mem (f := (·.1)) (List.mem_of_getElem? hi))
    rw [valV_neg hne]
    exact valV_at hr.2 hi
section
variable {X : Cx}
/-- two values of a dict that == tells equal: the same plain thing, or lists of the same plain things -/
def ValEq (K : PySem.W.Frag) (H : Hp) (v v' : V) : Prop := (v = v' ∧ flatR v = true) ∨ ∃ p q xs, v = .ref p ∧ v' = .ref q ∧ SqL K H p xs ∧ SqL K H q xs ∧ xs.all flatR = true
theorem eqAt_of {pins : List (Addr × Obj)} {σ : St} {H : Hp} {s : Shared} {A : Around} {v v' : V} {u u' : Value} (I : Inv X pins σ H s) (hu : A.units < cLine) (h : ValEq X.K H v v') (r : RelV v u) (r' : RelV v' u') : SeqAt.EqAt A s u u' true := by
  rcases h with ⟨rfl, hf⟩ | ⟨p, q, xs, rfl, rfl, hp, hq, hf⟩
  · exact eqAt_same hf r r' A s
  · cases r
    cases r'
    by_cases hpq : p = q
    · subst hpq; exact .same _
    · obtain ⟨its, r1, ⟨o, n, e1, c1, _, d1⟩, _⟩ := I.list hp
      obtain ⟨jts, r2, ⟨o2, n2, e2, c2, _, d2⟩, _⟩ := I.list hq
      have l1 := r1.length
      have l2 := r2.length
      have hR := SeqAt.RcAt.lists (A := A) (s := s) (e := fun _ => true) (l := p) (b := q) (items := its.toArray) (items2 := jts.toArray) ⟨o, e1, c1, n, d1⟩ ⟨o2, e2, c2, n2, d2⟩ (by simp; omega) hu (fun j h1 h2 => by
        simp at h1 h2
        obtain ⟨x, hx⟩ : ∃ x, xs[j]? = some x := ⟨xs[j]'(by omega), List.getElem?_eq_getElem (by omega)⟩
        obtain ⟨u1, g1, w1⟩ := r1.get hx
        obtain ⟨u2, g2, w2⟩ := r2.get hx
        have z1 : its.toArray[j]'(by simpa using h1) = u1 := by
          have := List.getElem?_eq_getElem h1
          rw [g1] at this
          simpa using (Option.some.inj this).symm
        have z2 : jts.toArray[j]'(by simpa using h2) = u2 := by
          have := List.getElem?_eq_getElem h2
          rw [g2] at this
          simpa using (Option.some.inj this).symm
        rw [z1, z2]
        exact eqAt_same (List.all_eq_true.mp hf x (List.mem_of_getElem? hx)) w1 w2 _ _)
      have : ((List.range its.toArray.size).all fun _ => true) = true := by simp
      rw [this] at hR
      exact .of_refs hpq hR
theorem o_eqD (hu : X.A.units + 64 < cLine) : OpR X (compareOp .Eq) (fun x y H Q => ∃ a b kvs lvs, x = .ref a ∧ y = .ref b ∧ Rd H a (.dK kvs) ∧ Rd H b (.dK lvs) ∧ kvs.length = lvs.length ∧
    (∀ k v, valV kvs k = some v → ∃ v', valV lvs k = some v' ∧ ValEq X.K H v v') ∧ Q (.bl true) H) := by
  intro pins s σ H x y v u Q I rx ry h
  obtain ⟨a, b, kvs, lvs, rfl, rfl, ha, hb, hl, hv, q⟩ := h
  cases rx
  cases ry
  obtain ⟨z, hs, vs, rel, dd⟩ := dk_rd I.hok ha
  obtain ⟨z2, hs2, vs2, rel2, dd2⟩ := dk_rd I.hok hb
  have e1 := rel.length
  have e2 := rel2.length
  refine wpAny_richCompare_same_room (op := .Eq) dd.typeIs dd2.typeIs PySem.F.slot_dict_eq (wpAny_call_entry PySem.F.slot_dict_eq dd.typeIs PySem.F.entry_dict_eq ?_ (PySem.F.args_dict_eq_2 _ _)) (by omega)
  show wpAny _ _ (Builtin.Dict.dictSlotArgs "__eq__" ⟨[.ref a, .ref b], []⟩ >>= _) _ _ _
  refine wpAny_bind ?_
  unfold Builtin.Dict.dictSlotArgs
  refine wpAny_bind (wpAny_notOrdered_dict dd.typeIs ?_)
  show wpAny _ _ (pure (Value.ref a, Value.ref b)) _ _ _
  refine wpAny_pure ?_
  refine wpAny_bind (wpAny_isInstance (T := "dict") (b := true) dd2.typeIs (by rw [isSubtype_type]; kernel_rfl) ?_)
  show wpAny _ _ (Builtin.Dict.samePairs "dict.__eq__" a b >>= _) _ _ _
  refine wpAny_bind (same_pairs hs hs2 dd dd2 (by omega) (fun i k v hi => ?_) ?_)
  · obtain ⟨⟨k', v'⟩, hkv⟩ : ∃ kv, kvs[i]? = some kv := ⟨kvs[i]'(by have := (List.getElem?_eq_some_iff.mp hi).1; omega), List.getElem?_eq_getElem _⟩
    have hr : k' = k ∧ RelV v' v := paired_at rel hkv hi
    obtain ⟨rfl, hrv⟩ := hr
    obtain ⟨w', hw, hq⟩ := hv k' v' (valV_at (by rw [rel.keys]; exact (dd.dictAt.choose_spec).nodup) hkv)
    have hval := rel2.val k'
    rw [hw] at hval
    cases hvv : valueAt vs2 k' with
    | none => rw [hvv] at hval; exact (show False from hval).elim
    | some u' =>
      rw [hvv] at hval
      exact ⟨u', rfl, eqAt_of I (show X.A.units + 1 < cLine by omega) hq hrv hval⟩
  · show wpAny _ _ (ret (.bool true)) _ _ _
    exact wpAny_pure ⟨.bool true, rfl, (fun z => nomatch z), .bl true, H, I, rfl, q⟩
end
end L2

/-! a written text split; a text times a number -/
set_option Elab.async false
set_option linter.all false
set_option maxRecDepth 100000
namespace L2
open PySem PySem.Spec PyProof.Rows
section
variable {X : Cx}
/-- z.split(y) has the parts ws -/
structure SplitOk (z y : Str) (ws : List Str) : Prop where
  h1 : (decide (z.length < y.length) || decide (Builtin.Str.strKind z < Builtin.Str.strKind y)) = false
  hy : (y.length == 0) = false
  hf : (Builtin.Str.occurrences z y 0 z.length (z.length + 1)).isEmpty = false
  hx : z.length ≤ sizeLine
  hn : ws.length ≤ sizeLine
  e : Builtin.Str.partsBetween z (Builtin.Str.occurrences z y 0 z.length (z.length + 1)) y.length = ws
theorem vals_from : ∀ (tk : Nat) (ws : List Str), Vals (ws.map V.str) (strsFrom tk ws)
  | _, [] => .nil
  | tk, x :: r => .cons ⟨_, rfl⟩ (vals_from (tk + 1) r)
theorem mt_split : MtR X "str.split" (fun x xs H Q => ∃ (z y : Str) (ws : List Str), x = .str z ∧ xs = [.str y] ∧ SplitOk z y ws ∧ ∀ l, H l = none → Q (.ref l) (upd H l (.lst (ws.map V.str)))) := by
  intro pins s σ H x xs v us Q I rx rs h
  obtain ⟨z, y, ws, rfl, rfl, ok, q⟩ := h
  obtain ⟨t, rfl⟩ := rx
  obtain ⟨u, rfl, ru⟩ := rs.one
  obtain ⟨t2, rfl⟩ := ru
  obtain ⟨h1, hy, hf, hx, hn, e⟩ := ok
  subst e
  refine call_meets F.slot_str_split (typeIs_str _ _ _) F.entry_str_split (F.args_str_split_2 _ _) (meets_str_split_sep z y t t2 h1 hy hf hx hn) ?_
  exact ⟨.ref _, _, I.lnew (vals_from _ _) (by rw [List.length_map]; exact hn), rfl, q _ I.fresh⟩
theorem m_split {o e : Expr} {to : TE} {t : TA} {apos cpos : Pos} (ho : PE X o to) (ha : PA X [e] t) (hbase : attributeBase o "split" X.env (eval o X.env) = eval o X.env := by rfl)
    (hfew : ((backTo cpos (starEach [e] X.env)).all (fun x => !x.1) && (backToKw cpos (keywordEach [] X.env)).all (fun x => x.1.isSome)
      && decide ([e].length + ([] : List Keyword).length + (if ([] : List Keyword).isEmpty then 0 else 1) < 30)) = true := by rfl)
    (hline : (apos.endLine == cpos.line) = true := by rfl) (hs : starEach [e] X.env = (false, eval e X.env) :: starEach [] X.env := by rfl) (hplain : (backTo cpos (starEach [] X.env)).any (·.1) = false := by rfl) :
    PE X (.Call (.Attribute o "split" apos) [e] [] cpos) (tBM X.K "str" (fun x xs H Q => ∃ (z y : Str) (ws : List Str), x = .str z ∧ xs = [.str y] ∧ SplitOk z y ws ∧ ∀ l, H l = none → Q (.ref l) (upd H l (.lst (ws.map V.str)))) to t) :=
  pe_bm PySem.F.plainAttrs_str PySem.F.slot_str_split PySem.F.type_str_split mt_split ho ha hbase hfew hline hs hplain
/-- a text times a number -/
def repS (z : Str) (n : Int) : Str := if n < 1 then Str.empty else if (n == 1 || z.length == 0) = true then z else ⟨(List.replicate n.toNat z.cps).foldl (· ++ ·) #[]⟩
def fMulA : R2 := fun x y H Q => match x, y with
  | .int i, .int j => CMul i j ∧ Q (.int (i * j)) H
  | .str z, .int n => n < 1000 ∧ -1000 < n ∧ z.length ≤ 1000 ∧ Q (.str (repS z n)) H
  | .ref p, .int k => ∃ xs, H p = some (.lst xs) ∧ -(2 ^ 63) ≤ k ∧ k < 2 ^ 63 ∧ xs.length * k.toNat ≤ sizeLine ∧ ∀ l, H l = none → Q (.ref l) (upd H l (.lst (List.replicate k.toNat xs).flatten))
  | _, _ => False
theorem fold_size (xs : List (Array Nat)) : ∀ acc : Array Nat, (xs.foldl (· ++ ·) acc).size = acc.size + (xs.map (·.size)).sum := by
  induction xs with
  | nil => intro acc; simp
  | cons x r ih => intro acc; rw [List.foldl_cons, ih, Array.size_append, List.map_cons, List.sum_cons]; omega
theorem rep_size (z : Str) (n : Nat) : (⟨(List.replicate n z.cps).foldl (· ++ ·) #[]⟩ : Str).length = n * z.length := by
  show ((List.replicate n z.cps).foldl (· ++ ·) #[]).size = _
  rw [fold_size, List.map_replicate]
  have : ∀ m k : Nat, (List.replicate m k).sum = m * k := fun m k => by
    induction m with
    | zero => simp
    | succ m ih => rw [List.replicate_succ, List.sum_cons, ih, Nat.succ_mul]; omega
  rw [this]
  simp [Str.length]
theorem o_mulA : OpR X (binaryOp .Mult) fMulA := by
  intro pins s σ H x y v u Q I rx ry h
  cases x with
  | int i =>
    cases y with
    | int j => exact o_mul pins s σ H _ _ v u Q I rx ry h
    | _ => exact (show False from h).elim
  | str z =>
    cases y with
    | int n =>
      obtain ⟨h1, h2, h3, q⟩ := h
      obtain ⟨t, rfl⟩ := rx
      obtain ⟨t2, rfl⟩ := ry
      have hb : ¬ n < 1 → n.toNat * z.length ≤ 1000000 := fun hn => by
        have e1 : n.toNat ≤ 1000 := by omega
        exact Nat.le_trans (Nat.mul_le_mul e1 h3) (by decide)
      refine P.mul_str (by rw [decide_eq_false (by omega), decide_eq_false (by omega)]; rfl) (fun hn _ => ?_) (fun hn _ => ?_) ?_
      · intro z1
        have h0 : (0 : Int) < n := by omega
        have := Int.lt_mul_of_ediv_lt h0 z1
        have e2 : ((z.length : Int)) * n ≤ 1000 * 1000 := Int.mul_le_mul (by omega) (by omega) (by omega) (by decide)
        omega
      · unfold Builtin.Str.tooLong
        have := hb hn
        rw [Nat.mul_comm] at this
        refine decide_eq_false ?_
        rw [sizeLine_eq]
        omega
      · unfold repS at q
        by_cases c1 : n < 1
        · rw [if_pos c1] at q ⊢
          exact ⟨by decide, .str _, H, I.tok _, ⟨_, rfl⟩, q⟩
        · rw [if_neg c1] at q ⊢
          by_cases c2 : (n == 1 || z.length == 0) = true
          · rw [if_pos c2] at q ⊢
            exact ⟨.str _, H, I, ⟨_, rfl⟩, q⟩
          · rw [if_neg c2] at q ⊢
            refine ⟨?_, .str _, H, I.tok _, ⟨_, rfl⟩, q⟩
            rw [rep_size]
            have := hb c1
            rw [sizeLine_eq]
            omega
    | _ => exact (show False from h).elim
  | ref p =>
    cases y with
    | int k =>
      obtain ⟨xs, h1, h2, h3, h4, q⟩ := h
      exact op_rep pins s σ H _ _ v u Q I rx ry ⟨p, k, xs, rfl, rfl, h1, h2, h3, h4, q⟩
    | _ => exact (show False from h).elim
  | _ => cases y <;> exact (show False from h).elim
end
end L2

/-! the rules for all kinds at once -/
set_option Elab.async false
set_option linter.all false
set_option maxRecDepth 100000
namespace L2
open PySem PySem.Spec PyProof.Rows
section
variable {X : Cx}
theorem monoV (i : Nat) : ∀ σ H (Q Q' : V → Hp → Prop), (∀ v H, Q v H → Q' v H) → fVar i σ H Q → fVar i σ H Q' := by
  intro σ H Q Q' h q
  unfold fVar at q ⊢
  split at q
  · exact h _ _ q
  · exact q.elim
/-- the dicts a and b, as many keys, each with an equal value -/
def DictEq (K : PySem.W.Frag) (H : Hp) (a b : Addr) : Prop := ∃ kvs lvs, Rd H a (.dK kvs) ∧ Rd H b (.dK lvs) ∧ kvs.length = lvs.length ∧ ∀ k v, valV kvs k = some v → ∃ v', valV lvs k = some v' ∧ ValEq K H v v'
def fEqU (K : PySem.W.Frag) : R2 := fun x y H Q => match x, y with
  | .ref p, .ref q => ((∃ d e, RepD K H (.ref p) d ∧ RepD K H (.ref q) e ∧ SeqAt.shaped d = true ∧ SeqAt.shaped e = true ∧ Q (.bl (PyData.eqv d e)) H) ∨ (∃ xs, SqL K H p xs ∧ SqL K H q xs ∧ xs.all flatR = true ∧ Q (.bl true) H)) ∨ (DictEq K H p q ∧ Q (.bl true) H)
  | x, y => scal x y = true ∧ Q (.bl (decide (x = y))) H
theorem o_eqU (hu : X.A.units + 64 < cLine) : OpR X (compareOp .Eq) (fEqU X.K) := ((o_eqA hu).or (o_eqD hu)).imp fun x y H Q q => by
  by_cases hr : ∃ p q, x = V.ref p ∧ y = V.ref q
  · obtain ⟨p, q', rfl, rfl⟩ := hr
    rcases q with q | ⟨⟨kvs, lvs, h1, h2, h3, h4⟩, h5⟩
    · exact .inl q
    · exact .inr ⟨p, q', kvs, lvs, rfl, rfl, h1, h2, h3, h4, h5⟩
  · refine .inl ?_
    cases x <;> cases y <;> first | exact q | exact absurd ⟨_, _, rfl, rfl⟩ hr
theorem c_lenA : CallR X (.builtin "len") (fun xs H Q => (∃ x n, xs = [x] ∧ LenV X.K x H n ∧ Q (.int n) H) ∨ ∃ a kvs, xs = [.ref a] ∧ Rd H a (.dK kvs) ∧ Q (.int (kvs.length : Nat)) H) := c_len.or c_lenD
theorem c_listA (hc : X.calm = true := by rfl) : CallR X (.type "list") (fun xs H Q => (∃ p ys, xs = [.ref p] ∧ (SqL X.K H p ys ∨ SqT X.K H p ys) ∧ ∀ l, H l = none → Q (.ref l) (upd H l (.lst ys))) ∨ ∃ d kvs, xs = [.ref d] ∧ Rd H d (.dK kvs) ∧ ∀ l, H l = none → Q (.ref l) (upd H l (.lst (kvs.map fun kv => kV kv.1)))) := c_list.or (c_listD hc)
end
end L2

set_option Elab.async false
set_option linter.all false
set_option maxRecDepth 100000
namespace Hd
open PySem PySem.W PySem.Calls PyProof.Rows
/-- the top, run on the tree of objects -/
def runT (tb : String → Option Builtin) (p : Program) (w : World) (n₀ : Nat) (ann : Option Value) : Nat → SharedT → Thread → Option SharedT
  | 0, _, _ => none
  | n + 1, s, t => match through t with
    | true => some s
    | false => match stepOk n₀ ann t with
      | false => none
      | true => match stepT (denote tb) p w s t with
        | some (s', t') => runT tb p w n₀ ann n s' t'
        | none => none
theorem run_of {tb : String → Option Builtin} {p : Program} {w : World} {n₀ : Nat} {ann : Option Value} : ∀ {n : Nat} {s s' : SharedT} {t : Thread},
    runT tb p w n₀ ann n s t = some s' → topRun tb p w n₀ ann n s.abs t = some s'.abs
  | 0, _, _, _, h => by cases h
  | n + 1, s, s', t, h => by
    unfold runT at h
    unfold topRun
    cases he : through t with
    | true => rw [he] at h; cases h; rfl
    | false =>
      rw [he] at h
      cases hk : stepOk n₀ ann t with
      | false => rw [hk] at h; cases h
      | true =>
        rw [hk] at h
        cases hs : stepT (denote tb) p w s t with
        | none => rw [hs] at h; cases h
        | some r => obtain ⟨s₂, t₂⟩ := r; rw [hs] at h; rw [stepT_spec hs]; exact run_of h
/-- what is looked at behind the top -/
def looks (p q : Program) (loose : List Str) (Xt : Shared → Bool) {α : Type} (Yf : Shared → α) (g0 : Bool) (H : Heap) (s : Shared) :=
  (staticsOk (importedModules p.main.body) H s.heap && namesBound p s.heap && gensDone s && laidKept H s.heap, openSeen q loose (importedModules p.main.body) Xt g0 s, Yf s)
/-- a tree of a list's objects -/
def treeOf : List Obj → Nat → BT → BT
  | [], _, t => t
  | o :: r, i, t => treeOf r (i + 1) (t.ins i o)
theorem left_of {p q : Program} {loose : List Str} {Xt : Shared → Bool} {α : Type} {Yf : Shared → α} {Ya : World → α} {N : Nat} {g0 : Bool} {H₀ : Params → Heap} {gs₀ : Array GenState} {d₀ : Drawn} {k₀ m₀ n₀ : Nat} {ann : Option Value} {T₀ : Params → BT} {life : Life}
    (opn : ∀ w : World, (fencedOpening treeTable p w N).map (fun s => (s.heap, s.gens, s.drawn, s.toks)) = some (H₀ w.params, gs₀, d₀, k₀))
    (size : ∀ w : World, ((H₀ w.params).isNs mainGlobals && gs₀.size == 0, (H₀ w.params).objs.size, (H₀ w.params).nsMap mainGlobals "__annotations__") = (true, m₀, ann))
    (tree : ∀ P : Params, absHeap (T₀ P) n₀ life = H₀ P)
    (look : ∀ (w : World) (os : OsState), (runT treeTable p w m₀ ann N ⟨T₀ w.params, n₀, life, gs₀, d₀, k₀, os⟩ (topStub p)).map (fun s => looks p q loose Xt Yf g0 (H₀ w.params) s.abs) = some (true, openGood q loose, Ya w)) :
    LeftO p q loose Xt Yf Ya N g0 := fun w => by
  obtain ⟨⟨h, gs, d, k, os⟩, e, e'⟩ := Option.map_eq_some_iff.mp (opn w)
  obtain ⟨rfl, rfl, rfl, rfl⟩ : h = H₀ w.params ∧ gs = gs₀ ∧ d = d₀ ∧ k = k₀ := by simpa using e'
  obtain ⟨z1, z2, z3⟩ : _ ∧ _ ∧ _ := by simpa only [Prod.mk.injEq] using size w
  obtain ⟨s, hs, hl⟩ := Option.map_eq_some_iff.mp (look w os)
  obtain ⟨l1, l23⟩ := Prod.mk.inj hl
  obtain ⟨l2, l3⟩ := Prod.mk.inj l23
  have r := run_of hs
  have t : topFrom treeTable p w N ⟨H₀ w.params, gs, d, k, os⟩ = some s.abs := by
    unfold topFrom
    dsimp only
    rw [z1, z2, z3]
    unfold SharedT.abs at r
    dsimp only at r
    rw [tree w.params] at r
    show (topRun treeTable p w m₀ ann N ⟨H₀ w.params, gs, d, k, os⟩ (topStub p)).bind _ = _
    rw [r]
    show (match staticsOk (importedModules p.main.body) (H₀ w.params) s.abs.heap && namesBound p s.abs.heap && gensDone s.abs && laidKept (H₀ w.params) s.abs.heap with | true => _ | false => _) = _
    rw [l1]
    rfl
  unfold openEnds
  rw [e]
  show (topFrom treeTable p w N _).map _ = _
  rw [t]
  exact congrArg some (Prod.ext l2 l3)
end Hd

set_option Elab.async false
set_option linter.all false
set_option maxRecDepth 100000
set_option maxHeartbeats 4000000
namespace K62
open PySem L2
def top (i : Nat) : Stmt := PySem.Challenge.pw_hushrow_k62_twelve_tries.main.body.getD i (.Pass ⟨0, 0, 0, 0⟩)
abbrev s_wall : Stmt := top 0
theorem sc_wall : FnScope ["k"] ["k"] (defScope s_wall) := ⟨rfl, rfl, rfl, by decide +kernel, rfl, by decide +kernel, by decide +kernel⟩
abbrev s_gift_made : Stmt := top 11
theorem sc_gift_made : FnScope ["size", "start"] ["size", "start"] (defScope s_gift_made) := ⟨rfl, rfl, rfl, by decide +kernel, rfl, by decide +kernel, by decide +kernel⟩
abbrev s_gifts_made : Stmt := top 12
theorem sc_gifts_made : FnScope ["program", "begin", "name", "more", "givens", "gifts", "at", "given", "start"] ["program", "begin", "name", "more"] (defScope s_gifts_made) := ⟨rfl, rfl, rfl, by decide +kernel, rfl, by decide +kernel, by decide +kernel⟩
abbrev s_tried : Stmt := top 13
theorem sc_tried : FnScope ["program", "name", "found", "begin", "more"] ["program", "name"] (defScope s_tried) := ⟨rfl, rfl, rfl, by decide +kernel, rfl, by decide +kernel, by decide +kernel⟩
abbrev s_law_cell_at : Stmt := top 15
theorem sc_law_cell_at : FnScope ["_law_script", "_law_k"] ["_law_script", "_law_k"] (defScope s_law_cell_at) := ⟨rfl, rfl, rfl, by decide +kernel, rfl, by decide +kernel, by decide +kernel⟩
abbrev s_law_name : Stmt := top 16
theorem sc_law_name : FnScope ["_law_cell", "_law_k", "_law_letters", "_law_way", "_law_words", "_law_size", "_law_at", "_law_stem"] ["_law_cell", "_law_k"] (defScope s_law_name) := ⟨rfl, rfl, rfl, by decide +kernel, rfl, by decide +kernel, by decide +kernel⟩
abbrev s_law_head : Stmt := top 17
theorem sc_law_head : FnScope ["_law_cell", "_law_k", "_law_name_here", "_law_size"] ["_law_cell", "_law_k", "_law_name_here"] (defScope s_law_head) := ⟨rfl, rfl, rfl, by decide +kernel, rfl, by decide +kernel, by decide +kernel⟩
abbrev s_law_due : Stmt := top 18
theorem sc_law_due : FnScope ["_law_givens", "_law_turn", "_law_name_here", "_law_more", "_law_gifts", "_law_i", "_law_number"] ["_law_givens", "_law_turn", "_law_name_here", "_law_more"] (defScope s_law_due) := ⟨rfl, rfl, rfl, by decide +kernel, rfl, by decide +kernel, by decide +kernel⟩
abbrev s_law_same : Stmt := top 19
theorem sc_law_same : FnScope ["_law_found", "_law_due_here", "_law_name_here", "_law_some"] ["_law_found", "_law_due_here"] (defScope s_law_same) := ⟨rfl, rfl, rfl, by decide +kernel, rfl, by decide +kernel, by decide +kernel⟩
abbrev s_law_right : Stmt := top 20
theorem sc_law_right : FnScope ["_law_found", "_law_givens", "_law_name_here", "_law_k", "_law_pair", "_law_j", "_law_key"] ["_law_found", "_law_givens", "_law_name_here"] (defScope s_law_right) := ⟨rfl, rfl, rfl, by decide +kernel, rfl, by decide +kernel, by decide +kernel⟩
abbrev s_law : Stmt := top 21
theorem sc_law : FnScope ["_law_script", "_law_heads", "_law_cells", "_law_k", "_law_givens", "_law_name_here", "_law_program", "_law_other"] ["_law_script"] (defScope s_law) := ⟨rfl, rfl, rfl, by decide +kernel, rfl, by decide +kernel, by decide +kernel⟩
abbrev s_Row_init : Stmt := inClass (top 2) 0
theorem sc_Row_init : FnScope ["self", "number"] ["self", "number"] (defScope s_Row_init) := ⟨rfl, rfl, rfl, by decide +kernel, rfl, by decide +kernel, by decide +kernel⟩
abbrev s_Row_reads : Stmt := inClass (top 2) 1
theorem sc_Row_reads : FnScope ["self"] ["self"] (defScope s_Row_reads) := ⟨rfl, rfl, rfl, by decide +kernel, rfl, by decide +kernel, by decide +kernel⟩
abbrev s_Row_target : Stmt := inClass (top 2) 2
theorem sc_Row_target : FnScope ["self"] ["self"] (defScope s_Row_target) := ⟨rfl, rfl, rfl, by decide +kernel, rfl, by decide +kernel, by decide +kernel⟩
abbrev s_HandRow_init : Stmt := inClass (top 3) 0
theorem sc_HandRow_init : FnScope ["self", "number", "name", "rank"] ["self", "number", "name", "rank"] (defScope s_HandRow_init) := ⟨rfl, rfl, rfl, by decide +kernel, rfl, by decide +kernel, by decide +kernel⟩
abbrev s_HandRow_shown : Stmt := inClass (top 3) 1
theorem sc_HandRow_shown : FnScope ["self"] ["self"] (defScope s_HandRow_shown) := ⟨rfl, rfl, rfl, by decide +kernel, rfl, by decide +kernel, by decide +kernel⟩
abbrev s_GivenRow_init : Stmt := inClass (top 4) 0
theorem sc_GivenRow_init : FnScope ["self", "number", "name", "rank", "size"] ["self", "number", "name", "rank", "size"] (defScope s_GivenRow_init) := ⟨rfl, rfl, rfl, by decide +kernel, rfl, by decide +kernel, by decide +kernel⟩
abbrev s_GivenRow_shown : Stmt := inClass (top 4) 1
theorem sc_GivenRow_shown : FnScope ["self"] ["self"] (defScope s_GivenRow_shown) := ⟨rfl, rfl, rfl, by decide +kernel, rfl, by decide +kernel, by decide +kernel⟩
abbrev s_OwnRow_init : Stmt := inClass (top 5) 0
theorem sc_OwnRow_init : FnScope ["self", "number", "name", "size"] ["self", "number", "name", "size"] (defScope s_OwnRow_init) := ⟨rfl, rfl, rfl, by decide +kernel, rfl, by decide +kernel, by decide +kernel⟩
abbrev s_OwnRow_shown : Stmt := inClass (top 5) 1
theorem sc_OwnRow_shown : FnScope ["self"] ["self"] (defScope s_OwnRow_shown) := ⟨rfl, rfl, rfl, by decide +kernel, rfl, by decide +kernel, by decide +kernel⟩
abbrev s_LetRow_init : Stmt := inClass (top 6) 0
theorem sc_LetRow_init : FnScope ["self", "number", "name", "rank"] ["self", "number", "name", "rank"] (defScope s_LetRow_init) := ⟨rfl, rfl, rfl, by decide +kernel, rfl, by decide +kernel, by decide +kernel⟩
abbrev s_LetRow_shown : Stmt := inClass (top 6) 1
theorem sc_LetRow_shown : FnScope ["self"] ["self"] (defScope s_LetRow_shown) := ⟨rfl, rfl, rfl, by decide +kernel, rfl, by decide +kernel, by decide +kernel⟩
abbrev s_Program_init : Stmt := inClass (top 7) 0
theorem sc_Program_init : FnScope ["self", "heads", "deeds", "main"] ["self", "heads", "deeds", "main"] (defScope s_Program_init) := ⟨rfl, rfl, rfl, by decide +kernel, rfl, by decide +kernel, by decide +kernel⟩
structure Adr where
  Row : Addr
  HandRow : Addr
  GivenRow : Addr
  OwnRow : Addr
  LetRow : Addr
  Program : Addr
structure Txt (K : PySem.W.Frag) (mg : Str → Option Value) (A : Adr) : Prop where
  wall : TopFn K mg "_wall" s_wall ["k"]
  gift_made : TopFn K mg "gift_made" s_gift_made ["size", "start"]
  gifts_made : TopFn K mg "gifts_made" s_gifts_made ["program", "begin", "name", "more"]
  tried : TopFn K mg "tried" s_tried ["program", "name"]
  law_cell_at : TopFn K mg "_law_cell_at" s_law_cell_at ["_law_script", "_law_k"]
  law_name : TopFn K mg "_law_name" s_law_name ["_law_cell", "_law_k"]
  law_head : TopFn K mg "_law_head" s_law_head ["_law_cell", "_law_k", "_law_name_here"]
  law_due : TopFn K mg "_law_due" s_law_due ["_law_givens", "_law_turn", "_law_name_here", "_law_more"]
  law_same : TopFn K mg "_law_same" s_law_same ["_law_found", "_law_due_here"]
  law_right : TopFn K mg "_law_right" s_law_right ["_law_found", "_law_givens", "_law_name_here"]
  z_all : mg "all" = none
  z_bool : mg "bool" = none
  z_dict : mg "dict" = none
  z_enumerate : mg "enumerate" = none
  z_int : mg "int" = none
  z_isinstance : mg "isinstance" = none
  z_len : mg "len" = none
  z_list : mg "list" = none
  z_range : mg "range" = none
  z_tuple : mg "tuple" = none
  c_BEGINS : ∃ a, mg "BEGINS" = some (.ref a) ∧ (∀ H, SqT K H a [.int 0, .int 1, .int 2, .int 3]) ∧ ∃ o, K.lookup a = some o ∧ o.cls = .type "tuple" ∧ o.dict = none
  c_MORES : ∃ a, mg "MORES" = some (.ref a) ∧ (∀ H, SqT K H a [.int 1, .int 2, .int 5]) ∧ ∃ o, K.lookup a = some o ∧ o.cls = .type "tuple" ∧ o.dict = none
  o_Row : OwnC K mg A.Row "Row" [A.Row]
  m_Row_init : MFn K A.Row "__init__" "Row.__init__" s_Row_init ["self", "number"]
  m_Row_reads : MFn K A.Row "reads" "Row.reads" s_Row_reads ["self"]
  m_Row_target : MFn K A.Row "target" "Row.target" s_Row_target ["self"]
  n_Row_number : NoAttr K A.Row "number"
  o_HandRow : OwnC K mg A.HandRow "HandRow" [A.HandRow, A.Row]
  m_HandRow_init : MFn K A.HandRow "__init__" "HandRow.__init__" s_HandRow_init ["self", "number", "name", "rank"]
  m_HandRow_shown : MFn K A.HandRow "shown" "HandRow.shown" s_HandRow_shown ["self"]
  m_HandRow_reads : MFn K A.HandRow "reads" "Row.reads" s_Row_reads ["self"]
  m_HandRow_target : MFn K A.HandRow "target" "Row.target" s_Row_target ["self"]
  n_HandRow_name : NoAttr K A.HandRow "name"
  n_HandRow_rank : NoAttr K A.HandRow "rank"
  n_HandRow_number : NoAttr K A.HandRow "number"
  o_GivenRow : OwnC K mg A.GivenRow "GivenRow" [A.GivenRow, A.Row]
  m_GivenRow_init : MFn K A.GivenRow "__init__" "GivenRow.__init__" s_GivenRow_init ["self", "number", "name", "rank", "size"]
  m_GivenRow_shown : MFn K A.GivenRow "shown" "GivenRow.shown" s_GivenRow_shown ["self"]
  m_GivenRow_reads : MFn K A.GivenRow "reads" "Row.reads" s_Row_reads ["self"]
  m_GivenRow_target : MFn K A.GivenRow "target" "Row.target" s_Row_target ["self"]
  n_GivenRow_name : NoAttr K A.GivenRow "name"
  n_GivenRow_rank : NoAttr K A.GivenRow "rank"
  n_GivenRow_size : NoAttr K A.GivenRow "size"
  n_GivenRow_number : NoAttr K A.GivenRow "number"
  o_OwnRow : OwnC K mg A.OwnRow "OwnRow" [A.OwnRow, A.Row]
  m_OwnRow_init : MFn K A.OwnRow "__init__" "OwnRow.__init__" s_OwnRow_init ["self", "number", "name", "size"]
  m_OwnRow_shown : MFn K A.OwnRow "shown" "OwnRow.shown" s_OwnRow_shown ["self"]
  m_OwnRow_reads : MFn K A.OwnRow "reads" "Row.reads" s_Row_reads ["self"]
  m_OwnRow_target : MFn K A.OwnRow "target" "Row.target" s_Row_target ["self"]
  n_OwnRow_name : NoAttr K A.OwnRow "name"
  n_OwnRow_size : NoAttr K A.OwnRow "size"
  n_OwnRow_number : NoAttr K A.OwnRow "number"
  o_LetRow : OwnC K mg A.LetRow "LetRow" [A.LetRow, A.Row]
  m_LetRow_init : MFn K A.LetRow "__init__" "LetRow.__init__" s_LetRow_init ["self", "number", "name", "rank"]
  m_LetRow_shown : MFn K A.LetRow "shown" "LetRow.shown" s_LetRow_shown ["self"]
  m_LetRow_reads : MFn K A.LetRow "reads" "Row.reads" s_Row_reads ["self"]
  m_LetRow_target : MFn K A.LetRow "target" "Row.target" s_Row_target ["self"]
  n_LetRow_name : NoAttr K A.LetRow "name"
  n_LetRow_rank : NoAttr K A.LetRow "rank"
  n_LetRow_number : NoAttr K A.LetRow "number"
  o_Program : OwnC K mg A.Program "Program" [A.Program]
  m_Program_init : MFn K A.Program "__init__" "Program.__init__" s_Program_init ["self", "heads", "deeds", "main"]
  n_Program_heads : NoAttr K A.Program "heads"
  n_Program_deeds : NoAttr K A.Program "deeds"
  n_Program_main : NoAttr K A.Program "main"
  of_Row_init : OfC K A.Row "__init__"
  nd : [A.Row, A.HandRow, A.GivenRow, A.OwnRow, A.LetRow, A.Program].Nodup
end K62

set_option Elab.async false
set_option linter.all false
set_option maxRecDepth 100000
set_option maxHeartbeats 0
namespace K62
open PySem L2 PySem.W
abbrev E (P : Params) (x : Str) (t : Nat) (v : Value) : DictEntry := ⟨PyData.keyHash P x, .str x t, v⟩
def heapK (P : Params) : PySem.W.Frag :=
  (nat_lit 2, ⟨.none, none, .dict #[] 0, #[]⟩) ::
  (nat_lit 3, ⟨(.type "dict"), none, .dict #[E P "__name__" 165 (.str "law_hushrow_k62_twelve_tries" 448), E P "__doc__" 166 .none, E P "__package__" 167 .none, E P "__loader__" 168 (.builtin "__main__.__loader__#opaque"), E P "__spec__" 169 .none, E P "__annotations__" 170 (.ref 6), E P "__builtins__" 171 (.ref 4), E P "__file__" 173 (.str "/claim/cut.py" 172), E P "__cached__" 174 .none, E P "_wall" 193 (.ref 21), E P "Row" 238 (.ref 52), E P "HandRow" 273 (.ref 80), E P "GivenRow" 310 (.ref 106), E P "OwnRow" 345 (.ref 132), E P "LetRow" 380 (.ref 158), E P "Program" 413 (.ref 177), E P "BEGINS" 420 (.ref 182), E P "MORES" 424 (.ref 183), E P "gift_made" 430 (.ref 188), E P "gifts_made" 436 (.ref 193), E P "tried" 447 (.ref 200), E P "_law_cell_at" 457 (.ref 207), E P "_law_name" 471 (.ref 214), E P "_law_head" 481 (.ref 221), E P "_law_due" 487 (.ref 226), E P "_law_same" 493 (.ref 231), E P "_law_right" 506 (.ref 238), E P "law" 512 (.ref 243)] 28, #[]⟩) ::
  (nat_lit 15, ⟨(.type "tuple"), none, .seq #[] 0, #[]⟩) ::
  (nat_lit 17, ⟨(.type "tuple"), none, .seq #[(.str "k" 190)] 0, #[]⟩) ::
  (nat_lit 18, ⟨(.type "tuple"), none, .seq #[] 0, #[]⟩) ::
  (nat_lit 20, ⟨(.type "code"), none, .fields #[(.str "_wall" 187), (.str "_wall" 188), (.str "/claim/cut.py" 189), (.int (1) 0), (.int (1) 0), (.int (0) 0), (.int (0) 0), (.int (3) 0), (.ref 15), (.bool true), (.int (181) 0), (.ref 16), .none, (.ref 17), (.ref 18), (.ref 19), (.int (191) 0), (.int (1) 0), (.str "/claim/cut.py" 192)], #[]⟩) ::
  (nat_lit 21, ⟨(.type "function"), none, .func (PySem.W.fnOf "_wall" "_wall" (defArgs (top 0)) (defBody (top 0)) (defScope (top 0)) .none .none .none (.str "__main__" 164) none (.ref 20) .none), #[]⟩) ::
  (nat_lit 29, ⟨(.type "tuple"), none, .seq #[] 0, #[]⟩) ::
  (nat_lit 31, ⟨(.type "tuple"), none, .seq #[(.str "self" 211), (.str "number" 212)] 0, #[]⟩) ::
  (nat_lit 32, ⟨(.type "tuple"), none, .seq #[] 0, #[]⟩) ::
  (nat_lit 34, ⟨(.type "code"), none, .fields #[(.str "__init__" 208), (.str "Row.__init__" 209), (.str "/claim/cut.py" 210), (.int (7) 0), (.int (2) 0), (.int (0) 0), (.int (0) 0), (.int (3) 0), (.ref 29), (.bool true), (.int (181) 0), (.ref 30), .none, (.ref 31), (.ref 32), (.ref 33), (.int (213) 0), (.int (7) 0), (.str "/claim/cut.py" 214)], #[]⟩) ::
  (nat_lit 35, ⟨(.type "function"), none, .func (PySem.W.fnOf "__init__" "Row.__init__" (defArgs (inClass (top 2) 0)) (defBody (inClass (top 2) 0)) (defScope (inClass (top 2) 0)) .none .none .none (.str "hushrow.rows" 194) none (.ref 34) .none), #[]⟩) ::
  (nat_lit 36, ⟨(.type "tuple"), none, .seq #[] 0, #[]⟩) ::
  (nat_lit 38, ⟨(.type "tuple"), none, .seq #[(.str "self" 219)] 0, #[]⟩) ::
  (nat_lit 39, ⟨(.type "tuple"), none, .seq #[] 0, #[]⟩) ::
  (nat_lit 41, ⟨(.type "code"), none, .fields #[(.str "reads" 216), (.str "Row.reads" 217), (.str "/claim/cut.py" 218), (.int (10) 0), (.int (1) 0), (.int (0) 0), (.int (0) 0), (.int (3) 0), (.ref 36), (.bool true), (.int (181) 0), (.ref 37), .none, (.ref 38), (.ref 39), (.ref 40), (.int (220) 0), (.int (10) 0), (.str "/claim/cut.py" 221)], #[]⟩) ::
  (nat_lit 42, ⟨(.type "function"), none, .func (PySem.W.fnOf "reads" "Row.reads" (defArgs (inClass (top 2) 1)) (defBody (inClass (top 2) 1)) (defScope (inClass (top 2) 1)) .none .none .none (.str "hushrow.rows" 194) none (.ref 41) .none), #[]⟩) ::
  (nat_lit 43, ⟨(.type "tuple"), none, .seq #[] 0, #[]⟩) ::
  (nat_lit 45, ⟨(.type "tuple"), none, .seq #[(.str "self" 226)] 0, #[]⟩) ::
  (nat_lit 46, ⟨(.type "tuple"), none, .seq #[] 0, #[]⟩) ::
  (nat_lit 48, ⟨(.type "code"), none, .fields #[(.str "target" 223), (.str "Row.target" 224), (.str "/claim/cut.py" 225), (.int (13) 0), (.int (1) 0), (.int (0) 0), (.int (0) 0), (.int (3) 0), (.ref 43), (.bool true), (.int (181) 0), (.ref 44), .none, (.ref 45), (.ref 46), (.ref 47), (.int (227) 0), (.int (13) 0), (.str "/claim/cut.py" 228)], #[]⟩) ::
  (nat_lit 49, ⟨(.type "function"), none, .func (PySem.W.fnOf "target" "Row.target" (defArgs (inClass (top 2) 2)) (defBody (inClass (top 2) 2)) (defScope (inClass (top 2) 2)) .none .none .none (.str "hushrow.rows" 194) none (.ref 48) .none), #[]⟩) ::
  (nat_lit 50, ⟨(.type "tuple"), none, .seq #[(.str "number" 230)] 0, #[]⟩) ::
  (nat_lit 51, ⟨(.type "dict"), none, .dict #[E P "__module__" 203 (.str "hushrow.rows" 194), E P "__firstlineno__" 207 (.int (5) 206), E P "__init__" 215 (.ref 35), E P "reads" 222 (.ref 42), E P "target" 229 (.ref 49), E P "__static_attributes__" 231 (.ref 50), E P "__dict__" 233 (.ref 53), E P "__weakref__" 235 (.ref 54), E P "__doc__" 236 .none] 4, #[]⟩) ::
  (nat_lit 52, ⟨(.type "type"), none, .cls { name := "Row", bases := [(.type "object")], mro := [(.ref 52), (.type "object")], ns := 51, qualname := "Row", hasDict := true, slotNames := [], subclasses := [(.ref 80), (.ref 106), (.ref 132), (.ref 158)], abstract := false, collection := none, hasDel := false }, #[none, none, (some (.str "Row" 196)), (some (.str "Row" 204)), (some (.builtin "object.__new__")), (some (.bool true))]⟩) ::
  (nat_lit 53, ⟨(.type "getset_descriptor"), none, .fields #[(.str "__dict__" 232), (.ref 52), (.builtin "function.__dict__"), (.builtin "function.__dict__#set")], #[]⟩) ::
  (nat_lit 54, ⟨(.type "getset_descriptor"), none, .fields #[(.str "__weakref__" 234), (.ref 52), (.builtin "ExceptionGroup.__weakref__"), .none], #[]⟩) ::
  (nat_lit 57, ⟨(.type "tuple"), none, .seq #[(.ref 52)] 0, #[]⟩) ::
  (nat_lit 64, ⟨(.type "tuple"), none, .seq #[] 0, #[]⟩) ::
  (nat_lit 66, ⟨(.type "tuple"), none, .seq #[(.str "self" 254), (.str "number" 255), (.str "name" 256), (.str "rank" 257)] 0, #[]⟩) ::
  (nat_lit 67, ⟨(.type "tuple"), none, .seq #[] 0, #[]⟩) ::
  (nat_lit 69, ⟨(.type "code"), none, .fields #[(.str "__init__" 251), (.str "HandRow.__init__" 252), (.str "/claim/cut.py" 253), (.int (17) 0), (.int (4) 0), (.int (0) 0), (.int (0) 0), (.int (3) 0), (.ref 64), (.bool true), (.int (181) 0), (.ref 65), .none, (.ref 66), (.ref 67), (.ref 68), (.int (258) 0), (.int (17) 0), (.str "/claim/cut.py" 259)], #[]⟩) ::
  (nat_lit 70, ⟨(.type "function"), none, .func (PySem.W.fnOf "__init__" "HandRow.__init__" (defArgs (inClass (top 3) 0)) (defBody (inClass (top 3) 0)) (defScope (inClass (top 3) 0)) .none .none .none (.str "hushrow.rows" 194) none (.ref 69) .none), #[]⟩) ::
  (nat_lit 71, ⟨(.type "tuple"), none, .seq #[] 0, #[]⟩) ::
  (nat_lit 73, ⟨(.type "tuple"), none, .seq #[(.str "self" 264)] 0, #[]⟩) ::
  (nat_lit 74, ⟨(.type "tuple"), none, .seq #[] 0, #[]⟩) ::
  (nat_lit 76, ⟨(.type "code"), none, .fields #[(.str "shown" 261), (.str "HandRow.shown" 262), (.str "/claim/cut.py" 263), (.int (22) 0), (.int (1) 0), (.int (0) 0), (.int (0) 0), (.int (3) 0), (.ref 71), (.bool true), (.int (181) 0), (.ref 72), .none, (.ref 73), (.ref 74), (.ref 75), (.int (265) 0), (.int (22) 0), (.str "/claim/cut.py" 266)], #[]⟩) ::
  (nat_lit 77, ⟨(.type "function"), none, .func (PySem.W.fnOf "shown" "HandRow.shown" (defArgs (inClass (top 3) 1)) (defBody (inClass (top 3) 1)) (defScope (inClass (top 3) 1)) .none .none .none (.str "hushrow.rows" 194) none (.ref 76) .none), #[]⟩) ::
  (nat_lit 78, ⟨(.type "tuple"), none, .seq #[(.str "name" 268), (.str "rank" 269)] 0, #[]⟩) ::
  (nat_lit 79, ⟨(.type "dict"), none, .dict #[E P "__module__" 246 (.str "hushrow.rows" 194), E P "__firstlineno__" 250 (.int (15) 249), E P "__init__" 260 (.ref 70), E P "shown" 267 (.ref 77), E P "__static_attributes__" 270 (.ref 78), E P "__doc__" 271 .none] 2, #[]⟩) ::
  (nat_lit 80, ⟨(.type "type"), none, .cls { name := "HandRow", bases := [(.ref 52)], mro := [(.ref 80), (.ref 52), (.type "object")], ns := 79, qualname := "HandRow", hasDict := true, slotNames := [], subclasses := [], abstract := false, collection := none, hasDel := false }, #[(some (.ref 57)), none, (some (.str "HandRow" 239)), (some (.str "HandRow" 247)), (some (.builtin "object.__new__")), (some (.bool true))]⟩) ::
  (nat_lit 83, ⟨(.type "tuple"), none, .seq #[(.ref 52)] 0, #[]⟩) ::
  (nat_lit 90, ⟨(.type "tuple"), none, .seq #[] 0, #[]⟩) ::
  (nat_lit 92, ⟨(.type "tuple"), none, .seq #[(.str "self" 289), (.str "number" 290), (.str "name" 291), (.str "rank" 292), (.str "size" 293)] 0, #[]⟩) ::
  (nat_lit 93, ⟨(.type "tuple"), none, .seq #[] 0, #[]⟩) ::
  (nat_lit 95, ⟨(.type "code"), none, .fields #[(.str "__init__" 286), (.str "GivenRow.__init__" 287), (.str "/claim/cut.py" 288), (.int (26) 0), (.int (5) 0), (.int (0) 0), (.int (0) 0), (.int (3) 0), (.ref 90), (.bool true), (.int (181) 0), (.ref 91), .none, (.ref 92), (.ref 93), (.ref 94), (.int (294) 0), (.int (26) 0), (.str "/claim/cut.py" 295)], #[]⟩) ::
  (nat_lit 96, ⟨(.type "function"), none, .func (PySem.W.fnOf "__init__" "GivenRow.__init__" (defArgs (inClass (top 4) 0)) (defBody (inClass (top 4) 0)) (defScope (inClass (top 4) 0)) .none .none .none (.str "hushrow.rows" 194) none (.ref 95) .none), #[]⟩) ::
  (nat_lit 97, ⟨(.type "tuple"), none, .seq #[] 0, #[]⟩) ::
  (nat_lit 99, ⟨(.type "tuple"), none, .seq #[(.str "self" 300)] 0, #[]⟩) ::
  (nat_lit 100, ⟨(.type "tuple"), none, .seq #[] 0, #[]⟩) ::
  (nat_lit 102, ⟨(.type "code"), none, .fields #[(.str "shown" 297), (.str "GivenRow.shown" 298), (.str "/claim/cut.py" 299), (.int (32) 0), (.int (1) 0), (.int (0) 0), (.int (0) 0), (.int (3) 0), (.ref 97), (.bool true), (.int (181) 0), (.ref 98), .none, (.ref 99), (.ref 100), (.ref 101), (.int (301) 0), (.int (32) 0), (.str "/claim/cut.py" 302)], #[]⟩) ::
  (nat_lit 103, ⟨(.type "function"), none, .func (PySem.W.fnOf "shown" "GivenRow.shown" (defArgs (inClass (top 4) 1)) (defBody (inClass (top 4) 1)) (defScope (inClass (top 4) 1)) .none .none .none (.str "hushrow.rows" 194) none (.ref 102) .none), #[]⟩) ::
  (nat_lit 104, ⟨(.type "tuple"), none, .seq #[(.str "name" 304), (.str "rank" 305), (.str "size" 306)] 0, #[]⟩) ::
  (nat_lit 105, ⟨(.type "dict"), none, .dict #[E P "__module__" 281 (.str "hushrow.rows" 194), E P "__firstlineno__" 285 (.int (24) 284), E P "__init__" 296 (.ref 96), E P "shown" 303 (.ref 103), E P "__static_attributes__" 307 (.ref 104), E P "__doc__" 308 .none] 2, #[]⟩) ::
  (nat_lit 106, ⟨(.type "type"), none, .cls { name := "GivenRow", bases := [(.ref 52)], mro := [(.ref 106), (.ref 52), (.type "object")], ns := 105, qualname := "GivenRow", hasDict := true, slotNames := [], subclasses := [], abstract := false, collection := none, hasDel := false }, #[(some (.ref 83)), none, (some (.str "GivenRow" 274)), (some (.str "GivenRow" 282)), (some (.builtin "object.__new__")), (some (.bool true))]⟩) ::
  (nat_lit 109, ⟨(.type "tuple"), none, .seq #[(.ref 52)] 0, #[]⟩) ::
  (nat_lit 116, ⟨(.type "tuple"), none, .seq #[] 0, #[]⟩) ::
  (nat_lit 118, ⟨(.type "tuple"), none, .seq #[(.str "self" 326), (.str "number" 327), (.str "name" 328), (.str "size" 329)] 0, #[]⟩) ::
  (nat_lit 119, ⟨(.type "tuple"), none, .seq #[] 0, #[]⟩) ::
  (nat_lit 121, ⟨(.type "code"), none, .fields #[(.str "__init__" 323), (.str "OwnRow.__init__" 324), (.str "/claim/cut.py" 325), (.int (36) 0), (.int (4) 0), (.int (0) 0), (.int (0) 0), (.int (3) 0), (.ref 116), (.bool true), (.int (181) 0), (.ref 117), .none, (.ref 118), (.ref 119), (.ref 120), (.int (330) 0), (.int (36) 0), (.str "/claim/cut.py" 331)], #[]⟩) ::
  (nat_lit 122, ⟨(.type "function"), none, .func (PySem.W.fnOf "__init__" "OwnRow.__init__" (defArgs (inClass (top 5) 0)) (defBody (inClass (top 5) 0)) (defScope (inClass (top 5) 0)) .none .none .none (.str "hushrow.rows" 194) none (.ref 121) .none), #[]⟩) ::
  (nat_lit 123, ⟨(.type "tuple"), none, .seq #[] 0, #[]⟩) ::
  (nat_lit 125, ⟨(.type "tuple"), none, .seq #[(.str "self" 336)] 0, #[]⟩) ::
  (nat_lit 126, ⟨(.type "tuple"), none, .seq #[] 0, #[]⟩) ::
  (nat_lit 128, ⟨(.type "code"), none, .fields #[(.str "shown" 333), (.str "OwnRow.shown" 334), (.str "/claim/cut.py" 335), (.int (41) 0), (.int (1) 0), (.int (0) 0), (.int (0) 0), (.int (3) 0), (.ref 123), (.bool true), (.int (181) 0), (.ref 124), .none, (.ref 125), (.ref 126), (.ref 127), (.int (337) 0), (.int (41) 0), (.str "/claim/cut.py" 338)], #[]⟩) ::
  (nat_lit 129, ⟨(.type "function"), none, .func (PySem.W.fnOf "shown" "OwnRow.shown" (defArgs (inClass (top 5) 1)) (defBody (inClass (top 5) 1)) (defScope (inClass (top 5) 1)) .none .none .none (.str "hushrow.rows" 194) none (.ref 128) .none), #[]⟩) ::
  (nat_lit 130, ⟨(.type "tuple"), none, .seq #[(.str "name" 340), (.str "size" 341)] 0, #[]⟩) ::
  (nat_lit 131, ⟨(.type "dict"), none, .dict #[E P "__module__" 318 (.str "hushrow.rows" 194), E P "__firstlineno__" 322 (.int (34) 321), E P "__init__" 332 (.ref 122), E P "shown" 339 (.ref 129), E P "__static_attributes__" 342 (.ref 130), E P "__doc__" 343 .none] 2, #[]⟩) ::
  (nat_lit 132, ⟨(.type "type"), none, .cls { name := "OwnRow", bases := [(.ref 52)], mro := [(.ref 132), (.ref 52), (.type "object")], ns := 131, qualname := "OwnRow", hasDict := true, slotNames := [], subclasses := [], abstract := false, collection := none, hasDel := false }, #[(some (.ref 109)), none, (some (.str "OwnRow" 311)), (some (.str "OwnRow" 319)), (some (.builtin "object.__new__")), (some (.bool true))]⟩) ::
  (nat_lit 135, ⟨(.type "tuple"), none, .seq #[(.ref 52)] 0, #[]⟩) ::
  (nat_lit 142, ⟨(.type "tuple"), none, .seq #[] 0, #[]⟩) ::
  (nat_lit 144, ⟨(.type "tuple"), none, .seq #[(.str "self" 361), (.str "number" 362), (.str "name" 363), (.str "rank" 364)] 0, #[]⟩) ::
  (nat_lit 145, ⟨(.type "tuple"), none, .seq #[] 0, #[]⟩) ::
  (nat_lit 147, ⟨(.type "code"), none, .fields #[(.str "__init__" 358), (.str "LetRow.__init__" 359), (.str "/claim/cut.py" 360), (.int (45) 0), (.int (4) 0), (.int (0) 0), (.int (0) 0), (.int (3) 0), (.ref 142), (.bool true), (.int (181) 0), (.ref 143), .none, (.ref 144), (.ref 145), (.ref 146), (.int (365) 0), (.int (45) 0), (.str "/claim/cut.py" 366)], #[]⟩) ::
  (nat_lit 148, ⟨(.type "function"), none, .func (PySem.W.fnOf "__init__" "LetRow.__init__" (defArgs (inClass (top 6) 0)) (defBody (inClass (top 6) 0)) (defScope (inClass (top 6) 0)) .none .none .none (.str "hushrow.rows" 194) none (.ref 147) .none), #[]⟩) ::
  (nat_lit 149, ⟨(.type "tuple"), none, .seq #[] 0, #[]⟩) ::
  (nat_lit 151, ⟨(.type "tuple"), none, .seq #[(.str "self" 371)] 0, #[]⟩) ::
  (nat_lit 152, ⟨(.type "tuple"), none, .seq #[] 0, #[]⟩) ::
  (nat_lit 154, ⟨(.type "code"), none, .fields #[(.str "shown" 368), (.str "LetRow.shown" 369), (.str "/claim/cut.py" 370), (.int (50) 0), (.int (1) 0), (.int (0) 0), (.int (0) 0), (.int (3) 0), (.ref 149), (.bool true), (.int (181) 0), (.ref 150), .none, (.ref 151), (.ref 152), (.ref 153), (.int (372) 0), (.int (50) 0), (.str "/claim/cut.py" 373)], #[]⟩) ::
  (nat_lit 155, ⟨(.type "function"), none, .func (PySem.W.fnOf "shown" "LetRow.shown" (defArgs (inClass (top 6) 1)) (defBody (inClass (top 6) 1)) (defScope (inClass (top 6) 1)) .none .none .none (.str "hushrow.rows" 194) none (.ref 154) .none), #[]⟩) ::
  (nat_lit 156, ⟨(.type "tuple"), none, .seq #[(.str "name" 375), (.str "rank" 376)] 0, #[]⟩) ::
  (nat_lit 157, ⟨(.type "dict"), none, .dict #[E P "__module__" 353 (.str "hushrow.rows" 194), E P "__firstlineno__" 357 (.int (43) 356), E P "__init__" 367 (.ref 148), E P "shown" 374 (.ref 155), E P "__static_attributes__" 377 (.ref 156), E P "__doc__" 378 .none] 2, #[]⟩) ::
  (nat_lit 158, ⟨(.type "type"), none, .cls { name := "LetRow", bases := [(.ref 52)], mro := [(.ref 158), (.ref 52), (.type "object")], ns := 157, qualname := "LetRow", hasDict := true, slotNames := [], subclasses := [], abstract := false, collection := none, hasDel := false }, #[(some (.ref 135)), none, (some (.str "LetRow" 346)), (some (.str "LetRow" 354)), (some (.builtin "object.__new__")), (some (.bool true))]⟩) ::
  (nat_lit 168, ⟨(.type "tuple"), none, .seq #[] 0, #[]⟩) ::
  (nat_lit 170, ⟨(.type "tuple"), none, .seq #[(.str "self" 396), (.str "heads" 397), (.str "deeds" 398), (.str "main" 399)] 0, #[]⟩) ::
  (nat_lit 171, ⟨(.type "tuple"), none, .seq #[] 0, #[]⟩) ::
  (nat_lit 173, ⟨(.type "code"), none, .fields #[(.str "__init__" 393), (.str "Program.__init__" 394), (.str "/claim/cut.py" 395), (.int (54) 0), (.int (4) 0), (.int (0) 0), (.int (0) 0), (.int (3) 0), (.ref 168), (.bool true), (.int (181) 0), (.ref 169), .none, (.ref 170), (.ref 171), (.ref 172), (.int (400) 0), (.int (54) 0), (.str "/claim/cut.py" 401)], #[]⟩) ::
  (nat_lit 174, ⟨(.type "function"), none, .func (PySem.W.fnOf "__init__" "Program.__init__" (defArgs (inClass (top 7) 0)) (defBody (inClass (top 7) 0)) (defScope (inClass (top 7) 0)) .none .none .none (.str "hushrow.rows" 194) none (.ref 173) .none), #[]⟩) ::
  (nat_lit 175, ⟨(.type "tuple"), none, .seq #[(.str "deeds" 403), (.str "heads" 404), (.str "main" 405)] 0, #[]⟩) ::
  (nat_lit 176, ⟨(.type "dict"), none, .dict #[E P "__module__" 388 (.str "hushrow.rows" 194), E P "__firstlineno__" 392 (.int (52) 391), E P "__init__" 402 (.ref 174), E P "__static_attributes__" 406 (.ref 175), E P "__dict__" 408 (.ref 178), E P "__weakref__" 410 (.ref 179), E P "__doc__" 411 .none] 4, #[]⟩) ::
  (nat_lit 177, ⟨(.type "type"), none, .cls { name := "Program", bases := [(.type "object")], mro := [(.ref 177), (.type "object")], ns := 176, qualname := "Program", hasDict := true, slotNames := [], subclasses := [], abstract := false, collection := none, hasDel := false }, #[none, none, (some (.str "Program" 381)), (some (.str "Program" 389)), (some (.builtin "object.__new__")), (some (.bool true))]⟩) ::
  (nat_lit 178, ⟨(.type "getset_descriptor"), none, .fields #[(.str "__dict__" 407), (.ref 177), (.builtin "function.__dict__"), (.builtin "function.__dict__#set")], #[]⟩) ::
  (nat_lit 179, ⟨(.type "getset_descriptor"), none, .fields #[(.str "__weakref__" 409), (.ref 177), (.builtin "ExceptionGroup.__weakref__"), .none], #[]⟩) ::
  (nat_lit 182, ⟨(.type "tuple"), none, .seq #[(.int (0) 416), (.int (1) 417), (.int (2) 418), (.int (3) 419)] 0, #[]⟩) ::
  (nat_lit 183, ⟨(.type "tuple"), none, .seq #[(.int (1) 421), (.int (2) 422), (.int (5) 423)] 0, #[]⟩) ::
  (nat_lit 184, ⟨(.type "tuple"), none, .seq #[] 0, #[]⟩) ::
  (nat_lit 187, ⟨(.type "code"), none, .fields #[(.str "gift_made" 425), (.str "gift_made" 426), (.str "/claim/cut.py" 427), (.int (61) 0), (.int (2) 0), (.int (0) 0), (.int (0) 0), (.int (3) 0), (.ref 184), (.bool true), (.int (181) 0), (.ref 185), .none, .none, .none, (.ref 186), (.int (428) 0), (.int (61) 0), (.str "/claim/cut.py" 429)], #[]⟩) ::
  (nat_lit 188, ⟨(.type "function"), none, .func (PySem.W.fnOf "gift_made" "gift_made" (defArgs (top 11)) (defBody (top 11)) (defScope (top 11)) .none .none .none (.str "hushrow.tries" 414) none (.ref 187) .none), #[]⟩) ::
  (nat_lit 189, ⟨(.type "tuple"), none, .seq #[] 0, #[]⟩) ::
  (nat_lit 192, ⟨(.type "code"), none, .fields #[(.str "gifts_made" 431), (.str "gifts_made" 432), (.str "/claim/cut.py" 433), (.int (65) 0), (.int (4) 0), (.int (0) 0), (.int (0) 0), (.int (3) 0), (.ref 189), (.bool true), (.int (181) 0), (.ref 190), .none, .none, .none, (.ref 191), (.int (434) 0), (.int (65) 0), (.str "/claim/cut.py" 435)], #[]⟩) ::
  (nat_lit 193, ⟨(.type "function"), none, .func (PySem.W.fnOf "gifts_made" "gifts_made" (defArgs (top 12)) (defBody (top 12)) (defScope (top 12)) .none .none .none (.str "hushrow.tries" 414) none (.ref 192) .none), #[]⟩) ::
  (nat_lit 194, ⟨(.type "tuple"), none, .seq #[] 0, #[]⟩) ::
  (nat_lit 196, ⟨(.type "tuple"), none, .seq #[(.str "program" 440), (.str "name" 441), (.str "found" 442), (.str "begin" 443), (.str "more" 444)] 0, #[]⟩) ::
  (nat_lit 197, ⟨(.type "tuple"), none, .seq #[] 0, #[]⟩) ::
  (nat_lit 199, ⟨(.type "code"), none, .fields #[(.str "tried" 437), (.str "tried" 438), (.str "/claim/cut.py" 439), (.int (74) 0), (.int (2) 0), (.int (0) 0), (.int (0) 0), (.int (3) 0), (.ref 194), (.bool true), (.int (181) 0), (.ref 195), .none, (.ref 196), (.ref 197), (.ref 198), (.int (445) 0), (.int (74) 0), (.str "/claim/cut.py" 446)], #[]⟩) ::
  (nat_lit 200, ⟨(.type "function"), none, .func (PySem.W.fnOf "tried" "tried" (defArgs (top 13)) (defBody (top 13)) (defScope (top 13)) .none .none .none (.str "hushrow.tries" 414) none (.ref 199) .none), #[]⟩) ::
  (nat_lit 201, ⟨(.type "tuple"), none, .seq #[] 0, #[]⟩) ::
  (nat_lit 203, ⟨(.type "tuple"), none, .seq #[(.str "_law_script" 453), (.str "_law_k" 454)] 0, #[]⟩) ::
  (nat_lit 204, ⟨(.type "tuple"), none, .seq #[] 0, #[]⟩) ::
  (nat_lit 206, ⟨(.type "code"), none, .fields #[(.str "_law_cell_at" 450), (.str "_law_cell_at" 451), (.str "/claim/cut.py" 452), (.int (81) 0), (.int (2) 0), (.int (0) 0), (.int (0) 0), (.int (3) 0), (.ref 201), (.bool true), (.int (181) 0), (.ref 202), .none, (.ref 203), (.ref 204), (.ref 205), (.int (455) 0), (.int (81) 0), (.str "/claim/cut.py" 456)], #[]⟩) ::
  (nat_lit 207, ⟨(.type "function"), none, .func (PySem.W.fnOf "_law_cell_at" "_law_cell_at" (defArgs (top 15)) (defBody (top 15)) (defScope (top 15)) .none .none .none (.str "law_hushrow_k62_twelve_tries" 448) none (.ref 206) .none), #[]⟩) ::
  (nat_lit 208, ⟨(.type "tuple"), none, .seq #[] 0, #[]⟩) ::
  (nat_lit 210, ⟨(.type "tuple"), none, .seq #[(.str "_law_cell" 461), (.str "_law_k" 462), (.str "_law_letters" 463), (.str "_law_way" 464), (.str "_law_words" 465), (.str "_law_size" 466), (.str "_law_at" 467), (.str "_law_stem" 468)] 0, #[]⟩) ::
  (nat_lit 211, ⟨(.type "tuple"), none, .seq #[] 0, #[]⟩) ::
  (nat_lit 213, ⟨(.type "code"), none, .fields #[(.str "_law_name" 458), (.str "_law_name" 459), (.str "/claim/cut.py" 460), (.int (85) 0), (.int (2) 0), (.int (0) 0), (.int (0) 0), (.int (3) 0), (.ref 208), (.bool true), (.int (181) 0), (.ref 209), .none, (.ref 210), (.ref 211), (.ref 212), (.int (469) 0), (.int (85) 0), (.str "/claim/cut.py" 470)], #[]⟩) ::
  (nat_lit 214, ⟨(.type "function"), none, .func (PySem.W.fnOf "_law_name" "_law_name" (defArgs (top 16)) (defBody (top 16)) (defScope (top 16)) .none .none .none (.str "law_hushrow_k62_twelve_tries" 448) none (.ref 213) .none), #[]⟩) ::
  (nat_lit 215, ⟨(.type "tuple"), none, .seq #[] 0, #[]⟩) ::
  (nat_lit 217, ⟨(.type "tuple"), none, .seq #[(.str "_law_cell" 475), (.str "_law_k" 476), (.str "_law_name_here" 477), (.str "_law_size" 478)] 0, #[]⟩) ::
  (nat_lit 218, ⟨(.type "tuple"), none, .seq #[] 0, #[]⟩) ::
  (nat_lit 220, ⟨(.type "code"), none, .fields #[(.str "_law_head" 472), (.str "_law_head" 473), (.str "/claim/cut.py" 474), (.int (97) 0), (.int (3) 0), (.int (0) 0), (.int (0) 0), (.int (3) 0), (.ref 215), (.bool true), (.int (181) 0), (.ref 216), .none, (.ref 217), (.ref 218), (.ref 219), (.int (479) 0), (.int (97) 0), (.str "/claim/cut.py" 480)], #[]⟩) ::
  (nat_lit 221, ⟨(.type "function"), none, .func (PySem.W.fnOf "_law_head" "_law_head" (defArgs (top 17)) (defBody (top 17)) (defScope (top 17)) .none .none .none (.str "law_hushrow_k62_twelve_tries" 448) none (.ref 220) .none), #[]⟩) ::
  (nat_lit 222, ⟨(.type "tuple"), none, .seq #[] 0, #[]⟩) ::
  (nat_lit 225, ⟨(.type "code"), none, .fields #[(.str "_law_due" 482), (.str "_law_due" 483), (.str "/claim/cut.py" 484), (.int (106) 0), (.int (4) 0), (.int (0) 0), (.int (0) 0), (.int (3) 0), (.ref 222), (.bool true), (.int (181) 0), (.ref 223), .none, .none, .none, (.ref 224), (.int (485) 0), (.int (106) 0), (.str "/claim/cut.py" 486)], #[]⟩) ::
  (nat_lit 226, ⟨(.type "function"), none, .func (PySem.W.fnOf "_law_due" "_law_due" (defArgs (top 18)) (defBody (top 18)) (defScope (top 18)) .none .none .none (.str "law_hushrow_k62_twelve_tries" 448) none (.ref 225) .none), #[]⟩) ::
  (nat_lit 227, ⟨(.type "tuple"), none, .seq #[] 0, #[]⟩) ::
  (nat_lit 230, ⟨(.type "code"), none, .fields #[(.str "_law_same" 488), (.str "_law_same" 489), (.str "/claim/cut.py" 490), (.int (116) 0), (.int (2) 0), (.int (0) 0), (.int (0) 0), (.int (3) 0), (.ref 227), (.bool true), (.int (181) 0), (.ref 228), .none, .none, .none, (.ref 229), (.int (491) 0), (.int (116) 0), (.str "/claim/cut.py" 492)], #[]⟩) ::
  (nat_lit 231, ⟨(.type "function"), none, .func (PySem.W.fnOf "_law_same" "_law_same" (defArgs (top 19)) (defBody (top 19)) (defScope (top 19)) .none .none .none (.str "law_hushrow_k62_twelve_tries" 448) none (.ref 230) .none), #[]⟩) ::
  (nat_lit 232, ⟨(.type "tuple"), none, .seq #[] 0, #[]⟩) ::
  (nat_lit 234, ⟨(.type "tuple"), none, .seq #[(.str "_law_found" 497), (.str "_law_givens" 498), (.str "_law_name_here" 499), (.str "_law_k" 500), (.str "_law_pair" 501), (.str "_law_j" 502), (.str "_law_key" 503)] 0, #[]⟩) ::
  (nat_lit 235, ⟨(.type "tuple"), none, .seq #[] 0, #[]⟩) ::
  (nat_lit 237, ⟨(.type "code"), none, .fields #[(.str "_law_right" 494), (.str "_law_right" 495), (.str "/claim/cut.py" 496), (.int (128) 0), (.int (3) 0), (.int (0) 0), (.int (0) 0), (.int (3) 0), (.ref 232), (.bool true), (.int (181) 0), (.ref 233), .none, (.ref 234), (.ref 235), (.ref 236), (.int (504) 0), (.int (128) 0), (.str "/claim/cut.py" 505)], #[]⟩) ::
  (nat_lit 238, ⟨(.type "function"), none, .func (PySem.W.fnOf "_law_right" "_law_right" (defArgs (top 20)) (defBody (top 20)) (defScope (top 20)) .none .none .none (.str "law_hushrow_k62_twelve_tries" 448) none (.ref 237) .none), #[]⟩) ::
  (nat_lit 239, ⟨(.type "tuple"), none, .seq #[] 0, #[]⟩) ::
  (nat_lit 242, ⟨(.type "code"), none, .fields #[(.str "law" 507), (.str "law" 508), (.str "/claim/cut.py" 509), (.int (143) 0), (.int (1) 0), (.int (0) 0), (.int (0) 0), (.int (3) 0), (.ref 239), (.bool true), (.int (181) 0), (.ref 240), .none, .none, .none, (.ref 241), (.int (510) 0), (.int (143) 0), (.str "/claim/cut.py" 511)], #[]⟩) ::
  (nat_lit 243, ⟨(.type "function"), none, .func (PySem.W.fnOf "law" "law" (defArgs (top 21)) (defBody (top 21)) (defScope (top 21)) .none .none .none (.str "law_hushrow_k62_twelve_tries" 448) none (.ref 242) .none), #[]⟩) :: []
def keysK : List Addr := [2, 3, 15, 17, 18, 20, 21, 29, 31, 32, 34, 35, 36, 38, 39, 41, 42, 43, 45, 46, 48, 49, 50, 51, 52, 53, 54, 57, 64, 66, 67, 69, 70, 71, 73, 74, 76, 77, 78, 79, 80, 83, 90, 92, 93, 95, 96, 97, 99, 100, 102, 103, 104, 105, 106, 109, 116, 118, 119, 121, 122, 123, 125, 126, 128, 129, 130, 131, 132, 135, 142, 144, 145, 147, 148, 149, 151, 152, 154, 155, 156, 157, 158, 168, 170, 171, 173, 174, 175, 176, 177, 178, 179, 182, 183, 184, 187, 188, 189, 192, 193, 194, 196, 197, 199, 200, 201, 203, 204, 206, 207, 208, 210, 211, 213, 214, 215, 217, 218, 220, 221, 222, 225, 226, 227, 230, 231, 232, 234, 235, 237, 238, 239, 242, 243]
theorem keysK_eq (P : Params) : keysK = (heapK P).map (·.1) := by kernel_rfl
abbrev prog : Program := PySem.Challenge.pw_hushrow_k62_twelve_tries
abbrev law : PySem.W.OpenLaw := PySem.Challenge.rw_hushrow_k62_twelve_tries
def seenAt : Program := { prog with main := { prog.main with body := [top 0, top 2, top 3, top 4, top 5, top 6, top 7, top 9, top 10, top 11, top 12, top 13, top 15, top 16, top 17, top 18, top 19, top 20, top 21] } }
abbrev hook : PySem.W.Hook := PySem.W.kHook heapK keysK keysK_eq
abbrev test : Shared → Bool := fun s => xlAt seenAt [] s && recOk (RowW.records law.row.toRowW) s
abbrev seenK : Shared → List (Option Obj) := fun s => keysK.map s.heap.get?
abbrev dueK : World → List (Option Obj) := fun w => (heapK w.params).map fun p => some p.2
noncomputable def T₀ (P : Params) : BT := Hd.treeOf (boot_heap P).objs.toList 0 .nil
noncomputable def lookL (w : World) (os : OsState) := (Hd.runT treeTable prog w 11 (some (.ref 6)) 4140 ⟨T₀ w.params, 11, {}, Array.mk [], boot_drawn, boot_toks, os⟩ (topStub prog)).map fun s => Hd.looks prog seenAt [] test seenK true (boot_heap w.params) s.abs
noncomputable def lookR (w : World) (os : OsState) := some (true, openGood seenAt [], dueK w)
theorem lookL_self : lookL = lookL := rfl
theorem lookR_self : lookR = lookR := rfl
end K62
lay_quick K62.lookL K62.lookR
name_quick K62lookL for K62.lookL by K62.lookL_self
name_quick K62lookR for K62.lookR by K62.lookR_self
namespace K62
open PySem L2 PySem.W
theorem looks_quick : PySem.W.Fast.K62lookL = PySem.W.Fast.K62lookR := by kernel_rfl
theorem looks_same : lookL = lookR := PySem.W.Fast.K62lookL_eq.trans (looks_quick.trans PySem.W.Fast.K62lookR_eq.symm)
theorem tree_is (P : Params) : absHeap (T₀ P) 11 {} = boot_heap P := by kernel_rfl
theorem size_is (w : World) : ((boot_heap w.params).isNs mainGlobals && (Array.mk [] : Array GenState).size == 0, (boot_heap w.params).objs.size, (boot_heap w.params).nsMap mainGlobals "__annotations__") = (true, 11, some (.ref 6)) := by kernel_rfl
theorem left : LeftO prog seenAt [] test hook.obs hook.val 4140 := Hd.left_of (boot_open (p := prog) (N := 4140) (by kernel_rfl) rfl (fun _ => rfl)) size_is tree_is fun w os => congrFun (congrFun looks_same w) os
end K62

set_option Elab.async false
set_option linter.all false
set_option maxRecDepth 100000
set_option maxHeartbeats 4000000
namespace K62
open PySem L2
section
variable {P : Program} {w : World} {K : PySem.W.Frag} {mg : Str → Option Value} {base : Heap} {A : Adr}
theorem kit_ii : PySem.W.kitOne K (.type "int") (.type "int") = some true := by kernel_rfl!
theorem kit_ib : PySem.W.kitOne K (.type "int") (.type "bool") = some false := by kernel_rfl!
theorem kit_il : PySem.W.kitOne K (.type "int") (.type "list") = some false := by kernel_rfl!
theorem kit_tt : PySem.W.kitOne K (.type "tuple") (.type "tuple") = some true := by kernel_rfl!
theorem kit_ll : PySem.W.kitOne K (.type "list") (.type "list") = some true := by kernel_rfl!
theorem kit_dd : PySem.W.kitOne K (.type "dict") (.type "dict") = some true := by kernel_rfl!
theorem sz {n : Nat} (h : n ≤ 1000) : n ≤ sizeLine := Nat.le_of_lt (small1000 h)
theorem mod_in (x : Int) {m : Int} (hm : 0 < m) : 0 ≤ x % m ∧ x % m < m := ⟨Int.emod_nonneg x (show m ≠ 0 by omega), Int.emod_lt_of_pos x hm⟩
theorem at_list {α : Type} {xs : List α} {k : Int} (h0 : 0 ≤ k) (h1 : k < (xs.length : Int)) : ∃ x, xs[k.toNat]? = some x ∧ atI xs k = some x := by
  have hk : k.toNat < xs.length := by omega
  have e := atI_nat (xs := xs) (j := k.toNat) (List.getElem?_eq_getElem hk)
  rw [show ((k.toNat : Nat) : Int) = k by omega] at e
  exact ⟨_, List.getElem?_eq_getElem hk, e⟩
theorem at_map {α : Type} (f : α → V) {xs : List α} {k : Int} (h0 : 0 ≤ k) (h1 : k < (xs.length : Int)) : ∃ x, x ∈ xs ∧ xs[k.toNat]? = some x ∧ atI (xs.map f) k = some (f x) := by
  obtain ⟨x, e1, e2⟩ := at_list (xs := xs.map f) h0 (by rw [List.length_map]; exact h1)
  rw [List.getElem?_map] at e1
  cases h : xs[k.toNat]? with
  | none => rw [h] at e1; cases e1
  | some y =>
    rw [h] at e1
    have : f y = x := Option.some.inj e1
    exact ⟨y, List.mem_of_getElem? h, rfl, by rw [this]; exact e2⟩
theorem vint (i j : Int) : decide (V.int i = V.int j) = decide (i = j) := decide_eq_decide.mpr ⟨fun h => V.int.inj h, fun h => by rw [h]⟩
theorem vstr (i j : Str) : decide (V.str i = V.str j) = decide (i = j) := decide_eq_decide.mpr ⟨fun h => V.str.inj h, fun h => by rw [h]⟩
theorem filter_true {α : Type} (xs : List α) : xs.filter (fun _ => true) = xs := List.filter_eq_self.mpr fun _ _ => rfl
theorem small_mul {a b : Int} (h0 : -(2 ^ 64) < a) (h1 : a < 2 ^ 64) : CMul a b := Or.inl ⟨h0, h1⟩
def sp_cell_at (K : PySem.W.Frag) : Sp := fun vs H Q _ => ∃ (a : Addr) (ns : List Int) (k : Int), vs = [.ref a, .int k] ∧ SqL K H a (ns.map V.int) ∧ 0 ≤ k ∧ ∀ n : Int, Q (.int n) H
theorem h_cell_at (T : Txt K mg A) : Has P w K mg base 1 "_law_cell_at" ["_law_script", "_law_k"] (sp_cell_at K) := by
  refine T.law_cell_at.has sc_law_cell_at (fun vs H Q E h => ?_) (fun f cdv A' outer s H vs Q E hr hu h => ?_)
  · obtain ⟨a, ns, k, rfl, _⟩ := h
    rfl
  · obtain ⟨a, ns, k, rfl, hS, h0, q⟩ := h
    refine ⟨_, (pss_cons (ps_if (pt_cmpR (o_lt) (fv 1) (pe_callB c_lenA rfl T.z_len (by boot_by_name) (pa_cons (fv 0) pa_nil)) (nomark _))
      (pss_one (ps_ret (pe_ix (ix_all hu) (fv 0) (fv 1) (fun _ _ => rfl))))
      pss_nil)
    (pss_one (ps_ret (pe_int)))), ?_⟩
    refine Or.inl ⟨_, _, rfl, Or.inl ⟨_, hS, rfl⟩, _, rfl, ?_⟩
    refine ite2 (fun c => ?_) (fun c => ?_)
    · have c' : k < (((ns.map V.int).length : Nat) : Int) := of_decide_eq_true c
      rw [List.length_map] at c'
      obtain ⟨n, _, _, e⟩ := at_map V.int h0 c'
      exact Or.inl ⟨_, _, Or.inl hS, e, q n⟩
    · exact q 0
theorem at_let {k : Int} (h0 : 0 ≤ k) (h1 : k < 26) : ∃ c, atI LET.cps.toList k = some c := by
  have hl : LET.cps.toList.length = 26 := by decide +kernel
  obtain ⟨x, _, e⟩ := at_list (xs := LET.cps.toList) h0 (by rw [hl]; omega)
  exact ⟨x, e⟩
theorem rep_len {z : Str} {n : Int} (hz : z.length ≤ 1) (h1 : n < 1000) : (repS z n).length ≤ 1000 := by
  unfold repS
  split
  · decide
  · split
    · omega
    · rw [rep_size]
      have : n.toNat * z.length ≤ n.toNat * 1 := Nat.mul_le_mul_left _ hz
      omega
theorem str_app_len (x y : Str) : (x ++ y).length = x.length + y.length := by
  show (x.cps ++ y.cps).size = x.cps.size + y.cps.size
  exact Array.size_append
abbrev WORDS1 : Str := "set put send say by if else end loop most idle last call deed main at over rest"
abbrev WORDS2 : Str := " hand given own let open house closed"
def words : List Str := Builtin.Str.partsBetween (WORDS1 ++ WORDS2) (Builtin.Str.occurrences (WORDS1 ++ WORDS2) " " 0 (WORDS1 ++ WORDS2).length ((WORDS1 ++ WORDS2).length + 1)) (" " : Str).length
theorem words_len : words.length = 25 := by decide +kernel
theorem words_ok : SplitOk (WORDS1 ++ WORDS2) " " words := ⟨by decide +kernel, by decide +kernel, by decide +kernel, by decide +kernel, by rw [words_len]; decide, rfl⟩
def sp_name : Sp := fun vs H Q _ => ∃ c k : Int, vs = [.int c, .int k] ∧ 0 ≤ k ∧ k ≤ 100 ∧ ∀ (x : Str) (H' : Hp), Same H H' → Q (.str x) H'
theorem h_name (T : Txt K mg A) : Has P w K mg base 1 "_law_name" ["_law_cell", "_law_k"] sp_name := by
  refine T.law_name.has sc_law_name (fun vs H Q E h => ?_) (fun f cdv A' outer s H vs Q E hr hu h => ?_)
  · obtain ⟨c, k, rfl, _⟩ := h
    rfl
  · obtain ⟨c, k, rfl, h0, h1, q⟩ := h
    refine ⟨_, (pss_cons (ps_set (i := 2) sc_law_name.nd rfl (Or.inl rfl) (pe_str))
    (pss_cons (ps_set (i := 3) sc_law_name.nd rfl (Or.inl rfl) (pe_op o_mod (fv 0) (pe_int)))
    (pss_cons (ps_if (pt_cmpR (o_eqU hu) (fv 3) (pe_int) (nomark _))
      (pss_cons (ps_set (i := 4) sc_law_name.nd rfl (Or.inl rfl) (pe_str))
      (pss_one (ps_ret (pe_ix (ix_all hu) (m_split (pe_op o_add (fv 4) (pe_str)) (pa_cons (pe_str) pa_nil)) (pe_op o_mod (pe_op o_add (pe_op o_mod (pe_op o_fdiv (fv 0) (pe_int)) (pe_int)) (fv 1)) (pe_int)) (fun _ _ => rfl)))))
      pss_nil)
    (pss_cons (ps_if (pt_cmpR (o_eqU hu) (fv 3) (pe_int) (nomark _))
      (pss_one (ps_ret (pe_op o_mulA (pe_ix (ix_all hu) (fv 2) (pe_op o_mod (pe_op o_add (pe_op o_mod (pe_op o_fdiv (fv 0) (pe_int)) (pe_int)) (pe_op o_fdiv (fv 1) (pe_int))) (pe_int)) (fun _ _ => rfl)) (pe_op o_add (pe_op o_mod (fv 1) (pe_int)) (pe_int)))))
      pss_nil)
    (pss_cons (ps_set (i := 5) sc_law_name.nd rfl (Or.inl rfl) (pe_op o_mod (pe_op o_fdiv (fv 0) (pe_int)) (pe_int)))
    (pss_cons (ps_set (i := 6) sc_law_name.nd rfl (Or.inl rfl) (pe_op o_mod (pe_op o_fdiv (fv 0) (pe_int)) (pe_op o_add (fv 5) (pe_int))))
    (pss_cons (ps_set (i := 7) sc_law_name.nd rfl (Or.inl rfl) (pe_op o_mulA (pe_ix (ix_all hu) (fv 2) (pe_op o_mod (pe_op o_fdiv (fv 0) (pe_int)) (pe_int)) (fun _ _ => rfl)) (fv 5)))
    (pss_one (ps_ret (pe_op o_add (pe_op o_add (pe_slice sl_all (fv 7) po_none (po_some (fv 6))) (pe_ix (ix_all hu) (fv 2) (pe_op o_mod (pe_op o_add (fv 1) (pe_op o_mod (pe_op o_fdiv (fv 0) (pe_int)) (pe_int))) (pe_int)) (fun _ _ => rfl))) (pe_slice sl_all (fv 7) (po_some (fv 6)) po_none))))))))))), ?_⟩
    refine ⟨(by show (0 : Int) < 4; decide), rfl, _, rfl, ?_⟩
    refine ite2 (fun b1 => ?_) (fun b1 => ?_)
    · refine ⟨by decide +kernel, rfl, _, _, words, rfl, rfl, words_ok, fun l hl => ?_⟩
      obtain ⟨j0, j1⟩ := mod_in (c / 4 % 25 + k) (show (0 : Int) < 25 by decide)
      obtain ⟨x, _, _, e⟩ := at_map V.str (xs := words) j0 (by rw [words_len]; omega)
      exact ⟨⟨by decide, by decide⟩, (by show (0 : Int) < 25; decide), (by show (0 : Int) < 25; decide), Or.inl ⟨_, _, Or.inl (SqL.of upd_same), e, q x _ (Same.upd hl _)⟩⟩
    · refine ⟨rfl, _, rfl, ?_⟩
      refine ite2 (fun b2 => ?_) (fun b2 => ?_)
      · obtain ⟨j0, j1⟩ := mod_in (c / 4 % 26 + k / 8) (show (0 : Int) < 26 by decide)
        obtain ⟨z, hz⟩ := at_let j0 j1
        obtain ⟨m0, m1⟩ := mod_in k (show (0 : Int) < 8 by decide)
        exact ⟨⟨by decide, by decide⟩, (by show (0 : Int) < 26; decide), ⟨by decide, by decide⟩, (by show (0 : Int) < 26; decide), z, by decide +kernel, hz, (by show (0 : Int) < 8; decide), by omega, by omega, (show 1 ≤ 1000 by decide), q _ _ (Same.refl _)⟩
      · obtain ⟨m0, m1⟩ := mod_in (c / 4) (show (0 : Int) < 8 by decide)
        obtain ⟨j0, j1⟩ := mod_in (c / 288) (show (0 : Int) < 26 by decide)
        obtain ⟨z, hz⟩ := at_let j0 j1
        obtain ⟨i0, i1⟩ := mod_in (k + c / 7488 % 26) (show (0 : Int) < 26 by decide)
        obtain ⟨y, hy⟩ := at_let i0 i1
        have rl : (repS ⟨#[z]⟩ (c / 4 % 8)).length ≤ 1000 := rep_len (Nat.le_refl _) (by omega)
        refine ⟨⟨by decide, by decide⟩, (by show (0 : Int) < 8; decide), ⟨by decide, by decide⟩, (by show (0 : Int) < c / 4 % 8 + 1; omega), ⟨by decide, by decide⟩, (by show (0 : Int) < 26; decide), z, by decide +kernel, hz, by omega, by omega, (show 1 ≤ 1000 by decide), ?_⟩
        have s1 := PySem.Txt.slice_le (repS ⟨#[z]⟩ (c / 4 % 8)) none (some (c / 32 % (c / 4 % 8 + 1)))
        have s2 := PySem.Txt.slice_le (repS ⟨#[z]⟩ (c / 4 % 8)) (some (c / 32 % (c / 4 % 8 + 1))) none
        refine ⟨_, rfl, sz rl, ⟨by decide, by decide⟩, (by show (0 : Int) < 26; decide), (by show (0 : Int) < 26; decide), y, by decide +kernel, hy, ?_⟩
        refine ⟨Nat.le_trans (m := 1000 + 1) (Nat.add_le_add_right (Nat.le_trans s1 rl) 1) (by decide), _, rfl, sz rl, ?_⟩
        refine ⟨?_, q _ _ (Same.refl _)⟩
        rw [str_app_len]
        exact Nat.le_trans (m := 1000 + 1 + 1000) (Nat.add_le_add (Nat.add_le_add_right (Nat.le_trans s1 rl) 1) (Nat.le_trans s2 rl)) (by decide)
end
end K62

set_option Elab.async false
set_option linter.all false
set_option maxRecDepth 100000
set_option maxHeartbeats 4000000
namespace K62
open PySem L2
section
variable {P : Program} {w : World} {K : PySem.W.Frag} {mg : Str → Option Value} {base : Heap} {A : Adr}
def sp_Row_init (K : PySem.W.Frag) (A : Adr) : Sp := fun vs H Q _ => ∃ (x C dx : Addr) (fs : List (Str × V)) (n : V), vs = [.ref x, n] ∧ H x = some (.ins C dx fs) ∧ Cls K C ∧ NoAttr K C "number" ∧ fs.length < 1000 ∧ Q .non (upd H x (.ins C dx (putF "number" n fs)))
theorem h_Row_init_of {C : Addr} (F : MFn K C "__init__" "Row.__init__" s_Row_init ["self", "number"]) : HasM P w K mg base 2 C "__init__" ["self", "number"] (sp_Row_init K A) := by
  refine F.has (k := 1) sc_Row_init (fun vs H Q E h => ?_) (fun f cdv A' outer s H vs Q E hr hu h => ?_)
  · obtain ⟨x, C, dx, fs, n, rfl, _⟩ := h
    rfl
  · obtain ⟨x, C, dx, fs, n, rfl, hx, c, na, hl, q⟩ := h
    refine ⟨_, (pss_one (ps_fld (fv 0) (fv 1) rfl)), ?_⟩
    exact ⟨x, C, dx, fs, rfl, hx, c, na, hl, q⟩
theorem h_Row_init (T : Txt K mg A) : HasM P w K mg base 2 A.Row "__init__" ["self", "number"] (sp_Row_init K A) := h_Row_init_of T.m_Row_init
def sp_HandRow_init (K : PySem.W.Frag) (A : Adr) : Sp := fun vs H Q _ => ∃ (x dx : Addr) (v_number v_name v_rank : V), vs = [.ref x, v_number, v_name, v_rank] ∧ H x = some (.ins A.HandRow dx []) ∧ ∀ (H' : Hp), But x H H' → H' x = some (.ins A.HandRow dx [("number", v_number), ("name", v_name), ("rank", v_rank)]) → Q .non H'
theorem h_HandRow_init (T : Txt K mg A) : HasM P w K mg base 3 A.HandRow "__init__" ["self", "number", "name", "rank"] (sp_HandRow_init K A) := by
  have D_Row_init := h_Row_init (P := P) (w := w) (base := base) T
  refine T.m_HandRow_init.has (k := 2) sc_HandRow_init (fun vs H Q E h => ?_) (fun f cdv A' outer s H vs Q E hr hu h => ?_)
  · obtain ⟨x, dx, v_number, v_name, v_rank, rfl, _⟩ := h
    rfl
  · obtain ⟨x, dx, v_number, v_name, v_rank, rfl, hx, q⟩ := h
    refine ⟨_, (pss_cons (ps_expr (pe_callOf T.o_Row T.of_Row_init D_Row_init hr (pa_cons (fv 0) (pa_cons (fv 1) pa_nil))))
    (pss_cons (ps_fld (fv 0) (fv 2) rfl)
    (pss_one (ps_fld (fv 0) (fv 3) rfl)))), ?_⟩
    have b0 : But x H H := But.refl x H
    refine ⟨x, A.HandRow, dx, [], v_number, rfl, hx, T.o_HandRow.cl, T.n_HandRow_number, by decide, ?_⟩
    generalize hg1 : upd H x _ = H1
    have b1 : But x H H1 := hg1 ▸ b0.trans (But.at x _ _)
    have i1 : H1 x = some (.ins A.HandRow dx [("number", v_number)]) := hg1 ▸ upd_same
    refine ⟨x, A.HandRow, dx, [("number", v_number)], rfl, i1, T.o_HandRow.cl, T.n_HandRow_name, by simp, ?_⟩
    generalize hg2 : upd H1 x _ = H2
    have b2 : But x H H2 := hg2 ▸ b1.trans (But.at x _ _)
    have i2 : H2 x = some (.ins A.HandRow dx [("number", v_number), ("name", v_name)]) := hg2 ▸ upd_same
    refine ⟨x, A.HandRow, dx, [("number", v_number), ("name", v_name)], rfl, i2, T.o_HandRow.cl, T.n_HandRow_rank, by simp, ?_⟩
    generalize hg3 : upd H2 x _ = H3
    have b3 : But x H H3 := hg3 ▸ b2.trans (But.at x _ _)
    have i3 : H3 x = some (.ins A.HandRow dx [("number", v_number), ("name", v_name), ("rank", v_rank)]) := hg3 ▸ upd_same
    exact q H3 b3 i3
theorem mk_HandRow {H : Hp} {x dx : Addr} {R : VK} {v_number v_name v_rank : V} (hx : H x = none) (hd : H dx = none) (q : ∀ (H' : Hp), Same H H' → H' x = some (.ins A.HandRow dx [("number", v_number), ("name", v_name), ("rank", v_rank)]) → R .non H') : sp_HandRow_init K A (.ref x :: ([v_number, v_name, v_rank] ++ [])) (upd (upd H dx (.own x)) x (.ins A.HandRow dx [])) R E0 :=
  ⟨x, dx, _, _, _, rfl, upd_same, fun H' b i => q H' (b.same hx hd) i⟩
def sp_GivenRow_init (K : PySem.W.Frag) (A : Adr) : Sp := fun vs H Q _ => ∃ (x dx : Addr) (v_number v_name v_rank v_size : V), vs = [.ref x, v_number, v_name, v_rank, v_size] ∧ H x = some (.ins A.GivenRow dx []) ∧ ∀ (H' : Hp), But x H H' → H' x = some (.ins A.GivenRow dx [("number", v_number), ("name", v_name), ("rank", v_rank), ("size", v_size)]) → Q .non H'
theorem h_GivenRow_init (T : Txt K mg A) : HasM P w K mg base 3 A.GivenRow "__init__" ["self", "number", "name", "rank", "size"] (sp_GivenRow_init K A) := by
  have D_Row_init := h_Row_init (P := P) (w := w) (base := base) T
  refine T.m_GivenRow_init.has (k := 2) sc_GivenRow_init (fun vs H Q E h => ?_) (fun f cdv A' outer s H vs Q E hr hu h => ?_)
  · obtain ⟨x, dx, v_number, v_name, v_rank, v_size, rfl, _⟩ := h
    rfl
  · obtain ⟨x, dx, v_number, v_name, v_rank, v_size, rfl, hx, q⟩ := h
    refine ⟨_, (pss_cons (ps_expr (pe_callOf T.o_Row T.of_Row_init D_Row_init hr (pa_cons (fv 0) (pa_cons (fv 1) pa_nil))))
    (pss_cons (ps_fld (fv 0) (fv 2) rfl)
    (pss_cons (ps_fld (fv 0) (fv 3) rfl)
    (pss_one (ps_fld (fv 0) (fv 4) rfl))))), ?_⟩
    have b0 : But x H H := But.refl x H
    refine ⟨x, A.GivenRow, dx, [], v_number, rfl, hx, T.o_GivenRow.cl, T.n_GivenRow_number, by decide, ?_⟩
    generalize hg1 : upd H x _ = H1
    have b1 : But x H H1 := hg1 ▸ b0.trans (But.at x _ _)
    have i1 : H1 x = some (.ins A.GivenRow dx [("number", v_number)]) := hg1 ▸ upd_same
    refine ⟨x, A.GivenRow, dx, [("number", v_number)], rfl, i1, T.o_GivenRow.cl, T.n_GivenRow_name, by simp, ?_⟩
    generalize hg2 : upd H1 x _ = H2
    have b2 : But x H H2 := hg2 ▸ b1.trans (But.at x _ _)
    have i2 : H2 x = some (.ins A.GivenRow dx [("number", v_number), ("name", v_name)]) := hg2 ▸ upd_same
    refine ⟨x, A.GivenRow, dx, [("number", v_number), ("name", v_name)], rfl, i2, T.o_GivenRow.cl, T.n_GivenRow_rank, by simp, ?_⟩
    generalize hg3 : upd H2 x _ = H3
    have b3 : But x H H3 := hg3 ▸ b2.trans (But.at x _ _)
    have i3 : H3 x = some (.ins A.GivenRow dx [("number", v_number), ("name", v_name), ("rank", v_rank)]) := hg3 ▸ upd_same
    refine ⟨x, A.GivenRow, dx, [("number", v_number), ("name", v_name), ("rank", v_rank)], rfl, i3, T.o_GivenRow.cl, T.n_GivenRow_size, by simp, ?_⟩
    generalize hg4 : upd H3 x _ = H4
    have b4 : But x H H4 := hg4 ▸ b3.trans (But.at x _ _)
    have i4 : H4 x = some (.ins A.GivenRow dx [("number", v_number), ("name", v_name), ("rank", v_rank), ("size", v_size)]) := hg4 ▸ upd_same
    exact q H4 b4 i4
theorem mk_GivenRow {H : Hp} {x dx : Addr} {R : VK} {v_number v_name v_rank v_size : V} (hx : H x = none) (hd : H dx = none) (q : ∀ (H' : Hp), Same H H' → H' x = some (.ins A.GivenRow dx [("number", v_number), ("name", v_name), ("rank", v_rank), ("size", v_size)]) → R .non H') : sp_GivenRow_init K A (.ref x :: ([v_number, v_name, v_rank, v_size] ++ [])) (upd (upd H dx (.own x)) x (.ins A.GivenRow dx [])) R E0 :=
  ⟨x, dx, _, _, _, _, rfl, upd_same, fun H' b i => q H' (b.same hx hd) i⟩
def sp_OwnRow_init (K : PySem.W.Frag) (A : Adr) : Sp := fun vs H Q _ => ∃ (x dx : Addr) (v_number v_name v_size : V), vs = [.ref x, v_number, v_name, v_size] ∧ H x = some (.ins A.OwnRow dx []) ∧ ∀ (H' : Hp), But x H H' → H' x = some (.ins A.OwnRow dx [("number", v_number), ("name", v_name), ("size", v_size)]) → Q .non H'
theorem h_OwnRow_init (T : Txt K mg A) : HasM P w K mg base 3 A.OwnRow "__init__" ["self", "number", "name", "size"] (sp_OwnRow_init K A) := by
  have D_Row_init := h_Row_init (P := P) (w := w) (base := base) T
  refine T.m_OwnRow_init.has (k := 2) sc_OwnRow_init (fun vs H Q E h => ?_) (fun f cdv A' outer s H vs Q E hr hu h => ?_)
  · obtain ⟨x, dx, v_number, v_name, v_size, rfl, _⟩ := h
    rfl
  · obtain ⟨x, dx, v_number, v_name, v_size, rfl, hx, q⟩ := h
    refine ⟨_, (pss_cons (ps_expr (pe_callOf T.o_Row T.of_Row_init D_Row_init hr (pa_cons (fv 0) (pa_cons (fv 1) pa_nil))))
    (pss_cons (ps_fld (fv 0) (fv 2) rfl)
    (pss_one (ps_fld (fv 0) (fv 3) rfl)))), ?_⟩
    have b0 : But x H H := But.refl x H
    refine ⟨x, A.OwnRow, dx, [], v_number, rfl, hx, T.o_OwnRow.cl, T.n_OwnRow_number, by decide, ?_⟩
    generalize hg1 : upd H x _ = H1
    have b1 : But x H H1 := hg1 ▸ b0.trans (But.at x _ _)
    have i1 : H1 x = some (.ins A.OwnRow dx [("number", v_number)]) := hg1 ▸ upd_same
    refine ⟨x, A.OwnRow, dx, [("number", v_number)], rfl, i1, T.o_OwnRow.cl, T.n_OwnRow_name, by simp, ?_⟩
    generalize hg2 : upd H1 x _ = H2
    have b2 : But x H H2 := hg2 ▸ b1.trans (But.at x _ _)
    have i2 : H2 x = some (.ins A.OwnRow dx [("number", v_number), ("name", v_name)]) := hg2 ▸ upd_same
    refine ⟨x, A.OwnRow, dx, [("number", v_number), ("name", v_name)], rfl, i2, T.o_OwnRow.cl, T.n_OwnRow_size, by simp, ?_⟩
    generalize hg3 : upd H2 x _ = H3
    have b3 : But x H H3 := hg3 ▸ b2.trans (But.at x _ _)
    have i3 : H3 x = some (.ins A.OwnRow dx [("number", v_number), ("name", v_name), ("size", v_size)]) := hg3 ▸ upd_same
    exact q H3 b3 i3
theorem mk_OwnRow {H : Hp} {x dx : Addr} {R : VK} {v_number v_name v_size : V} (hx : H x = none) (hd : H dx = none) (q : ∀ (H' : Hp), Same H H' → H' x = some (.ins A.OwnRow dx [("number", v_number), ("name", v_name), ("size", v_size)]) → R .non H') : sp_OwnRow_init K A (.ref x :: ([v_number, v_name, v_size] ++ [])) (upd (upd H dx (.own x)) x (.ins A.OwnRow dx [])) R E0 :=
  ⟨x, dx, _, _, _, rfl, upd_same, fun H' b i => q H' (b.same hx hd) i⟩
def sp_LetRow_init (K : PySem.W.Frag) (A : Adr) : Sp := fun vs H Q _ => ∃ (x dx : Addr) (v_number v_name v_rank : V), vs = [.ref x, v_number, v_name, v_rank] ∧ H x = some (.ins A.LetRow dx []) ∧ ∀ (H' : Hp), But x H H' → H' x = some (.ins A.LetRow dx [("number", v_number), ("name", v_name), ("rank", v_rank)]) → Q .non H'
theorem h_LetRow_init (T : Txt K mg A) : HasM P w K mg base 3 A.LetRow "__init__" ["self", "number", "name", "rank"] (sp_LetRow_init K A) := by
  have D_Row_init := h_Row_init (P := P) (w := w) (base := base) T
  refine T.m_LetRow_init.has (k := 2) sc_LetRow_init (fun vs H Q E h => ?_) (fun f cdv A' outer s H vs Q E hr hu h => ?_)
  · obtain ⟨x, dx, v_number, v_name, v_rank, rfl, _⟩ := h
    rfl
  · obtain ⟨x, dx, v_number, v_name, v_rank, rfl, hx, q⟩ := h
    refine ⟨_, (pss_cons (ps_expr (pe_callOf T.o_Row T.of_Row_init D_Row_init hr (pa_cons (fv 0) (pa_cons (fv 1) pa_nil))))
    (pss_cons (ps_fld (fv 0) (fv 2) rfl)
    (pss_one (ps_fld (fv 0) (fv 3) rfl)))), ?_⟩
    have b0 : But x H H := But.refl x H
    refine ⟨x, A.LetRow, dx, [], v_number, rfl, hx, T.o_LetRow.cl, T.n_LetRow_number, by decide, ?_⟩
    generalize hg1 : upd H x _ = H1
    have b1 : But x H H1 := hg1 ▸ b0.trans (But.at x _ _)
    have i1 : H1 x = some (.ins A.LetRow dx [("number", v_number)]) := hg1 ▸ upd_same
    refine ⟨x, A.LetRow, dx, [("number", v_number)], rfl, i1, T.o_LetRow.cl, T.n_LetRow_name, by simp, ?_⟩
    generalize hg2 : upd H1 x _ = H2
    have b2 : But x H H2 := hg2 ▸ b1.trans (But.at x _ _)
    have i2 : H2 x = some (.ins A.LetRow dx [("number", v_number), ("name", v_name)]) := hg2 ▸ upd_same
    refine ⟨x, A.LetRow, dx, [("number", v_number), ("name", v_name)], rfl, i2, T.o_LetRow.cl, T.n_LetRow_rank, by simp, ?_⟩
    generalize hg3 : upd H2 x _ = H3
    have b3 : But x H H3 := hg3 ▸ b2.trans (But.at x _ _)
    have i3 : H3 x = some (.ins A.LetRow dx [("number", v_number), ("name", v_name), ("rank", v_rank)]) := hg3 ▸ upd_same
    exact q H3 b3 i3
theorem mk_LetRow {H : Hp} {x dx : Addr} {R : VK} {v_number v_name v_rank : V} (hx : H x = none) (hd : H dx = none) (q : ∀ (H' : Hp), Same H H' → H' x = some (.ins A.LetRow dx [("number", v_number), ("name", v_name), ("rank", v_rank)]) → R .non H') : sp_LetRow_init K A (.ref x :: ([v_number, v_name, v_rank] ++ [])) (upd (upd H dx (.own x)) x (.ins A.LetRow dx [])) R E0 :=
  ⟨x, dx, _, _, _, rfl, upd_same, fun H' b i => q H' (b.same hx hd) i⟩
def sp_Program_init (K : PySem.W.Frag) (A : Adr) : Sp := fun vs H Q _ => ∃ (x dx : Addr) (t_heads : Addr) (l_heads : List V) (t_deeds : Addr) (l_deeds : List V) (t_main : Addr) (l_main : List V), vs = [.ref x, .ref t_heads, .ref t_deeds, .ref t_main] ∧ H x = some (.ins A.Program dx []) ∧ SqL K H t_heads l_heads ∧ SqL K H t_deeds l_deeds ∧ SqL K H t_main l_main ∧ ∀ (n_heads n_deeds n_main : Addr) (H' : Hp), H n_heads = none → H n_deeds = none → H n_main = none → n_heads ≠ n_deeds → n_heads ≠ n_main → n_deeds ≠ n_main → But x H H' → H' n_heads = some (.lst l_heads) → H' n_deeds = some (.lst l_deeds) → H' n_main = some (.lst l_main) → H' x = some (.ins A.Program dx [("heads", .ref n_heads), ("deeds", .ref n_deeds), ("main", .ref n_main)]) → Q .non H'
theorem h_Program_init (T : Txt K mg A) : HasM P w K mg base 3 A.Program "__init__" ["self", "heads", "deeds", "main"] (sp_Program_init K A) := by
  refine T.m_Program_init.has (k := 2) sc_Program_init (fun vs H Q E h => ?_) (fun f cdv A' outer s H vs Q E hr hu h => ?_)
  · obtain ⟨x, dx, t_heads, l_heads, t_deeds, l_deeds, t_main, l_main, rfl, _⟩ := h
    rfl
  · obtain ⟨x, dx, t_heads, l_heads, t_deeds, l_deeds, t_main, l_main, rfl, hx, s_heads, s_deeds, s_main, q⟩ := h
    refine ⟨_, (pss_cons (ps_fld (fv 0) (pe_callTy c_list rfl T.z_list (by boot_by_name) (pa_cons (fv 1) pa_nil)) rfl)
    (pss_cons (ps_fld (fv 0) (pe_callTy c_list rfl T.z_list (by boot_by_name) (pa_cons (fv 2) pa_nil)) rfl)
    (pss_one (ps_fld (fv 0) (pe_callTy c_list rfl T.z_list (by boot_by_name) (pa_cons (fv 3) pa_nil)) rfl)))), ?_⟩
    have b0 : But x H H := But.refl x H
    refine ⟨_, l_heads, rfl, .inl (SqL.but s_heads hx b0), fun n_heads f_heads => ?_⟩
    have e_heads : n_heads ≠ x := fun z => by rw [z] at f_heads; exact absurd (f_heads.symm.trans hx) (by intro z; cases z)
    have a_heads : H n_heads = none := b0.none e_heads f_heads
    generalize hg1 : upd H n_heads (HO.lst l_heads) = H1
    have b1 : But x H H1 := hg1 ▸ b0.trans (But.new f_heads _)
    have i1 : H1 x = some (.ins A.Program dx []) := hg1 ▸ (upd_ne (Ne.symm e_heads)).trans hx
    have k1_heads : H1 n_heads = some (.lst l_heads) := hg1 ▸ upd_same
    refine ⟨x, A.Program, dx, [], rfl, i1, T.o_Program.cl, T.n_Program_heads, by simp, ?_⟩
    generalize hg2 : upd H1 x _ = H2
    have b2 : But x H H2 := hg2 ▸ b1.trans (But.at x _ _)
    have i2 : H2 x = some (.ins A.Program dx [("heads", .ref n_heads)]) := hg2 ▸ upd_same
    have k2_heads : H2 n_heads = some (.lst l_heads) := hg2 ▸ (upd_ne e_heads).trans k1_heads
    refine ⟨_, l_deeds, rfl, .inl (SqL.but s_deeds hx b2), fun n_deeds f_deeds => ?_⟩
    have e_deeds : n_deeds ≠ x := fun z => by rw [z] at f_deeds; exact absurd (f_deeds.symm.trans i2) (by intro z; cases z)
    have a_deeds : H n_deeds = none := b2.none e_deeds f_deeds
    have d_heads_deeds : n_heads ≠ n_deeds := fun z => by have w := k2_heads; rw [z] at w; exact absurd (f_deeds.symm.trans w) (by intro w; cases w)
    generalize hg3 : upd H2 n_deeds (HO.lst l_deeds) = H3
    have b3 : But x H H3 := hg3 ▸ b2.trans (But.new f_deeds _)
    have i3 : H3 x = some (.ins A.Program dx [("heads", .ref n_heads)]) := hg3 ▸ (upd_ne (Ne.symm e_deeds)).trans i2
    have k3_heads : H3 n_heads = some (.lst l_heads) := hg3 ▸ (upd_ne d_heads_deeds).trans k2_heads
    have k3_deeds : H3 n_deeds = some (.lst l_deeds) := hg3 ▸ upd_same
    refine ⟨x, A.Program, dx, [("heads", .ref n_heads)], rfl, i3, T.o_Program.cl, T.n_Program_deeds, by simp, ?_⟩
    generalize hg4 : upd H3 x _ = H4
    have b4 : But x H H4 := hg4 ▸ b3.trans (But.at x _ _)
    have i4 : H4 x = some (.ins A.Program dx [("heads", .ref n_heads), ("deeds", .ref n_deeds)]) := hg4 ▸ upd_same
    have k4_heads : H4 n_heads = some (.lst l_heads) := hg4 ▸ (upd_ne e_heads).trans k3_heads
    have k4_deeds : H4 n_deeds = some (.lst l_deeds) := hg4 ▸ (upd_ne e_deeds).trans k3_deeds
    refine ⟨_, l_main, rfl, .inl (SqL.but s_main hx b4), fun n_main f_main => ?_⟩
    have e_main : n_main ≠ x := fun z => by rw [z] at f_main; exact absurd (f_main.symm.trans i4) (by intro z; cases z)
    have a_main : H n_main = none := b4.none e_main f_main
    have d_heads_main : n_heads ≠ n_main := fun z => by have w := k4_heads; rw [z] at w; exact absurd (f_main.symm.trans w) (by intro w; cases w)
    have d_deeds_main : n_deeds ≠ n_main := fun z => by have w := k4_deeds; rw [z] at w; exact absurd (f_main.symm.trans w) (by intro w; cases w)
    generalize hg5 : upd H4 n_main (HO.lst l_main) = H5
    have b5 : But x H H5 := hg5 ▸ b4.trans (But.new f_main _)
    have i5 : H5 x = some (.ins A.Program dx [("heads", .ref n_heads), ("deeds", .ref n_deeds)]) := hg5 ▸ (upd_ne (Ne.symm e_main)).trans i4
    have k5_heads : H5 n_heads = some (.lst l_heads) := hg5 ▸ (upd_ne d_heads_main).trans k4_heads
    have k5_deeds : H5 n_deeds = some (.lst l_deeds) := hg5 ▸ (upd_ne d_deeds_main).trans k4_deeds
    have k5_main : H5 n_main = some (.lst l_main) := hg5 ▸ upd_same
    refine ⟨x, A.Program, dx, [("heads", .ref n_heads), ("deeds", .ref n_deeds)], rfl, i5, T.o_Program.cl, T.n_Program_main, by simp, ?_⟩
    generalize hg6 : upd H5 x _ = H6
    have b6 : But x H H6 := hg6 ▸ b5.trans (But.at x _ _)
    have i6 : H6 x = some (.ins A.Program dx [("heads", .ref n_heads), ("deeds", .ref n_deeds), ("main", .ref n_main)]) := hg6 ▸ upd_same
    have k6_heads : H6 n_heads = some (.lst l_heads) := hg6 ▸ (upd_ne e_heads).trans k5_heads
    have k6_deeds : H6 n_deeds = some (.lst l_deeds) := hg6 ▸ (upd_ne e_deeds).trans k5_deeds
    have k6_main : H6 n_main = some (.lst l_main) := hg6 ▸ (upd_ne e_main).trans k5_main
    exact q n_heads n_deeds n_main H6 a_heads a_deeds a_main d_heads_deeds d_heads_main d_deeds_main b6 k6_heads k6_deeds k6_main i6
theorem mk_Program {H : Hp} {x dx : Addr} {R : VK} {t_heads : Addr} {l_heads : List V} (s_heads : SqL K H t_heads l_heads) {t_deeds : Addr} {l_deeds : List V} (s_deeds : SqL K H t_deeds l_deeds) {t_main : Addr} {l_main : List V} (s_main : SqL K H t_main l_main) (hx : H x = none) (hd : H dx = none) (q : ∀ (n_heads n_deeds n_main : Addr) (H' : Hp), H n_heads = none → H n_deeds = none → H n_main = none → Same H H' → H' n_heads = some (.lst l_heads) → H' n_deeds = some (.lst l_deeds) → H' n_main = some (.lst l_main) → H' x = some (.ins A.Program dx [("heads", .ref n_heads), ("deeds", .ref n_deeds), ("main", .ref n_main)]) → R .non H') : sp_Program_init K A (.ref x :: ([.ref t_heads, .ref t_deeds, .ref t_main] ++ [])) (upd (upd H dx (.own x)) x (.ins A.Program dx [])) R E0 :=
  ⟨x, dx, _, _, _, _, _, _, rfl, upd_same, s_heads.new hx hd, s_deeds.new hx hd, s_main.new hx hd, fun n_heads n_deeds n_main H' f_heads f_deeds f_main _ _ _ b g_heads g_deeds g_main i => q n_heads n_deeds n_main H' (new_none hx hd f_heads) (new_none hx hd f_deeds) (new_none hx hd f_main) (b.same hx hd) g_heads g_deeds g_main i⟩
end
end K62

set_option Elab.async false
set_option linter.all false
set_option maxRecDepth 100000
set_option maxHeartbeats 4000000
namespace K62
open PySem L2
section
variable {P : Program} {w : World} {K : PySem.W.Frag} {mg : Str → Option Value} {base : Heap} {A : Adr}
/-! ### heads -/
def isGa (A : Adr) (H : Hp) (a : Addr) : Bool := match H a with
  | some (.ins C _ _) => decide (C = A.GivenRow)
  | _ => false
def isG (A : Adr) (H : Hp) : V → Bool
  | .ref a => isGa A H a
  | _ => false
def HeadC (A : Adr) (H : Hp) (a : Addr) : Prop := ∃ C dx fs, H a = some (.ins C dx fs) ∧ (C = A.HandRow ∨ C = A.GivenRow ∨ C = A.OwnRow ∨ C = A.LetRow)
theorem HeadC.same {H H' : Hp} {a : Addr} (s : Same H H') (h : HeadC A H a) : HeadC A H' a := by
  obtain ⟨C, dx, fs, h, c⟩ := h
  exact ⟨C, dx, fs, s a _ h, c⟩
theorem isGa_same {H H' : Hp} {a : Addr} (s : Same H H') (h : HeadC A H a) : isGa A H' a = isGa A H a := by
  obtain ⟨C, dx, fs, h, c⟩ := h
  unfold isGa
  rw [s a _ h, h]
theorem head_ty (T : Txt K mg A) {H : Hp} {a : Addr} (h : HeadC A H a) : ∃ t, TyOf K H (.ref a) t ∧ PySem.W.kitOne K t (.ref A.GivenRow) = some (isGa A H a) := by
  obtain ⟨C, dx, fs, h, c⟩ := h
  have nd := T.nd
  simp only [List.nodup_cons, List.mem_cons, List.not_mem_nil, or_false, not_or] at nd
  have e : isGa A H a = decide (C = A.GivenRow) := by unfold isGa; rw [h]
  rw [e]
  rcases c with rfl | rfl | rfl | rfl
  · refine ⟨_, T.o_HandRow.tyOf h, (T.o_HandRow.kit T.o_GivenRow (by simp)).trans ?_⟩
    rw [decide_eq_false (by simp; exact ⟨fun z => nd.2.1.1 z.symm, fun z => nd.1.2.1 z.symm⟩), decide_eq_false (fun z => nd.2.1.1 z)]
  · refine ⟨_, T.o_GivenRow.tyOf h, (T.o_GivenRow.kit T.o_GivenRow (by simp)).trans ?_⟩
    rw [decide_eq_true (by simp), decide_eq_true rfl]
  · refine ⟨_, T.o_OwnRow.tyOf h, (T.o_OwnRow.kit T.o_GivenRow (by simp)).trans ?_⟩
    rw [decide_eq_false (by simp; exact ⟨fun z => nd.2.2.1.1 z, fun z => nd.1.2.1 z.symm⟩), decide_eq_false (fun z => nd.2.2.1.1 z.symm)]
  · refine ⟨_, T.o_LetRow.tyOf h, (T.o_LetRow.kit T.o_GivenRow (by simp)).trans ?_⟩
    rw [decide_eq_false (by simp; exact ⟨fun z => nd.2.2.1.2.1 z, fun z => nd.1.2.1 z.symm⟩), decide_eq_false (fun z => nd.2.2.1.2.1 z.symm)]
/-- a given: its name, its size -/
def RepG (A : Adr) (H : Hp) (a : Addr) (g : Str × Nat) : Prop := ∃ dx n r, H a = some (.ins A.GivenRow dx [("number", n), ("name", .str g.1), ("rank", r), ("size", .int (g.2 : Nat))]) ∧ g.2 ≤ 20
theorem RepG.same {H H' : Hp} {a : Addr} {g : Str × Nat} (s : Same H H') (h : RepG A H a g) : RepG A H' a g := by
  obtain ⟨dx, n, r, h, c⟩ := h
  exact ⟨dx, n, r, s a _ h, c⟩
abbrev RepGs (A : Adr) (H : Hp) : List Addr → List (Str × Nat) → Prop := Paired (RepG A H)
theorem RepGs.same {H H' : Hp} {gl : List Addr} {gs : List (Str × Nat)} (s : Same H H') (h : RepGs A H gl gs) : RepGs A H' gl gs := Paired.mapP h fun _ _ q => q.same s
theorem RepGs.at {H : Hp} {gl : List Addr} {gs : List (Str × Nat)} (h : RepGs A H gl gs) {i : Nat} {a : Addr} (hi : gl[i]? = some a) : ∃ g, gs[i]? = some g ∧ RepG A H a g := by
  have hl := Paired.length h
  have hlt := (List.getElem?_eq_some_iff.mp hi).1
  exact ⟨gs[i]'(by omega), List.getElem?_eq_getElem (by omega), paired_at h hi (List.getElem?_eq_getElem (by omega))⟩
/-! ### what a dict of gifts is to hold -/
def putT (tab : List (Str × Nat × Int)) (x : Str) (c : Nat × Int) : List (Str × Nat × Int) := if (tab.any fun e => decide (e.1 = x)) = true then tab.map (fun e => if e.1 = x then (e.1, c) else e) else tab ++ [(x, c)]
def stAt (b : Int) (nm : Str) (more : Int) (i : Nat) (x : Str) : Int := if x = nm then b * ((i : Int) + 1) + more else b * ((i : Int) + 1)
def tabUp (gs : List (Str × Nat)) (b : Int) (nm : Str) (more : Int) : Nat → List (Str × Nat × Int)
  | 0 => []
  | i + 1 => match gs[i]? with
    | some g => putT (tabUp gs b nm more i) g.1 (g.2, stAt b nm more i g.1)
    | none => tabUp gs b nm more i
theorem tab_step {gs : List (Str × Nat)} {b : Int} {nm : Str} {more : Int} {i : Nat} {g : Str × Nat} (h : gs[i]? = some g) : tabUp gs b nm more (i + 1) = putT (tabUp gs b nm more i) g.1 (g.2, stAt b nm more i g.1) := by
  show (match gs[i]? with | some g => putT (tabUp gs b nm more i) g.1 (g.2, stAt b nm more i g.1) | none => tabUp gs b nm more i) = _
  rw [h]
def tabOf (gs : List (Str × Nat)) (b : Int) (nm : Str) (more : Int) : List (Str × Nat × Int) := tabUp gs b nm more gs.length
def lst (c : Nat × Int) : List V := (List.range c.1).map fun (j : Nat) => .int (c.2 + (0 + (j : Int)))
def Cell (as : List Addr) (H : Hp) (v : V) (c : Nat × Int) : Prop := (c.1 = 0 ∧ v = .int c.2) ∨ ((c.1 ≠ 0 ∧ c.1 ≤ 20) ∧ ∃ p, p ∈ as ∧ v = .ref p ∧ H p = some (.lst (lst c)))
abbrev Tab (as : List Addr) (H : Hp) : List (Key × V) → List (Str × Nat × Int) → Prop := Paired fun p q => p.1 = .inr q.1 ∧ Cell as H p.2 q.2
theorem Cell.mono {as as' : List Addr} {H H' : Hp} {v : V} {c : Nat × Int} (h : Cell as H v c) (ha : ∀ p ∈ as, p ∈ as') (hh : ∀ p ∈ as, ∀ u, H p = some u → H' p = some u) : Cell as' H' v c := by
  rcases h with h | ⟨h0, p, h1, h2, h3⟩
  · exact .inl h
  · exact .inr ⟨h0, p, ha p h1, h2, hh p h1 _ h3⟩
theorem Tab.mono {as as' : List Addr} {H H' : Hp} {kvs : List (Key × V)} {tab : List (Str × Nat × Int)} (h : Tab as H kvs tab) (ha : ∀ p ∈ as, p ∈ as') (hh : ∀ p ∈ as, ∀ u, H p = some u → H' p = some u) : Tab as' H' kvs tab :=
  Paired.mapP h fun _ _ q => ⟨q.1, q.2.mono ha hh⟩
theorem Tab.any {as : List Addr} {H : Hp} {kvs : List (Key × V)} {tab : List (Str × Nat × Int)} (r : Tab as H kvs tab) (x : Str) : (kvs.any fun kv => decide (kv.1 = .inr x)) = tab.any fun e => decide (e.1 = x) := by
  induction r with
  | nil => rfl
  | @cons p q ps qs h t ih =>
    rw [List.any_cons, List.any_cons, ih, h.1]
    congr 1
    exact decide_eq_decide.mpr ⟨fun z => Sum.inr.inj z, fun z => by rw [z]⟩
theorem Tab.put {as : List Addr} {H : Hp} {kvs : List (Key × V)} {tab : List (Str × Nat × Int)} (r : Tab as H kvs tab) (x : Str) {v : V} {c : Nat × Int} (hc : Cell as H v c) : Tab as H (putK kvs (.inr x) v) (putT tab x c) := by
  unfold putK putT
  rw [r.any x]
  by_cases e : (tab.any fun e => decide (e.1 = x)) = true
  · rw [if_pos e, if_pos e]
    clear e
    induction r with
    | nil => exact .nil
    | @cons p q ps qs h t ih =>
      rw [List.map_cons, List.map_cons]
      refine .cons ?_ ih
      obtain ⟨h1, h2⟩ := h
      by_cases e : q.1 = x
      · rw [if_pos (by rw [h1, e]), if_pos e]; exact ⟨h1, hc⟩
      · rw [if_neg (fun z => e (Sum.inr.inj (h1.symm.trans z))), if_neg e]; exact ⟨h1, h2⟩
  · rw [if_neg e, if_neg e]
    exact Paired.snoc r ⟨rfl, hc⟩
theorem lst_flat (c : Nat × Int) : (lst c).all flatR = true := by
  rw [List.all_eq_true]
  intro x hx
  obtain ⟨j, _, rfl⟩ := List.mem_map.mp hx
  rfl
theorem Cell.eq {as bs : List Addr} {H : Hp} {v v' : V} {c : Nat × Int} (h : Cell as H v c) (h' : Cell bs H v' c) : ValEq K H v v' := by
  rcases h with ⟨h0, rfl⟩ | ⟨h0, p, h1, rfl, h3⟩
  · rcases h' with ⟨_, rfl⟩ | ⟨h0', _⟩
    · exact .inl ⟨rfl, rfl⟩
    · exact absurd h0 h0'.1
  · rcases h' with ⟨h0', _⟩ | ⟨_, p', _, rfl, h3'⟩
    · exact absurd h0' h0.1
    · exact .inr ⟨p, p', _, rfl, rfl, SqL.of h3, SqL.of h3', lst_flat c⟩
theorem Tab.eq {as bs : List Addr} {H : Hp} {kvs : List (Key × V)} {tab : List (Str × Nat × Int)} (r : Tab as H kvs tab) : ∀ {lvs : List (Key × V)}, Tab bs H lvs tab → kvs.length = lvs.length ∧ ∀ k v, valV kvs k = some v → ∃ v', valV lvs k = some v' ∧ ValEq K H v v' := by
  induction r with
  | nil => intro lvs r'; cases r'; exact ⟨rfl, fun k v z => by cases z⟩
  | @cons p q ps qs h t ih =>
    intro lvs r'
    cases r' with
    | @cons p' _ ps' _ h' t' =>
      obtain ⟨e1, e2⟩ := ih t'
      refine ⟨by rw [List.length_cons, List.length_cons, e1], fun k v z => ?_⟩
      by_cases hk : p.1 = k
      · rw [valV_pos hk] at z
        cases z
        exact ⟨p'.2, valV_pos (h'.1.trans (h.1.symm.trans hk)), h.2.eq h'.2⟩
      · rw [valV_neg hk] at z
        rw [valV_neg (fun z => hk (h.1.trans (h'.1.symm.trans z)))]
        exact e2 k v z
/-- the dict at d, its lists among as -/
def RepT (H : Hp) (d : Addr) (as : List Addr) (tab : List (Str × Nat × Int)) : Prop := ∃ kvs, H d = some (.dK kvs) ∧ Tab as H kvs tab ∧ kvs.length ≤ 100
theorem RepT.keep {H H' : Hp} {d : Addr} {as : List Addr} {tab : List (Str × Nat × Int)} (h : RepT H d as tab) (hh : ∀ p ∈ d :: as, ∀ u, H p = some u → H' p = some u) : RepT H' d as tab := by
  obtain ⟨kvs, h1, h2, h3⟩ := h
  exact ⟨kvs, hh d (by simp) _ h1, h2.mono (fun _ q => q) fun p hp => hh p (by simp [hp]), h3⟩
/-- a dict or a list stands there -/
def DL (H : Hp) (a : Addr) : Prop := (∃ kvs, H a = some (.dK kvs)) ∨ ∃ xs, H a = some (.lst xs)
theorem DL.keep {H H' : Hp} {a : Addr} (h : DL H a) (k : ∀ o, H a = some o → H' a = some o) : DL H' a := by
  rcases h with ⟨x, h⟩ | ⟨x, h⟩
  · exact .inl ⟨x, k _ h⟩
  · exact .inr ⟨x, k _ h⟩
theorem DL.ne {H : Hp} {a : Addr} (h : DL H a) : H a ≠ none := by
  rcases h with ⟨x, h⟩ | ⟨x, h⟩ <;> (rw [h]; intro z; cases z)
def sp_gift_made : Sp := fun vs H Q _ => ∃ (z : Nat) (st : Int), vs = [.int (z : Nat), .int st] ∧ z ≤ 20 ∧ ∀ v H', Same H H' → ((z = 0 ∧ v = .int st) ∨ (z ≠ 0 ∧ ∃ p, v = .ref p ∧ H p = none ∧ H' p = some (.lst (lst (z, st))))) → Q v H'
theorem h_gift_made (T : Txt K mg A) : Has P w K mg base 1 "gift_made" ["size", "start"] sp_gift_made := by
  refine T.gift_made.has sc_gift_made (fun vs H Q E h => ?_) (fun f cdv A' outer s H vs Q E hr hu h => ?_)
  · obtain ⟨z, st, rfl, _⟩ := h
    rfl
  · obtain ⟨z, st, rfl, hz, q⟩ := h
    refine ⟨_, (pss_cons (ps_if (pt_cmpR (o_eqU hu) (fv 0) (pe_int) (nomark _))
      (pss_one (ps_ret (fv 1)))
      pss_nil)
    (pss_one (ps_ret (pe_comp (N := ["place", "start"]) (own := 1) (fr := [1]) (CompOk.of (by kernel_rfl!)) rfl (pi_range1 rfl T.z_range (pa_cons (fv 0) pa_nil)) (fun b => pg_name (i := 0) (show List.Nodup (["place", "start"] : List PySem.Str) by decide +kernel) rfl (by first | exact Or.inl rfl | exact Or.inr rfl)) (fun b => pf_nil) (fun b => pe_op o_add (fv 1) (fv 0)))))), ?_⟩
    refine ⟨rfl, _, rfl, ?_⟩
    rw [vint]
    by_cases h : (z : Int) = 0
    · rw [decide_eq_true h]
      exact iteT (q _ _ (Same.refl _) (.inl ⟨by omega, rfl⟩))
    · rw [decide_eq_false h]
      refine iteF ?_
      refine ⟨_, rfl, by omega, by omega, ?_⟩
      refine comp_range (fun _ => true) (fun j => .int (st + (0 + (j : Int)))) (small1000 (by omega)) (fun cb i H2 R hi sm k => k H2 (Same.refl _)) (fun cb i H2 R hi _ sm k => k H2 (Same.refl _)) fun D H2 hD sm e => ?_
      refine q _ _ sm (.inr ⟨by omega, D, rfl, hD, ?_⟩)
      rw [e, filter_true, Int.toNat_natCast]
      rfl
/-- a program's heads -/
def RepP (K : PySem.W.Frag) (A : Adr) (H : Hp) (pr : Addr) (hs : List Addr) : Prop := ∃ dx lh ld lm, H pr = some (.ins A.Program dx [("heads", .ref lh), ("deeds", ld), ("main", lm)]) ∧ SqL K H lh (hs.map V.ref) ∧ ∀ a ∈ hs, HeadC A H a
theorem RepP.same {H H' : Hp} {pr : Addr} {hs : List Addr} (s : Same H H') (h : RepP K A H pr hs) : RepP K A H' pr hs := by
  obtain ⟨dx, lh, ld, lm, h1, h2, h3⟩ := h
  exact ⟨dx, lh, ld, lm, s _ _ h1, s.seq h2, fun a ha => (h3 a ha).same s⟩
theorem filt_map (A : Adr) (H : Hp) (hs : List Addr) : (hs.map V.ref).filter (isG A H) = (hs.filter (isGa A H)).map V.ref := by
  rw [List.filter_map]
  rfl
theorem filt_same {H H' : Hp} (s : Same H H') {hs : List Addr} (h : ∀ a ∈ hs, HeadC A H a) : hs.filter (isGa A H') = hs.filter (isGa A H) := List.filter_congr fun a ha => isGa_same s (h a ha)
structure In62 (K : PySem.W.Frag) (A : Adr) (H : Hp) (pr : Addr) (hs gl : List Addr) (gs : List (Str × Nat)) : Prop where
  rp : RepP K A H pr hs
  len : hs.length ≤ 70
  eg : hs.filter (isGa A H) = gl
  rg : RepGs A H gl gs
theorem In62.same {H H' : Hp} {pr : Addr} {hs gl : List Addr} {gs : List (Str × Nat)} (s : Same H H') (h : In62 K A H pr hs gl gs) : In62 K A H' pr hs gl gs := by
  obtain ⟨dx, lh, ld, lm, h1, h2, h3⟩ := h.rp
  exact ⟨h.rp.same s, h.len, (filt_same s h3).trans h.eg, h.rg.same s⟩
theorem In62.gle {H : Hp} {pr : Addr} {hs gl : List Addr} {gs : List (Str × Nat)} (h : In62 K A H pr hs gl gs) : gl.length ≤ 70 := by
  have := List.length_filter_le (isGa A H) hs
  have e := h.len
  rw [h.eg] at this
  omega
def sp_gifts_made (K : PySem.W.Frag) (A : Adr) : Sp := fun vs H Q _ => ∃ (pr : Addr) (hs gl : List Addr) (gs : List (Str × Nat)) (b more : Int) (nm : Str), vs = [.ref pr, .int b, .str nm, .int more] ∧ In62 K A H pr hs gl gs ∧ 0 ≤ b ∧ b ≤ 10 ∧
  ∀ d as H', Same H H' → (∀ a ∈ d :: as, H a = none ∧ DL H' a) → RepT H' d as (tabOf gs b nm more) → Q (.ref d) H'
theorem h_gifts_made (T : Txt K mg A) : Has P w K mg base 2 "gifts_made" ["program", "begin", "name", "more"] (sp_gifts_made K A) := by
  have D_gift_made := h_gift_made (P := P) (w := w) (base := base) T
  refine T.gifts_made.has sc_gifts_made (fun vs H Q E h => ?_) (fun f cdv A' outer s H vs Q E hr hu h => ?_)
  · obtain ⟨pr, hs, gl, gs, b, more, nm, rfl, _⟩ := h
    rfl
  · obtain ⟨pr, hs, gl, gs, b, more, nm, rfl, h62, b0, b1, q⟩ := h
    obtain ⟨dx, lh, ld, lm, hp1, hp2, hp3⟩ := h62.rp
    have hlen := h62.len
    have gle := h62.gle
    refine ⟨_, (pss_cons (ps_setComp (j := 4) (N := ["head"]) (own := 1) (fr := []) (CompOk.of (by kernel_rfl!)) rfl sc_gifts_made.nd rfl (Or.inl rfl) (pi_any (pe_fld (fv 0) rfl)) (fun b => pg_name (i := 0) (show List.Nodup (["head"] : List PySem.Str) by decide +kernel) rfl (by first | exact Or.inl rfl | exact Or.inr rfl)) (fun b => pf_one (pt_tru (pe_callB c_isinst rfl T.z_isinstance (by boot_by_name) (pa_cons (fv 0) (pa_cons (pe_gtup T.o_GivenRow.mg) pa_nil))) (fun _ => rfl))) (fun b => fv 0))
    (pss_cons (ps_set (i := 5) sc_gifts_made.nd rfl (Or.inl rfl) (pe_dnewK))
    (pss_cons (ps_for PassesOwn.never rfl (pi_enum rfl T.z_enumerate (pa_cons (fv 4) pa_nil)) (pg_tup rfl (pgs_cons (pg_name (i := 6) sc_gifts_made.nd rfl (by first | exact Or.inl rfl | exact Or.inr rfl)) (pgs_cons (pg_name (i := 7) sc_gifts_made.nd rfl (by first | exact Or.inl rfl | exact Or.inr rfl)) (pgs_nil))))
      (pss_cons (ps_set (i := 8) sc_gifts_made.nd rfl (Or.inl rfl) (pe_op o_mulA (fv 1) (pe_op o_add (fv 6) (pe_int))))
      (pss_cons (ps_if (pt_cmpR (o_eqU hu) (pe_fld (fv 7) rfl) (fv 2) (nomark _))
        (pss_one (ps_aug (i := 8) sc_gifts_made.nd rfl (by first | exact Or.inl rfl | exact Or.inr rfl) (fv 3) ip_add))
        pss_nil)
      (pss_one (ps_asg (pe_callD D_gift_made hr (pa_cons (pe_fld (fv 7) rfl) (pa_cons (fv 8) pa_nil))) (pg_sub (fv 5) (pe_fld (fv 7) rfl) (st_all hu set_list)))))))
    (pss_one (ps_ret (fv 5)))))), ?_⟩
    refine ⟨pr, A.Program, dx, _, _, rfl, hp1, T.o_Program.cl, T.n_Program_heads, rfl, Or.inl ⟨⟨_, hp2⟩, ?_⟩⟩
    refine comp_list (isG A H) id hp2 (small1000 (by rw [List.length_map]; omega)) (fun cb x H2 R hx sm k => ?_) (fun cb x H2 R hx _ sm k => k H2 (Same.refl _)) fun lg H2 hlg s2 e2 => ?_
    · obtain ⟨a, ha, rfl⟩ := List.mem_map.mp hx
      obtain ⟨t, ht, hk⟩ := head_ty T ((hp3 a ha).same sm)
      rw [isGa_same sm (hp3 a ha)] at hk
      exact ⟨_, _, t, isGa A H a, rfl, (fun z => by cases z), ht, hk, isGa A H a, rfl, k H2 (Same.refl _)⟩
    · rw [List.map_id, filt_map, h62.eg] at e2
      intro d hd
      have s3 : Same H (upd H2 d (.dK [])) := s2.trans (Same.upd hd _)
      have hnd : H d = none := s2.free hd
      refine ⟨lg, rfl, ⟨_, SqL.of (by rw [upd_ne (ne_of_none e2 hd)]; exact e2)⟩, ?_⟩
      have hne : lg ≠ d := ne_of_none e2 hd
      refine for_enum (K := K) (xs := gl.map V.ref) (fun i σ H3 => Same H H3 ∧ H3 lg = some (.lst (gl.map V.ref)) ∧ (∃ as kvs, (∀ a ∈ as, H a = none ∧ DL H3 a) ∧ H3 d = some (.dK kvs) ∧ Tab as H3 kvs (tabUp gs b nm more i) ∧ kvs.length ≤ i) ∧ ∃ v6 v7 v8, σ = [some (.ref pr), some (.int b), some (.str nm), some (.int more), some (.ref lg), some (.ref d), v6, v7, v8])
        ⟨s3, by rw [upd_ne hne]; exact e2, ⟨[], [], (fun a ha => by cases ha), upd_same, .nil, Nat.le_refl _⟩, none, none, none, rfl⟩ (fun i σ H3 _ h => SqL.of h.2.1) ?_ ?_
      · rintro i x σ H3 t hi ⟨s4, h4l, ⟨as, kvs, has, hd4, htab, hln⟩, v6, v7, v8, rfl⟩ ht
        rw [List.getElem?_map] at hi
        obtain ⟨ga, hga, rfl⟩ : ∃ ga, gl[i]? = some ga ∧ V.ref ga = x := by
          cases h : gl[i]? with
          | none => rw [h] at hi; cases hi
          | some ga => rw [h] at hi; exact ⟨ga, rfl, Option.some.inj hi⟩
        have hilt : i < gl.length := (List.getElem?_eq_some_iff.mp hga).1
        obtain ⟨g, hg, gdx, gn, gr, hG, hz⟩ := h62.rg.at hga
        have s5 : Same H3 (upd H3 t (.tup [.int (i : Nat), .ref ga])) := Same.upd ht _
        have ht4 : upd H3 t (.tup [.int (i : Nat), .ref ga]) t = some (.tup [.int (i : Nat), .ref ga]) := upd_same
        generalize upd H3 t (.tup [.int (i : Nat), .ref ga]) = H4 at s5 ht4 ⊢
        have hG4 := (s4.trans s5) _ _ hG
        have pf : ∀ v H5, Same H4 H5 → ((g.2 = 0 ∧ v = .int (stAt b nm more i g.1)) ∨ (g.2 ≠ 0 ∧ ∃ p, v = .ref p ∧ H4 p = none ∧ H5 p = some (.lst (lst (g.2, stAt b nm more i g.1))))) →
            H5 d = some (.dK kvs) ∧ Same H (upd H5 d (.dK (putK kvs (.inr g.1) v))) ∧ upd H5 d (.dK (putK kvs (.inr g.1) v)) lg = some (.lst (gl.map V.ref)) ∧
            ∃ as' kvs', (∀ a ∈ as', H a = none ∧ DL (upd H5 d (.dK (putK kvs (.inr g.1) v))) a) ∧ upd H5 d (.dK (putK kvs (.inr g.1) v)) d = some (.dK kvs') ∧ Tab as' (upd H5 d (.dK (putK kvs (.inr g.1) v))) kvs' (tabUp gs b nm more (i + 1)) ∧ kvs'.length ≤ i + 1 := by
          intro v H5 s6 hv
          have s7 : Same H3 H5 := s5.trans s6
          have hd5 : H5 d = some (.dK kvs) := s7 _ _ hd4
          have sH : Same H (upd H5 d (.dK (putK kvs (.inr g.1) v))) := fun c o hc => by
            rw [upd_ne (ne_of_none hc hnd)]; exact (s4.trans s7) c o hc
          have keep : ∀ c o, c ≠ d → H3 c = some o → upd H5 d (.dK (putK kvs (.inr g.1) v)) c = some o := fun c o hc h => by rw [upd_ne hc]; exact s7 c o h
          have asd : ∀ p u, H3 p = some (.lst u) → p ≠ d := fun p u h z => by rw [z, hd4] at h; cases h
          have lk := length_putK kvs (.inr g.1) v
          refine ⟨hd5, sH, keep _ _ hne h4l, ?_⟩
          rw [tab_step hg]
          rcases hv with ⟨z0, rfl⟩ | ⟨z0, p, rfl, hp4, hp5⟩
          · refine ⟨as, _, fun a ha => ⟨(has a ha).1, ?_⟩, upd_same, ?_, by omega⟩
            · by_cases e : a = d
              · rw [e]; exact .inl ⟨_, upd_same⟩
              · exact (has a ha).2.keep fun o h => keep a o e h
            · refine Tab.put ?_ g.1 (.inl ⟨z0, rfl⟩)
              refine Paired.mapP htab fun x y h => ⟨h.1, ?_⟩
              rcases h.2 with h | ⟨h0, p, h1, h2, h3⟩
              · exact .inl h
              · exact .inr ⟨h0, p, h1, h2, keep p _ (asd p _ h3) h3⟩
          · have hpd : p ≠ d := fun z => by rw [z, s5 _ _ hd4] at hp4; cases hp4
            refine ⟨p :: as, _, fun a ha => ?_, upd_same, ?_, by omega⟩
            · rcases List.mem_cons.mp ha with rfl | ha
              · refine ⟨(s4.trans s5).free hp4, ?_⟩
                exact .inr ⟨_, by rw [upd_ne hpd]; exact hp5⟩
              · refine ⟨(has a ha).1, ?_⟩
                by_cases e : a = d
                · rw [e]; exact .inl ⟨_, upd_same⟩
                · exact (has a ha).2.keep fun o h => keep a o e h
            · refine Tab.put ?_ g.1 (.inr ⟨⟨z0, hz⟩, p, by simp, rfl, by rw [upd_ne hpd]; exact hp5⟩)
              refine Paired.mapP htab fun x y h => ⟨h.1, ?_⟩
              rcases h.2 with h | ⟨h0, p', h1, h2, h3⟩
              · exact .inl h
              · exact .inr ⟨h0, p', by simp [h1], h2, keep p' _ (asd p' _ h3) h3⟩
        refine ⟨t, _, rfl, SqT.of ht4, rfl, _, _, rfl, _, _, rfl, rfl, ?_⟩
        refine ⟨small_mul (by omega) (by omega), ga, A.GivenRow, gdx, _, _, rfl, hG4, T.o_GivenRow.cl, T.n_GivenRow_name, rfl, rfl, _, rfl, ?_⟩
        rw [vstr]
        by_cases hn : g.1 = nm
        · rw [decide_eq_true hn]
          refine iteT ⟨_, rfl, _, _, rfl, rfl, ?_⟩
          refine ⟨ga, A.GivenRow, gdx, _, _, rfl, hG4, T.o_GivenRow.cl, T.n_GivenRow_size, rfl, g.2, b * ((i : Int) + 1) + more, rfl, hz, fun v H5 s6 hv => ?_⟩
          have e : stAt b nm more i g.1 = b * ((i : Int) + 1) + more := if_pos hn
          rw [← e] at hv
          obtain ⟨p1, p2, p3, p4⟩ := pf v H5 s6 hv
          exact ⟨ga, A.GivenRow, gdx, _, _, rfl, s6 _ _ hG4, T.o_GivenRow.cl, T.n_GivenRow_name, rfl, _, DPut.k (k := .inr g.1) p1 (small1000 (by omega)), p2, p3, p4, _, _, _, rfl⟩
        · rw [decide_eq_false hn]
          refine iteF ?_
          refine ⟨ga, A.GivenRow, gdx, _, _, rfl, hG4, T.o_GivenRow.cl, T.n_GivenRow_size, rfl, g.2, _, rfl, hz, fun v H5 s6 hv => ?_⟩
          have e : stAt b nm more i g.1 = b * ((i : Int) + 1) := if_neg hn
          rw [← e] at hv
          obtain ⟨p1, p2, p3, p4⟩ := pf v H5 s6 hv
          exact ⟨ga, A.GivenRow, gdx, _, _, rfl, s6 _ _ hG4, T.o_GivenRow.cl, T.n_GivenRow_name, rfl, _, DPut.k (k := .inr g.1) p1 (small1000 (by omega)), p2, p3, p4, _, _, _, rfl⟩
      · rintro σ H3 ⟨s4, h4l, ⟨as, kvs, has, hd4, htab, hln⟩, v6, v7, v8, rfl⟩
        rw [List.length_map] at htab hln
        rw [Paired.length h62.rg] at htab
        refine q d as H3 s4 (fun a ha => ?_) ⟨kvs, hd4, htab, by omega⟩
        rcases List.mem_cons.mp ha with rfl | ha
        · exact ⟨hnd, .inl ⟨_, hd4⟩⟩
        · exact has a ha
end
end K62

set_option Elab.async false
set_option linter.all false
set_option maxRecDepth 100000
set_option maxHeartbeats 4000000
namespace K62
open PySem L2
section
variable {P : Program} {w : World} {K : PySem.W.Frag} {mg : Str → Option Value} {base : Heap} {A : Adr}
/-! ### the twelve tries -/
/-- a pair: its tuple; of each dict its address and the addresses of its lists -/
structure Pr where
  t : Addr
  d0 : Addr
  a0 : List Addr
  d1 : Addr
  a1 : List Addr
def Pr.fps (e : Pr) : List (List Addr) := [e.d0 :: e.a0, e.d1 :: e.a1]
def begAt (k : Nat) : Int := ((k / 3 : Nat) : Int)
def moreAt (k : Nat) : Int := if k % 3 = 0 then 1 else if k % 3 = 1 then 2 else 5
structure PrOk (gs : List (Str × Nat)) (nm : Str) (H : Hp) (k : Nat) (e : Pr) : Prop where
  tup : H e.t = some (.tup [.ref e.d0, .ref e.d1])
  r0 : RepT H e.d0 e.a0 (tabOf gs (begAt k) nm 0)
  r1 : RepT H e.d1 e.a1 (tabOf gs (begAt k) nm (moreAt k))
theorem PrOk.same {gs : List (Str × Nat)} {nm : Str} {H H' : Hp} {k : Nat} {e : Pr} (h : PrOk gs nm H k e) (s : Same H H') : PrOk gs nm H' k e :=
  ⟨s _ _ h.tup, h.r0.keep fun p _ u q => s p u q, h.r1.keep fun p _ u q => s p u q⟩
/-- two lists of addresses without a common one -/
def Disj (a b : List Addr) : Prop := ∀ x ∈ a, x ∉ b
/-- the pairs stand in H, apart from one another and from all that stood in H0 -/
structure Prs (gs : List (Str × Nat)) (nm : Str) (H0 H : Hp) (es : List Pr) : Prop where
  ok : ∀ k e, es[k]? = some e → PrOk gs nm H k e
  apart : (es.flatMap Pr.fps).Pairwise Disj
  young : ∀ f ∈ es.flatMap Pr.fps, ∀ a ∈ f, H0 a = none ∧ DL H a
theorem Prs.same {gs : List (Str × Nat)} {nm : Str} {H0 H H' : Hp} {es : List Pr} (h : Prs gs nm H0 H es) (s : Same H H') : Prs gs nm H0 H' es :=
  ⟨fun k e he => (h.ok k e he).same s, h.apart, fun f hf a ha => ⟨(h.young f hf a ha).1, (h.young f hf a ha).2.keep fun o q => s a o q⟩⟩
/-- behind a change of an object that is no dict's and no list's of them -/
theorem Prs.upd {gs : List (Str × Nat)} {nm : Str} {H0 H : Hp} {es : List Pr} (h : Prs gs nm H0 H es) {x : Addr} {o : HO} (hx : ∀ f ∈ es.flatMap Pr.fps, x ∉ f) (ht : ∀ e ∈ es, x ≠ e.t) : Prs gs nm H0 (upd H x o) es := by
  have mem : ∀ e ∈ es, ∀ f ∈ e.fps, f ∈ es.flatMap Pr.fps := fun e he f hf => List.mem_flatMap.mpr ⟨e, he, hf⟩
  refine ⟨fun k e he => ?_, h.apart, fun f hf a ha => ⟨(h.young f hf a ha).1, ?_⟩⟩
  · have hm := List.mem_of_getElem? he
    obtain ⟨h1, h2, h3⟩ := h.ok k e he
    refine ⟨by rw [upd_ne (Ne.symm (ht e hm))]; exact h1, h2.keep fun p hp u q => ?_, h3.keep fun p hp u q => ?_⟩
    · rw [upd_ne (fun z => hx _ (mem e hm (e.d0 :: e.a0) (by simp [Pr.fps])) (by rw [← z]; exact hp))]; exact q
    · rw [upd_ne (fun z => hx _ (mem e hm (e.d1 :: e.a1) (by simp [Pr.fps])) (by rw [← z]; exact hp))]; exact q
  · exact (h.young f hf a ha).2.keep fun o q => by rw [upd_ne (fun z => hx f hf (by rw [← z]; exact ha))]; exact q
theorem Prs.snoc {gs : List (Str × Nat)} {nm : Str} {H0 H1 H2 H3 : Hp} {es : List Pr} {e : Pr} (h : Prs gs nm H0 H1 es) (s0 : ∀ a, H1 a = none → H0 a = none) (s1 : Same H1 H2) (s2 : Same H2 H3) (n0 : ∀ a ∈ e.d0 :: e.a0, H1 a = none ∧ DL H2 a) (n1 : ∀ a ∈ e.d1 :: e.a1, H2 a = none ∧ DL H3 a)
    (ok : PrOk gs nm H3 es.length e) : Prs gs nm H0 H3 (es ++ [e]) := by
  have s13 := s1.trans s2
  have h3 := h.same s13
  have up : ∀ {H H' : Hp} {a : Addr}, Same H H' → DL H a → DL H' a := fun s h => h.keep fun o q => s _ o q
  refine ⟨fun k x hk => ?_, ?_, fun f hf a ha => ?_⟩
  · by_cases hlt : k < es.length
    · rw [List.getElem?_append_left hlt] at hk
      exact h3.ok k x hk
    · rw [List.getElem?_append_right (by omega)] at hk
      have hk0 : k = es.length := by
        by_cases z : k - es.length = 0
        · omega
        · rw [List.getElem?_eq_none (by simp; omega)] at hk; cases hk
      subst hk0
      rw [Nat.sub_self] at hk
      simp at hk
      subst hk
      exact ok
  · rw [List.flatMap_append, List.pairwise_append]
    refine ⟨h.apart, ?_, fun f hf g hg x hx hx' => ?_⟩
    · simp only [List.flatMap_cons, List.flatMap_nil, List.append_nil, Pr.fps, List.pairwise_cons, List.mem_singleton, forall_eq, List.Pairwise.nil, and_true, List.not_mem_nil, false_implies, implies_true]
      intro x hx hx'
      exact (n0 x hx).2.ne (n1 x hx').1
    · have hy := (h.young f hf x hx).2
      simp only [List.flatMap_cons, List.flatMap_nil, List.append_nil, Pr.fps, List.mem_cons, List.not_mem_nil, or_false] at hg
      rcases hg with rfl | rfl
      · exact hy.ne (n0 x hx').1
      · exact (up s1 hy).ne (n1 x hx').1
  · rw [List.flatMap_append, List.mem_append] at hf
    rcases hf with hf | hf
    · exact h3.young f hf a ha
    · simp only [List.flatMap_cons, List.flatMap_nil, List.append_nil, Pr.fps, List.mem_cons, List.not_mem_nil, or_false] at hf
      rcases hf with rfl | rfl
      · exact ⟨s0 a (n0 a ha).1, up s2 (n0 a ha).2⟩
      · exact ⟨s0 a (s1.free (n1 a ha).1), (n1 a ha).2⟩
def sp_tried (K : PySem.W.Frag) (A : Adr) : Sp := fun vs H Q _ => ∃ (pr : Addr) (hs gl : List Addr) (gs : List (Str × Nat)) (nm : Str), vs = [.ref pr, .str nm] ∧ In62 K A H pr hs gl gs ∧
  ∀ l es H', Same H H' → H' l = some (.lst (es.map fun e => .ref e.t)) → es.length = 12 → Prs gs nm H H' es → (∀ f ∈ es.flatMap Pr.fps, l ∉ f) → Q (.ref l) H'
theorem h_tried (T : Txt K mg A) : Has P w K mg base 3 "tried" ["program", "name"] (sp_tried K A) := by
  have D_gifts_made := h_gifts_made (P := P) (w := w) (base := base) T
  obtain ⟨aB, hc_BEGINS, sB, _⟩ := T.c_BEGINS
  obtain ⟨aM, hc_MORES, sM, _⟩ := T.c_MORES
  refine T.tried.has sc_tried (fun vs H Q E h => ?_) (fun f cdv A' outer s H vs Q E hr hu h => ?_)
  · obtain ⟨pr, hs, gl, gs, nm, rfl, _⟩ := h
    rfl
  · obtain ⟨pr, hs, gl, gs, nm, rfl, h62, q⟩ := h
    refine ⟨_, (pss_cons (ps_set (i := 2) sc_tried.nd rfl (Or.inl rfl) (pe_lst (pa_nil)))
    (pss_cons (ps_for PassesOwn.never rfl (pi_any (pe_gtup hc_BEGINS)) (pg_name (i := 3) sc_tried.nd rfl (by first | exact Or.inl rfl | exact Or.inr rfl))
      (pss_one (ps_for PassesOwn.never rfl (pi_any (pe_gtup hc_MORES)) (pg_name (i := 4) sc_tried.nd rfl (by first | exact Or.inl rfl | exact Or.inr rfl))
        (pss_one (ps_expr (m_append (fv 2) (pa_cons (pe_tup (pa_cons (pe_callD D_gifts_made hr (pa_cons (fv 0) (pa_cons (fv 3) (pa_cons (fv 1) (pa_cons (pe_int) pa_nil))))) (pa_cons (pe_callD D_gifts_made hr (pa_cons (fv 0) (pa_cons (fv 3) (pa_cons (fv 1) (pa_cons (fv 4) pa_nil))))) pa_nil))) pa_nil)))))))
    (pss_one (ps_ret (fv 2))))), ?_⟩
    refine ⟨(by decide : 0 ≤ sizeLine), fun l hl => Or.inr ⟨⟨_, sB _⟩, ?_⟩⟩
    refine for_tup (K := K) (xs := [.int 0, .int 1, .int 2, .int 3]) (fun i σ H3 => Same H H3 ∧ (∃ es, es.length = 3 * i ∧ H3 l = some (.lst (es.map fun e => .ref e.t)) ∧ Prs gs nm (L2.upd H l (.lst [])) H3 es) ∧ ∃ v3 v4, σ = [some (.ref pr), some (.str nm), some (.ref l), v3, v4])
      ⟨Same.upd hl _, ⟨[], rfl, upd_same, ⟨fun k e z => by simp at z, .nil, fun f hf => by simp at hf⟩⟩, none, none, rfl⟩ (fun i σ H3 _ h => sB _) ?_ ?_
    · rintro i x σ H3 hi ⟨s3, ⟨es, hes, h3l, hprs⟩, v3, v4, rfl⟩
      have hi4 : i < 4 := (List.getElem?_eq_some_iff.mp hi).1
      have hx : x = .int (i : Nat) := by
        obtain rfl | rfl | rfl | rfl : i = 0 ∨ i = 1 ∨ i = 2 ∨ i = 3 := by omega
        all_goals exact (Option.some.inj hi).symm
      subst hx
      refine Or.inr ⟨⟨_, sM _⟩, ?_⟩
      refine for_tup (K := K) (xs := [.int 1, .int 2, .int 5]) (fun j σ H4 => Same H H4 ∧ (∃ es, es.length = 3 * i + j ∧ H4 l = some (.lst (es.map fun e => .ref e.t)) ∧ Prs gs nm (L2.upd H l (.lst [])) H4 es) ∧ ∃ v4, σ = [some (.ref pr), some (.str nm), some (.ref l), some (.int (i : Nat)), v4])
        ⟨s3, ⟨es, hes, h3l, hprs⟩, v4, rfl⟩ (fun i σ H3 _ h => sM _) ?_ ?_
      · clear hprs h3l hes es s3 v3 v4 H3
        rintro j x σ H3 hj ⟨s3, ⟨es, hes, h3l, hprs⟩, v4, rfl⟩
        have hj3 : j < 3 := (List.getElem?_eq_some_iff.mp hj).1
        have eb : begAt es.length = (i : Int) := by
          unfold begAt
          rw [hes, show (3 * i + j) / 3 = i by omega]
        have em : x = .int (moreAt es.length) := by
          unfold moreAt
          rw [hes, show (3 * i + j) % 3 = j by omega]
          obtain rfl | rfl | rfl : j = 0 ∨ j = 1 ∨ j = 2 := by omega
          all_goals exact (Option.some.inj hj).symm
        subst em
        refine ⟨Or.inl ⟨rfl, _, SqL.of h3l⟩, pr, hs, gl, gs, (i : Int), 0, nm, rfl, h62.same s3, by omega, by omega, fun d0 a0 H4 s4 n0 r0 => ?_⟩
        refine ⟨pr, hs, gl, gs, (i : Int), _, nm, rfl, h62.same (s3.trans s4), by omega, by omega, fun d1 a1 H5 s5 n1 r1 => ?_⟩
        refine ⟨(by decide : 2 ≤ sizeLine), fun t ht => ?_⟩
        have s6 : Same H5 (upd H5 t (.tup [.ref d0, .ref d1])) := Same.upd ht _
        have s36 := s4.trans (s5.trans s6)
        have h6l := s36 _ _ h3l
        refine ⟨l, _, _, rfl, rfl, h6l, small1000 (by rw [List.length_map]; omega), ?_⟩
        have n1' : ∀ a ∈ d1 :: a1, H4 a = none ∧ DL (L2.upd H5 t (.tup [.ref d0, .ref d1])) a := fun a ha => ⟨(n1 a ha).1, (n1 a ha).2.keep fun o q => s6 a o q⟩
        have ok : PrOk gs nm (upd H5 t (.tup [.ref d0, .ref d1])) es.length ⟨t, d0, a0, d1, a1⟩ :=
          ⟨upd_same, by rw [eb]; exact r0.keep fun p _ u z => (s5.trans s6) p u z, by rw [eb]; exact r1.keep fun p _ u z => s6 p u z⟩
        have hp := hprs.snoc (e := ⟨t, d0, a0, d1, a1⟩) (fun a ha => by rw [upd_ne (fun z => by rw [z, h3l] at ha; cases ha)]; exact s3.free ha) s4 (s5.trans s6) n0 n1' ok
        have hnl : H l = none := hl
        refine ⟨fun b o hb => ?_, ⟨es ++ [⟨t, d0, a0, d1, a1⟩], by rw [List.length_append, hes]; rfl, ?_, hp.upd (fun f hf hx => ?_) (fun e he z => ?_)⟩, _, rfl⟩
        · rw [upd_ne (ne_of_none hb hl)]
          exact (s3.trans s36) b o hb
        · rw [upd_same, List.map_append]
          rfl
        · have := (hp.young f hf l hx).1
          rw [upd_same] at this
          cases this
        · have := (hp.ok _ _ (List.getElem?_of_mem he).choose_spec).tup
          rw [← z, h6l] at this
          cases this
      · rintro σ H4 ⟨s4, ⟨es, hes, h4l, hprs⟩, v4, rfl⟩
        exact ⟨s4, ⟨es, by rw [hes]; simp; omega, h4l, hprs⟩, _, _, rfl⟩
    · rintro σ H3 ⟨s3, ⟨es, hes, h3l, hprs⟩, v3, v4, rfl⟩
      refine q l es H3 s3 h3l hes ⟨hprs.ok, hprs.apart, fun f hf a ha => ⟨?_, (hprs.young f hf a ha).2⟩⟩ fun f hf hx => by
        have := (hprs.young f hf l hx).1
        rw [upd_same] at this
        cases this
      have := (hprs.young f hf a ha).1
      by_cases z : a = l
      · rw [z]; exact hl
      · rw [upd_ne z] at this; exact this
end
end K62

set_option Elab.async false
set_option linter.all false
set_option maxRecDepth 100000
set_option maxHeartbeats 4000000
namespace K62
open PySem L2
section
variable {P : Program} {w : World} {K : PySem.W.Frag} {mg : Str → Option Value} {base : Heap} {A : Adr}
theorem putK_twice {κ : Type} [DecidableEq κ] (kvs : List (κ × V)) (k : κ) (v v' : V) : putK (putK kvs k v) k v' = putK kvs k v' := by
  unfold putK
  by_cases h : (kvs.any fun kv => decide (kv.1 = k)) = true
  · rw [if_pos h, if_pos h]
    have h2 : ((kvs.map fun kv => if kv.1 = k then (kv.1, v) else kv).any fun kv => decide (kv.1 = k)) = true := by
      rw [List.any_map, ← h]
      congr 1
      funext kv
      show decide ((if kv.1 = k then (kv.1, v) else kv).1 = k) = _
      split <;> rfl
    rw [if_pos h2, List.map_map]
    congr 1
    funext kv
    show (if (if kv.1 = k then (kv.1, v) else kv).1 = k then ((if kv.1 = k then (kv.1, v) else kv).1, v') else (if kv.1 = k then (kv.1, v) else kv)) = _
    by_cases e : kv.1 = k
    · rw [if_pos e, if_pos e, if_pos e]
    · rw [if_neg e, if_neg e]
  · rw [if_neg h, if_neg h]
    have h2 : ((kvs ++ [(k, v)]).any fun kv => decide (kv.1 = k)) = true := by simp
    rw [if_pos h2, List.map_append]
    have h3 : kvs.map (fun kv => if kv.1 = k then (kv.1, v') else kv) = kvs := by
      conv => rhs; rw [← List.map_id kvs]
      refine List.map_congr_left fun kv hkv => ?_
      rw [if_neg (fun z => h (List.any_eq_true.mpr ⟨kv, hkv, decide_eq_true z⟩))]
      rfl
    rw [h3]
    simp
theorem tab_store {gs : List (Str × Nat)} {b more : Int} {nm : Str} {i : Nat} {g : Str × Nat} {H H3 H5 : Hp} {d : Addr} {as : List Addr} {kvs : List (Key × V)} {v : V} (s4 : Same H H3) (hnd : H d = none) (has : ∀ a ∈ as, H a = none ∧ DL H3 a) (hd4 : H3 d = some (.dK kvs))
    (htab : Tab as H3 kvs (tabUp gs b nm more i)) (hln : kvs.length ≤ i) (hg : gs[i]? = some g) (hz : g.2 ≤ 20) (s7 : ∀ c o, c ≠ d → H3 c = some o → H5 c = some o)
    (hv : (g.2 = 0 ∧ v = .int (stAt b nm more i g.1)) ∨ (g.2 ≠ 0 ∧ ∃ p, v = .ref p ∧ H3 p = none ∧ H5 p = some (.lst (lst (g.2, stAt b nm more i g.1))))) :
    Same H (upd H5 d (.dK (putK kvs (.inr g.1) v))) ∧ ∃ as' kvs', (∀ a ∈ as', H a = none ∧ DL (upd H5 d (.dK (putK kvs (.inr g.1) v))) a) ∧ upd H5 d (.dK (putK kvs (.inr g.1) v)) d = some (.dK kvs') ∧ Tab as' (upd H5 d (.dK (putK kvs (.inr g.1) v))) kvs' (tabUp gs b nm more (i + 1)) ∧ kvs'.length ≤ i + 1 := by
  have sH : Same H (upd H5 d (.dK (putK kvs (.inr g.1) v))) := fun c o hc => by
    have hcd := ne_of_none hc hnd
    rw [upd_ne hcd]; exact s7 c o hcd (s4 c o hc)
  have keep : ∀ c o, c ≠ d → H3 c = some o → upd H5 d (.dK (putK kvs (.inr g.1) v)) c = some o := fun c o hc h => by rw [upd_ne hc]; exact s7 c o hc h
  have asd : ∀ p u, H3 p = some (.lst u) → p ≠ d := fun p u h z => by rw [z, hd4] at h; cases h
  have lk := length_putK kvs (.inr g.1) v
  refine ⟨sH, ?_⟩
  rw [tab_step hg]
  rcases hv with ⟨z0, rfl⟩ | ⟨z0, p, rfl, hp4, hp5⟩
  · refine ⟨as, _, fun a ha => ⟨(has a ha).1, ?_⟩, upd_same, ?_, by omega⟩
    · by_cases e : a = d
      · rw [e]; exact .inl ⟨_, upd_same⟩
      · exact (has a ha).2.keep fun o h => keep a o e h
    · refine Tab.put ?_ g.1 (.inl ⟨z0, rfl⟩)
      refine Paired.mapP htab fun x y h => ⟨h.1, ?_⟩
      rcases h.2 with h | ⟨h0, p, h1, h2, h3⟩
      · exact .inl h
      · exact .inr ⟨h0, p, h1, h2, keep p _ (asd p _ h3) h3⟩
  · have hpd : p ≠ d := fun z => by rw [z, hd4] at hp4; cases hp4
    refine ⟨p :: as, _, fun a ha => ?_, upd_same, ?_, by omega⟩
    · rcases List.mem_cons.mp ha with rfl | ha
      · refine ⟨s4.free hp4, ?_⟩
        exact .inr ⟨_, by rw [upd_ne hpd]; exact hp5⟩
      · refine ⟨(has a ha).1, ?_⟩
        by_cases e : a = d
        · rw [e]; exact .inl ⟨_, upd_same⟩
        · exact (has a ha).2.keep fun o h => keep a o e h
    · refine Tab.put ?_ g.1 (.inr ⟨⟨z0, hz⟩, p, by simp, rfl, by rw [upd_ne hpd]; exact hp5⟩)
      refine Paired.mapP htab fun x y h => ⟨h.1, ?_⟩
      rcases h.2 with h | ⟨h0, p', h1, h2, h3⟩
      · exact .inl h
      · exact .inr ⟨h0, p', by simp [h1], h2, keep p' _ (asd p' _ h3) h3⟩
def sp_due (K : PySem.W.Frag) (A : Adr) : Sp := fun vs H Q _ => ∃ (lg : Addr) (gl : List Addr) (gs : List (Str × Nat)) (b more : Int) (nm : Str), vs = [.ref lg, .int b, .str nm, .int more] ∧ SqL K H lg (gl.map V.ref) ∧ RepGs A H gl gs ∧ gl.length ≤ 70 ∧ 0 ≤ b ∧ b ≤ 10 ∧
  ∀ d as H', Same H H' → (∀ a ∈ d :: as, H a = none ∧ DL H' a) → RepT H' d as (tabOf gs b nm more) → Q (.ref d) H'
theorem h_due (T : Txt K mg A) : Has P w K mg base 1 "_law_due" ["_law_givens", "_law_turn", "_law_name_here", "_law_more"] (sp_due K A) := by
  refine T.law_due.has sc_law_due (fun vs H Q E h => ?_) (fun f cdv A' outer s H vs Q E hr hu h => ?_)
  · obtain ⟨lg, gl, gs, b, more, nm, rfl, _⟩ := h
    rfl
  · obtain ⟨lg, gl, gs, b, more, nm, rfl, hL, hgs, gle, b0, b1, q⟩ := h
    refine ⟨_, (pss_cons (ps_set (i := 4) sc_law_due.nd rfl (Or.inl rfl) (pe_dnewK))
    (pss_cons (ps_for PassesOwn.never rfl (pi_range1 rfl T.z_range (pa_cons (pe_callB c_lenA rfl T.z_len (by boot_by_name) (pa_cons (fv 0) pa_nil)) pa_nil)) (pg_name (i := 5) sc_law_due.nd rfl (by first | exact Or.inl rfl | exact Or.inr rfl))
      (pss_cons (ps_set (i := 6) sc_law_due.nd rfl (Or.inr rfl) (pe_op o_mulA (fv 1) (pe_op o_add (fv 5) (pe_int))))
      (pss_cons (ps_if (pt_cmpR (o_eqU hu) (pe_fld (pe_ix (ix_all hu) (fv 0) (fv 5) (fun _ _ => rfl)) rfl) (fv 2) (nomark _))
        (pss_one (ps_set (i := 6) sc_law_due.nd rfl (Or.inr rfl) (pe_op o_add (fv 6) (fv 3))))
        pss_nil)
      (pss_cons (ps_asg (fv 6) (pg_sub (fv 4) (pe_fld (pe_ix (ix_all hu) (fv 0) (fv 5) (fun _ _ => rfl)) rfl) (st_all hu set_list)))
      (pss_one (ps_if (pt_cmpR (o_gt) (pe_fld (pe_ix (ix_all hu) (fv 0) (fv 5) (fun _ _ => rfl)) rfl) (pe_int) (nomark _))
        (pss_one (ps_asg (pe_comp (N := ["_law_place", "_law_number"]) (own := 1) (fr := [6]) (CompOk.of (by kernel_rfl!)) rfl (pi_range1 rfl T.z_range (pa_cons (pe_fld (pe_ix (ix_all hu) (fv 0) (fv 5) (fun _ _ => rfl)) rfl) pa_nil)) (fun b => pg_name (i := 0) (show List.Nodup (["_law_place", "_law_number"] : List PySem.Str) by decide +kernel) rfl (by first | exact Or.inl rfl | exact Or.inr rfl)) (fun b => pf_nil) (fun b => pe_op o_add (fv 1) (fv 0))) (pg_sub (fv 4) (pe_fld (pe_ix (ix_all hu) (fv 0) (fv 5) (fun _ _ => rfl)) rfl) (st_all hu set_list))))
        pss_nil))))))
    (pss_one (ps_ret (fv 4))))), ?_⟩
    intro d hd
    refine Or.inl ⟨_, _, rfl, Or.inl ⟨_, (Same.upd hd _).seq hL, rfl⟩, _, rfl, by rw [List.length_map]; omega, by rw [List.length_map]; omega, ?_⟩
    have hn' : (((gl.map V.ref).length : Nat) : Int).toNat = gl.length := by rw [List.length_map, Int.toNat_natCast]
    refine for_range (n := (((gl.map V.ref).length : Nat) : Int).toNat) (fun i σ H3 => Same H H3 ∧ (∃ as kvs, (∀ a ∈ as, H a = none ∧ DL H3 a) ∧ H3 d = some (.dK kvs) ∧ Tab as H3 kvs (tabUp gs b nm more i) ∧ kvs.length ≤ i) ∧ ∃ v5 v6, σ = [some (.ref lg), some (.int b), some (.str nm), some (.int more), some (.ref d), v5, v6])
        ⟨Same.upd hd _, ⟨[], [], (fun a ha => by cases ha), upd_same, .nil, Nat.le_refl _⟩, none, none, rfl⟩ ?_ ?_
    · rintro i σ H3 hi ⟨s4, ⟨as, kvs, has, hd4, htab, hln⟩, v5, v6, rfl⟩
      rw [Int.zero_add]
      rw [hn'] at hi
      have hga : gl[i]? = some gl[i] := List.getElem?_eq_getElem hi
      generalize gl[i] = ga at hga
      obtain ⟨g, hg, gdx, gn, gr, hG, hz⟩ := hgs.at hga
      have hat : atI (gl.map V.ref) (i : Int) = some (.ref ga) := atI_nat (by rw [List.getElem?_map, hga]; rfl)
      have hG3 := s4 _ _ hG
      have hL3 := s4.seq hL
      /- all behind the number -/
      have tail : ∀ (st : Int) (H5 : Hp) (v : V), stAt b nm more i g.1 = st → (∀ c o, c ≠ d → H3 c = some o → H5 c = some o) → ((g.2 = 0 ∧ v = .int st) ∨ (g.2 ≠ 0 ∧ ∃ p, v = .ref p ∧ H3 p = none ∧ H5 p = some (.lst (lst (g.2, st))))) → _ := fun st H5 v e s7 hv => tab_store (v := v) (H5 := H5) s4 hd has hd4 htab hln hg hz s7 (by rw [e]; exact hv)
      refine ⟨small_mul (by omega) (by omega), Or.inl ⟨_, _, Or.inl hL3, hat, ga, A.GivenRow, gdx, _, _, rfl, hG3, T.o_GivenRow.cl, T.n_GivenRow_name, rfl, rfl, _, rfl, ?_⟩⟩
      rw [vstr]
      by_cases hn : g.1 = nm
      · rw [decide_eq_true hn]
        refine iteT ?_
        have e : stAt b nm more i g.1 = b * ((i : Int) + 1) + more := if_pos hn
        have s45 : ∀ c o, c ≠ d → H3 c = some o → upd H3 d (.dK (putK kvs (.inr g.1) (.int (b * ((i : Int) + 1) + more)))) c = some o := fun c o hc h => by rw [upd_ne hc]; exact h
        have sH4 : Same H (upd H3 d (.dK (putK kvs (.inr g.1) (.int (b * ((i : Int) + 1) + more))))) := fun c o hc => s45 c o (ne_of_none hc hd) (s4 c o hc)
        refine Or.inl ⟨_, _, Or.inl hL3, hat, ga, A.GivenRow, gdx, _, _, rfl, hG3, T.o_GivenRow.cl, T.n_GivenRow_name, rfl, _, DPut.k (k := .inr g.1) hd4 (small1000 (by omega)), ?_⟩
        refine Or.inl ⟨_, _, Or.inl (sH4.seq hL), hat, ga, A.GivenRow, gdx, _, _, rfl, sH4 _ _ hG, T.o_GivenRow.cl, T.n_GivenRow_size, rfl, _, rfl, ?_⟩
        by_cases hz0 : (0 : Int) < (g.2 : Nat)
        · rw [decide_eq_true hz0]
          refine iteT ?_
          refine Or.inl ⟨_, _, Or.inl (sH4.seq hL), hat, ga, A.GivenRow, gdx, _, _, rfl, sH4 _ _ hG, T.o_GivenRow.cl, T.n_GivenRow_size, rfl, _, rfl, by omega, by omega, ?_⟩
          refine comp_range (fun _ => true) (fun j => .int (b * ((i : Int) + 1) + more + (0 + (j : Int)))) (small1000 (by omega)) (fun cb i H2 R hi sm k => k H2 (Same.refl _)) (fun cb i H2 R hi _ sm k => k H2 (Same.refl _)) fun D H5 hD sm e5 => ?_
          rw [filter_true, Int.toNat_natCast] at e5
          have sH5 := sH4.trans sm
          have hd5 := sm _ _ (upd_same (H := H3) (a := d) (o := .dK (putK kvs (.inr g.1) (.int (b * ((i : Int) + 1) + more)))))
          have lk := length_putK kvs (.inr g.1) (.int (b * ((i : Int) + 1) + more))
          refine Or.inl ⟨_, _, Or.inl (sH5.seq hL), hat, ga, A.GivenRow, gdx, _, _, rfl, sH5 _ _ hG, T.o_GivenRow.cl, T.n_GivenRow_name, rfl, _, DPut.k (k := .inr g.1) hd5 (small1000 (by omega)), ?_⟩
          rw [putK_twice]
          have hD3 : H3 D = none := by
            by_cases z : D = d
            · rw [z, upd_same] at hD; cases hD
            · rw [upd_ne z] at hD; exact hD
          obtain ⟨p2, p4⟩ := tail _ H5 (.ref D) e (fun c o hc h => sm c o (s45 c o hc h)) (.inr ⟨by omega, D, rfl, hD3, e5⟩)
          exact ⟨p2, p4, _, _, rfl⟩
        · rw [decide_eq_false hz0]
          refine iteF ?_
          obtain ⟨p2, p4⟩ := tail _ H3 (.int (b * ((i : Int) + 1) + more)) e (fun c o _ h => h) (.inl ⟨by omega, rfl⟩)
          exact ⟨p2, p4, _, _, rfl⟩
      · rw [decide_eq_false hn]
        refine iteF ?_
        have e : stAt b nm more i g.1 = b * ((i : Int) + 1) := if_neg hn
        have s45 : ∀ c o, c ≠ d → H3 c = some o → upd H3 d (.dK (putK kvs (.inr g.1) (.int (b * ((i : Int) + 1))))) c = some o := fun c o hc h => by rw [upd_ne hc]; exact h
        have sH4 : Same H (upd H3 d (.dK (putK kvs (.inr g.1) (.int (b * ((i : Int) + 1)))))) := fun c o hc => s45 c o (ne_of_none hc hd) (s4 c o hc)
        refine Or.inl ⟨_, _, Or.inl hL3, hat, ga, A.GivenRow, gdx, _, _, rfl, hG3, T.o_GivenRow.cl, T.n_GivenRow_name, rfl, _, DPut.k (k := .inr g.1) hd4 (small1000 (by omega)), ?_⟩
        refine Or.inl ⟨_, _, Or.inl (sH4.seq hL), hat, ga, A.GivenRow, gdx, _, _, rfl, sH4 _ _ hG, T.o_GivenRow.cl, T.n_GivenRow_size, rfl, _, rfl, ?_⟩
        by_cases hz0 : (0 : Int) < (g.2 : Nat)
        · rw [decide_eq_true hz0]
          refine iteT ?_
          refine Or.inl ⟨_, _, Or.inl (sH4.seq hL), hat, ga, A.GivenRow, gdx, _, _, rfl, sH4 _ _ hG, T.o_GivenRow.cl, T.n_GivenRow_size, rfl, _, rfl, by omega, by omega, ?_⟩
          refine comp_range (fun _ => true) (fun j => .int (b * ((i : Int) + 1) + (0 + (j : Int)))) (small1000 (by omega)) (fun cb i H2 R hi sm k => k H2 (Same.refl _)) (fun cb i H2 R hi _ sm k => k H2 (Same.refl _)) fun D H5 hD sm e5 => ?_
          rw [filter_true, Int.toNat_natCast] at e5
          have sH5 := sH4.trans sm
          have hd5 := sm _ _ (upd_same (H := H3) (a := d) (o := .dK (putK kvs (.inr g.1) (.int (b * ((i : Int) + 1))))))
          have lk := length_putK kvs (.inr g.1) (.int (b * ((i : Int) + 1)))
          refine Or.inl ⟨_, _, Or.inl (sH5.seq hL), hat, ga, A.GivenRow, gdx, _, _, rfl, sH5 _ _ hG, T.o_GivenRow.cl, T.n_GivenRow_name, rfl, _, DPut.k (k := .inr g.1) hd5 (small1000 (by omega)), ?_⟩
          rw [putK_twice]
          have hD3 : H3 D = none := by
            by_cases z : D = d
            · rw [z, upd_same] at hD; cases hD
            · rw [upd_ne z] at hD; exact hD
          obtain ⟨p2, p4⟩ := tail _ H5 (.ref D) e (fun c o hc h => sm c o (s45 c o hc h)) (.inr ⟨by omega, D, rfl, hD3, e5⟩)
          exact ⟨p2, p4, _, _, rfl⟩
        · rw [decide_eq_false hz0]
          refine iteF ?_
          obtain ⟨p2, p4⟩ := tail _ H3 (.int (b * ((i : Int) + 1))) e (fun c o _ h => h) (.inl ⟨by omega, rfl⟩)
          exact ⟨p2, p4, _, _, rfl⟩
    · rintro σ H3 ⟨s4, ⟨as, kvs, has, hd4, htab, hln⟩, v5, v6, rfl⟩
      rw [hn'] at htab hln
      rw [Paired.length hgs] at htab
      refine q d as H3 s4 (fun a ha => ?_) ⟨kvs, hd4, htab, by omega⟩
      rcases List.mem_cons.mp ha with rfl | ha
      · exact ⟨hd, .inl ⟨_, hd4⟩⟩
      · exact has a ha
end
end K62

set_option Elab.async false
set_option linter.all false
set_option maxRecDepth 100000
set_option maxHeartbeats 4000000
namespace K62
open PySem L2
section
variable {P : Program} {w : World} {K : PySem.W.Frag} {mg : Str → Option Value} {base : Heap} {A : Adr}
theorem Tab.both {as bs : List Addr} {H : Hp} {kvs : List (Key × V)} {tab : List (Str × Nat × Int)} (r : Tab as H kvs tab) : ∀ {lvs : List (Key × V)} {k : Key} {v : V}, Tab bs H lvs tab → valV lvs k = some v → ∃ v0 c x, k = .inr x ∧ valV kvs k = some v0 ∧ Cell as H v0 c ∧ Cell bs H v c := by
  induction r with
  | nil => intro lvs k v r' z; cases r'; cases z
  | @cons p q ps qs h t ih =>
    intro lvs k v r' z
    cases r' with
    | @cons p' _ ps' _ h' t' =>
      by_cases hk : p'.1 = k
      · rw [valV_pos hk] at z
        cases z
        exact ⟨p.2, q.2, q.1, hk.symm.trans h'.1, valV_pos (h.1.trans (h'.1.symm.trans hk)), h.2, h'.2⟩
      · rw [valV_neg hk] at z
        rw [valV_neg (fun z => hk (h'.1.trans (h.1.symm.trans z)))]
        exact ih t' z
/-- what a cell is: a number, or a list of numbers -/
theorem cell_ty {as : List Addr} {H : Hp} {v : V} {c : Nat × Int} (h : Cell as H v c) : ∃ t, TyOf K H v t ∧ PySem.W.kitOne K t (.type "list") = some (decide (c.1 ≠ 0)) := by
  rcases h with ⟨h0, rfl⟩ | ⟨h0, p, _, rfl, h3⟩
  · exact ⟨_, .int _, by rw [decide_eq_false (fun z => z h0)]; exact kit_il⟩
  · exact ⟨_, .lst h3, by rw [decide_eq_true h0.1]; exact kit_ll⟩
theorem lst_int {c : Nat × Int} {x : V} (h : x ∈ lst c) : ∃ i, x = .int i := by
  obtain ⟨j, _, rfl⟩ := List.mem_map.mp h
  exact ⟨_, rfl⟩
theorem all_true {α : Type} (xs : List α) : ((xs.map fun _ => true).all id) = true := by
  induction xs with
  | nil => rfl
  | cons x r ih => rw [List.map_cons, List.all_cons, ih]; rfl
def sp_same : Sp := fun vs H Q _ => ∃ (d e : Addr) (as bs : List Addr) (tab : List (Str × Nat × Int)), vs = [.ref d, .ref e] ∧ d ≠ e ∧ RepT H d as tab ∧ RepT H e bs tab ∧ ∀ H', Same H H' → Q (.bl true) H'
theorem h_same (T : Txt K mg A) : Has P w K mg base 1 "_law_same" ["_law_found", "_law_due_here"] sp_same := by
  refine T.law_same.has sc_law_same (fun vs H Q E h => ?_) (fun f cdv A' outer s H vs Q E hr hu h => ?_)
  · obtain ⟨d, e, as, bs, tab, rfl, _⟩ := h
    rfl
  · obtain ⟨d, e, as, bs, tab, rfl, hde, ⟨kvs, hd, rd, ld⟩, ⟨lvs, he, re, le⟩, q⟩ := h
    refine ⟨_, (pss_cons (ps_if (PW.pt (pw_or (pt_not (pt_tru (pe_callB c_isinst rfl T.z_isinstance (by boot_by_name) (pa_cons (fv 0) (pa_cons (pe_bltn (v := .ty "dict") rfl T.z_dict (by boot_by_name) rfl) pa_nil))) (fun _ => rfl))) (pw_or1 (pt_cmpR (o_ne hu) (pe_callB c_lenA rfl T.z_len (by boot_by_name) (pa_cons (fv 0) pa_nil)) (pe_callB c_lenA rfl T.z_len (by boot_by_name) (pa_cons (fv 1) pa_nil)) (nomark _)))))
      (pss_one (ps_ret (pe_bl)))
      pss_nil)
    (pss_cons (ps_forD PassesOwn.never rfl (fv 1) (monoV _) (pg_name (i := 2) sc_law_same.nd rfl (by first | exact Or.inl rfl | exact Or.inr rfl))
      (pss_cons (ps_if (PW.pt (pw_or (pt_cmpR (o_notinA hu) (fv 2) (fv 0) ((by with_unfolding_all rfl))) (pw_or1 (pt_cmpR (o_ne hu) (pe_callB c_isinst rfl T.z_isinstance (by boot_by_name) (pa_cons (pe_ix (ix_all hu) (fv 0) (fv 2) (fun _ _ => rfl)) (pa_cons (pe_bltn (v := .ty "list") rfl T.z_list (by boot_by_name) rfl) pa_nil))) (pe_callB c_isinst rfl T.z_isinstance (by boot_by_name) (pa_cons (pe_ix (ix_all hu) (fv 1) (fv 2) (fun _ _ => rfl)) (pa_cons (pe_bltn (v := .ty "list") rfl T.z_list (by boot_by_name) rfl) pa_nil))) (nomark _)))))
        (pss_one (ps_ret (pe_bl)))
        pss_nil)
      (pss_cons (ps_set (i := 3) sc_law_same.nd rfl (Or.inl rfl) (pe_ix (ix_all hu) (fv 0) (fv 2) (fun _ _ => rfl)))
      (pss_cons (ps_if (pt_not (pt_tru (pe_callB c_isinst rfl T.z_isinstance (by boot_by_name) (pa_cons (fv 3) (pa_cons (pe_bltn (v := .ty "list") rfl T.z_list (by boot_by_name) rfl) pa_nil))) (fun _ => rfl)))
        (pss_one (ps_set (i := 3) sc_law_same.nd rfl (Or.inl rfl) (pe_lst (pa_cons (fv 3) pa_nil))))
        pss_nil)
      (pss_one (ps_if (pt_not (pt_tru (pe_callB c_all rfl T.z_all (by boot_by_name) (pa_cons (pe_comp (N := ["_law_one"]) (own := 1) (fr := []) (CompOk.of (by kernel_rfl!)) rfl (pi_any (fv 3)) (fun b => pg_name (i := 0) (show List.Nodup (["_law_one"] : List PySem.Str) by decide +kernel) rfl (by first | exact Or.inl rfl | exact Or.inr rfl)) (fun b => pf_nil) (fun b => pe_and (pe_callB c_isinst rfl T.z_isinstance (by boot_by_name) (pa_cons (fv 0) (pa_cons (pe_bltn (v := .ty "int") rfl T.z_int (by boot_by_name) rfl) pa_nil))) (pe_one (pe_notV (pe_callB c_isinst rfl T.z_isinstance (by boot_by_name) (pa_cons (fv 0) (pa_cons (pe_bltn (v := .ty "bool") rfl T.z_bool (by boot_by_name) rfl) pa_nil))))))) pa_nil)) (fun _ => rfl)))
        (pss_one (ps_ret (pe_bl)))
        pss_nil))))))
    (pss_one (ps_ret (pe_cmpR (o_eqU hu) (fv 0) (fv 1) (nomark _)))))), ?_⟩
    have eqs := Tab.eq (K := K) rd re
    refine ⟨_, _, _, true, rfl, (fun z => by cases z), .dK hd, kit_dd, true, rfl, ?_⟩
    refine iteF ?_
    refine Or.inr ⟨_, _, rfl, .inl hd, Or.inr ⟨_, _, rfl, .inl he, rfl, _, rfl, ?_⟩⟩
    rw [eqs.1, decide_eq_true rfl]
    refine iteF ?_
    refine ⟨e, lvs, rfl, he, fun o hnf hnd => ?_⟩
    refine ⟨fun i σ H3 => Same (upd H e (.frz o (.dK lvs))) H3 ∧ ∃ v2 v3, σ = [some (.ref d), some (.ref e), v2, v3], ⟨Same.refl _, none, none, rfl⟩, fun i σ H3 _ h => h.1 _ _ upd_same, ?_, ?_⟩
    · rintro i k v σ H3 hi ⟨s3, v2, v3, rfl⟩
      obtain ⟨v0, c, x, rfl, hv0, c0, c1⟩ := rd.both re (valV_at hnd hi)
      have hv1 := valV_at hnd hi
      have le3 : ∀ p u, H p = some u → p ≠ e → H3 p = some u := fun p u h z => s3 _ _ (by rw [upd_ne z]; exact h)
      have hle : ∀ p u, H p = some (.lst u) → p ≠ e := fun p u h z => by rw [z, he] at h; cases h
      have hd3 : H3 d = some (.dK kvs) := le3 _ _ hd hde
      have he3 : H3 e = some (.frz o (.dK lvs)) := s3 _ _ upd_same
      have cm : ∀ {as v c}, Cell as H v c → Cell as H3 v c := fun h => by
        rcases h with h | ⟨h0, p, h1, h2, h3⟩
        · exact .inl h
        · exact .inr ⟨h0, p, h1, h2, le3 p _ h3 (hle p _ h3)⟩
      have c0' := cm c0
      have c1' := cm c1
      have gd : DGet H3 d (.str x) (some v0) := .inl ⟨kvs, .inr x, .inl hd3, rfl, hv0.symm⟩
      have ge : DGet H3 e (.str x) (some v) := .inl ⟨lvs, .inr x, .inr ⟨o, he3⟩, rfl, hv1.symm⟩
      obtain ⟨t0, ty0, k0⟩ := cell_ty (K := K) c0'
      obtain ⟨t1, ty1, k1⟩ := cell_ty (K := K) c1'
      refine Or.inr ⟨d, some v0, rfl, gd, _, rfl, ?_⟩
      refine iteF ?_
      refine ⟨v0, gd, _, _, t0, _, rfl, (fun z => by cases z), ty0, k0, v, ge, _, _, t1, _, rfl, (fun z => by cases z), ty1, k1, rfl, _, rfl, ?_⟩
      rw [decide_eq_true rfl]
      refine iteF ?_
      refine ⟨v0, gd, ?_⟩
      refine ⟨_, _, t0, _, rfl, (fun z => by cases z), ty0, k0, _, rfl, ?_⟩
      rcases c0' with ⟨z0, rfl⟩ | ⟨z0, p, hp, rfl, h3⟩
      · rw [decide_eq_false (fun z => z z0)]
        refine iteT ?_
        refine ⟨(by decide : 1 ≤ sizeLine), fun l hl => ?_⟩
        · skip
          refine Or.inl ⟨⟨_, SqL.of upd_same⟩, ?_⟩
          refine comp_list (fun _ => true) (fun _ => .bl true) (SqL.of upd_same) (small1000 (by simp)) (fun cb x H2 R hx sm k => k H2 (Same.refl _)) (fun cb x H2 R hx _ sm k => ?_) fun D H5 hD sm e5 => ?_
          · obtain ⟨n, rfl⟩ : ∃ n, x = .int n := ⟨_, by simpa using hx⟩
            refine ⟨_, _, _, true, rfl, (fun z => by cases z), .int n, kit_ii, true, rfl, iteT ?_⟩
            exact ⟨_, _, _, false, rfl, (fun z => by cases z), .int n, kit_ib, false, rfl, k H2 (Same.refl _)⟩
          · rw [filter_true] at e5
            refine ⟨D, ([V.int c.2]).map fun _ => true, rfl, SqL.of (by rw [e5, List.map_map]; rfl), _, rfl, ?_⟩
            rw [all_true]
            refine iteF ?_
            exact ⟨s3.trans ((Same.upd hl _).trans sm), _, _, rfl⟩
      · rw [decide_eq_true z0.1]
        refine iteF ?_
        · skip
          refine Or.inl ⟨⟨_, SqL.of h3⟩, ?_⟩
          refine comp_list (fun _ => true) (fun _ => .bl true) (SqL.of h3) (small1000 (by unfold lst; rw [List.length_map, List.length_range]; exact Nat.le_trans z0.2 (by decide))) (fun cb x H2 R hx sm k => k H2 (Same.refl _)) (fun cb x H2 R hx _ sm k => ?_) fun D H5 hD sm e5 => ?_
          · obtain ⟨n, rfl⟩ : ∃ n, x = .int n := lst_int hx
            refine ⟨_, _, _, true, rfl, (fun z => by cases z), .int n, kit_ii, true, rfl, iteT ?_⟩
            exact ⟨_, _, _, false, rfl, (fun z => by cases z), .int n, kit_ib, false, rfl, k H2 (Same.refl _)⟩
          · rw [filter_true] at e5
            refine ⟨D, (lst c).map fun _ => true, rfl, SqL.of (by rw [e5, List.map_map]; rfl), _, rfl, ?_⟩
            rw [all_true]
            refine iteF ?_
            exact ⟨s3.trans (sm), _, _, rfl⟩
    · rintro σ H3 ⟨s3, v2, v3, rfl⟩
      have sH : Same H (upd H3 e (.dK lvs)) := fun c u h => by
        by_cases z : c = e
        · rw [z] at h ⊢
          rw [he] at h
          cases h
          exact upd_same
        · rw [upd_ne z]
          exact s3 _ _ (by rw [upd_ne z]; exact h)
      refine Or.inr ⟨⟨kvs, lvs, .inl (sH _ _ hd), .inl (sH _ _ he), eqs.1, fun k v z => ?_⟩, q _ sH⟩
      obtain ⟨v', h1, h2⟩ := eqs.2 k v z
      refine ⟨v', h1, ?_⟩
      rcases h2 with h2 | ⟨p, p', xs, e1, e2, e3, e4, e5⟩
      · exact .inl h2
      · exact .inr ⟨p, p', xs, e1, e2, sH.seq e3, sH.seq e4, e5⟩
end
end K62

set_option Elab.async false
set_option linter.all false
set_option maxRecDepth 100000
set_option maxHeartbeats 4000000
namespace K62
open PySem L2
section
variable {P : Program} {w : World} {K : PySem.W.Frag} {mg : Str → Option Value} {base : Heap} {A : Adr}
def Pr.d (e : Pr) (j : Nat) : Addr := if j = 0 then e.d0 else e.d1
def Pr.a (e : Pr) (j : Nat) : List Addr := if j = 0 then e.a0 else e.a1
def Pr.f (e : Pr) (j : Nat) : List Addr := e.d j :: e.a j
theorem Pr.f_mem (e : Pr) (j : Nat) : e.f j ∈ e.fps := by
  unfold Pr.f Pr.d Pr.a Pr.fps
  split <;> simp
/-- the j-th dict of the k-th pair, as it was made -/
def Whole (gs : List (Str × Nat)) (nm : Str) (H : Hp) (k : Nat) (e : Pr) (j : Nat) : Prop := RepT H (e.d j) (e.a j) (tabOf gs (begAt k) nm ((j : Int) * moreAt k))
theorem PrOk.whole {gs : List (Str × Nat)} {nm : Str} {H : Hp} {k : Nat} {e : Pr} (h : PrOk gs nm H k e) {j : Nat} (hj : j < 2) : Whole gs nm H k e j := by
  unfold Whole Pr.d Pr.a
  obtain rfl | rfl : j = 0 ∨ j = 1 := by omega
  · rw [if_pos rfl, if_pos rfl, show ((0 : Nat) : Int) * moreAt k = 0 by simp]
    exact h.r0
  · rw [if_neg (by decide), if_neg (by decide), show ((1 : Nat) : Int) * moreAt k = moreAt k by simp]
    exact h.r1
theorem fps_pair {es : List Pr} (h : (es.flatMap Pr.fps).Pairwise Disj) {k k' : Nat} {e e' : Pr} (hk : es[k]? = some e) (hk' : es[k']? = some e') {j j' : Nat} (hj : j < 2) (hj' : j' < 2) (hne : k ≠ k' ∨ j ≠ j') : ∀ x ∈ e.f j, x ∉ e'.f j' := by
  have sym : ∀ {a b : List Addr}, Disj a b → Disj b a := fun h x hx hx' => h x hx' hx
  have within : ∀ e ∈ es, Disj (e.d0 :: e.a0) (e.d1 :: e.a1) := fun e he => by
    have : (e.fps).Pairwise Disj := by
      obtain ⟨s, t, rfl⟩ := List.append_of_mem he
      rw [List.flatMap_append, List.flatMap_cons] at h
      exact (List.pairwise_append.mp (List.pairwise_append.mp h).2.1).1
    unfold Pr.fps at this
    simpa using this
  by_cases hkk : k = k'
  · subst hkk
    rw [hk] at hk'
    cases hk'
    have w := within e (List.mem_of_getElem? hk)
    have hjj : j ≠ j' := by
      rcases hne with h | h
      · exact absurd rfl h
      · exact h
    unfold Pr.f Pr.d Pr.a
    obtain rfl | rfl : j = 0 ∨ j = 1 := by omega
    · obtain rfl : j' = 1 := by omega
      exact w
    · obtain rfl : j' = 0 := by omega
      exact sym w
  · have go : ∀ {i i' : Nat} {x y : Pr}, i < i' → es[i]? = some x → es[i']? = some y → ∀ f ∈ x.fps, ∀ g ∈ y.fps, Disj f g := by
      intro i i' x y hlt hx hy f hf g hg
      have hi := (List.getElem?_eq_some_iff.mp hx).1
      have e1 : es = es.take i ++ x :: es.drop (i + 1) := by
        conv => lhs; rw [← List.take_append_drop i es]
        rw [List.drop_eq_getElem_cons hi]
        have := (List.getElem?_eq_some_iff.mp hx).2
        rw [this]
      have hmem : y ∈ es.drop (i + 1) := by
        have : (es.drop (i + 1))[i' - (i + 1)]? = some y := by
          rw [List.getElem?_drop, show i + 1 + (i' - (i + 1)) = i' by omega]
          exact hy
        exact List.mem_of_getElem? this
      rw [e1, List.flatMap_append, List.flatMap_cons] at h
      exact (List.pairwise_append.mp (List.pairwise_append.mp h).2.1).2.2 f hf g (List.mem_flatMap.mpr ⟨y, hmem, hg⟩)
    rcases Nat.lt_or_gt_of_ne hkk with h | h
    · exact go h hk hk' _ (e.f_mem j) _ (e'.f_mem j')
    · exact sym (go h hk' hk _ (e'.f_mem j') _ (e.f_mem j))
/-- a value of a dict under change -/
def Wk (H : Hp) (d : Addr) (as : List Addr) (v : V) : Prop := (∃ n, v = .int n) ∨ ∃ p xs, v = .ref p ∧ p ∈ as ∧ p ≠ d ∧ H p = some (.lst xs) ∧ xs ≠ []
theorem Cell.wk {as : List Addr} {H : Hp} {d : Addr} {kvs : List (Key × V)} {v : V} {c : Nat × Int} (hd : H d = some (.dK kvs)) (h : Cell as H v c) : Wk H d as v := by
  rcases h with ⟨_, rfl⟩ | ⟨h0, p, hp, rfl, h3⟩
  · exact .inl ⟨_, rfl⟩
  · refine .inr ⟨p, _, rfl, hp, (fun z => by rw [z, hd] at h3; cases h3), h3, fun z => ?_⟩
    have := congrArg List.length z
    unfold lst at this
    rw [List.length_map, List.length_range] at this
    exact h0.1 this
theorem Tab.key {as : List Addr} {H : Hp} {kvs : List (Key × V)} {tab : List (Str × Nat × Int)} (r : Tab as H kvs tab) {i : Nat} {k : Key} {v : V} (h : kvs[i]? = some (k, v)) : ∃ y, k = .inr y := by
  have hl := Paired.length r
  have hlt := (List.getElem?_eq_some_iff.mp h).1
  exact ⟨_, (paired_at r h (List.getElem?_eq_getElem (l := tab) (i := i) (by omega))).1⟩
theorem Tab.start {as : List Addr} {H : Hp} {d : Addr} {kvs : List (Key × V)} {tab : List (Str × Nat × Int)} (r : Tab as H kvs tab) (hd : H d = some (.dK kvs)) {i : Nat} {k : Key} {v : V} (h : kvs[i]? = some (k, v)) : ∃ v, valV kvs k = some v ∧ Wk H d as v := by
  have : (valV kvs k).isSome = true := by
    rw [← valV_any, List.any_eq_true]
    exact ⟨_, List.mem_of_getElem? h, decide_eq_true rfl⟩
  obtain ⟨v', hv⟩ := Option.isSome_iff_exists.mp this
  obtain ⟨v0, c, x, _, h1, h2, _⟩ := r.both r hv
  rw [hv] at h1
  cases h1
  exact ⟨v', hv, h2.wk hd⟩
theorem Wk.upd {H : Hp} {d : Addr} {as : List Addr} {v : V} (h : Wk H d as v) {p : Addr} {xs : List V} (hx : xs ≠ []) : Wk (L2.upd H p (.lst xs)) d as v := by
  rcases h with h | ⟨p', ys, h1, h2, h3, h4, h5⟩
  · exact .inl h
  · by_cases z : p' = p
    · exact .inr ⟨p', xs, h1, h2, h3, by rw [z]; exact upd_same, hx⟩
    · exact .inr ⟨p', ys, h1, h2, h3, by rw [upd_ne z]; exact h4, h5⟩
theorem Wk.updD {H : Hp} {d : Addr} {as : List Addr} {v : V} (h : Wk H d as v) (o : HO) : Wk (L2.upd H d o) d as v := by
  rcases h with h | ⟨p', ys, h1, h2, h3, h4, h5⟩
  · exact .inl h
  · exact .inr ⟨p', ys, h1, h2, h3, by rw [upd_ne h3]; exact h4, h5⟩
theorem Whole.keep {gs : List (Str × Nat)} {nm : Str} {H H' : Hp} {k : Nat} {e : Pr} {j : Nat} (h : Whole gs nm H k e j) (b : ∀ c ∈ e.f j, ∀ o, H c = some o → H' c = some o) : Whole gs nm H' k e j := RepT.keep h b
def sp_right (K : PySem.W.Frag) (A : Adr) : Sp := fun vs H Q _ => ∃ (l lg : Addr) (gl : List Addr) (gs : List (Str × Nat)) (nm : Str) (es : List Pr) (H0 : Hp), vs = [.ref l, .ref lg, .str nm] ∧ SqL K H0 lg (gl.map V.ref) ∧ RepGs A H0 gl gs ∧ gl.length ≤ 70 ∧ Same H0 H ∧
  H l = some (.lst (es.map fun e => .ref e.t)) ∧ es.length = 12 ∧ Prs gs nm H0 H es ∧ (∀ f ∈ es.flatMap Pr.fps, l ∉ f) ∧ ∀ H', Same H0 H' → Q (.bl true) H'
/-- what holds between two of the changes -/
structure Mid (gs : List (Str × Nat)) (nm : Str) (H0 : Hp) (l : Addr) (es : List Pr) (H : Hp) : Prop where
  s0 : Same H0 H
  hl : H l = some (.lst (es.map fun e => .ref e.t))
  tup : ∀ e ∈ es, H e.t = some (.tup [.ref e.d0, .ref e.d1])
  there : ∀ f ∈ es.flatMap Pr.fps, ∀ a ∈ f, H a ≠ none
theorem Mid.same {gs : List (Str × Nat)} {nm : Str} {H0 : Hp} {l : Addr} {es : List Pr} {H H' : Hp} (h : Mid gs nm H0 l es H) (s : Same H H') : Mid gs nm H0 l es H' :=
  ⟨h.s0.trans s, s _ _ h.hl, fun e he => s _ _ (h.tup e he), fun f hf a ha z => by
    obtain ⟨o, ho⟩ := Option.ne_none_iff_exists'.mp (h.there f hf a ha)
    rw [s a o ho] at z; cases z⟩
/-- behind a change within one footprint -/
theorem Mid.but {gs : List (Str × Nat)} {nm : Str} {H0 : Hp} {l : Addr} {es : List Pr} {H H' : Hp} {f : List Addr} (h : Mid gs nm H0 l es H) (b : ∀ c o, c ∉ f → H c = some o → H' c = some o) (n : ∀ c, H c ≠ none → H' c ≠ none) (y : ∀ a ∈ f, H0 a = none) (hl : l ∉ f) (ht : ∀ e ∈ es, e.t ∉ f) : Mid gs nm H0 l es H' :=
  ⟨fun c o q => b c o (fun z => by rw [y c z] at q; cases q) (h.s0 c o q), b _ _ hl h.hl, fun e he => b _ _ (ht e he) (h.tup e he), fun f hf a ha => n a (h.there f hf a ha)⟩
theorem ix0 {xs : List V} (h : xs ≠ []) : ixN xs.length 0 = some 0 := by
  cases xs with
  | nil => exact absurd rfl h
  | cons x r =>
    unfold ixN
    rw [if_pos (by decide), if_pos (by rw [List.length_cons]; omega)]
    rfl
theorem h_right (T : Txt K mg A) : Has P w K mg base 3 "_law_right" ["_law_found", "_law_givens", "_law_name_here"] (sp_right K A) := by
  have D_law_same := h_same (P := P) (w := w) (base := base) T
  have D_law_due := h_due (P := P) (w := w) (base := base) T
  refine T.law_right.has sc_law_right (fun vs H Q E h => ?_) (fun f cdv A' outer s H vs Q E hr hu h => ?_)
  · obtain ⟨l, lg, gl, gs, nm, es, H0, rfl, _⟩ := h
    rfl
  · obtain ⟨l, lg, gl, gs, nm, es, H0, rfl, hL, hgs, gle, s0, hl, hes, hprs, hlf, q⟩ := h
    have htf : ∀ e ∈ es, ∀ f ∈ es.flatMap Pr.fps, e.t ∉ f := fun e he f hf hx => by
      obtain ⟨k, hk⟩ := List.getElem?_of_mem he
      have h1 := (hprs.ok k e hk).tup
      rcases (hprs.young f hf _ hx).2 with ⟨z, h2⟩ | ⟨z, h2⟩
      · rw [h1] at h2; cases h2
      · rw [h1] at h2; cases h2
    have mem : ∀ {k : Nat} {e : Pr}, es[k]? = some e → ∀ j, e.f j ∈ es.flatMap Pr.fps := fun hk j => List.mem_flatMap.mpr ⟨_, List.mem_of_getElem? hk, Pr.f_mem _ j⟩
    refine ⟨_, (pss_cons (ps_if (PW.pt (pw_or (pt_not (pt_tru (pe_callB c_isinst rfl T.z_isinstance (by boot_by_name) (pa_cons (fv 0) (pa_cons (pe_bltn (v := .ty "list") rfl T.z_list (by boot_by_name) rfl) pa_nil))) (fun _ => rfl))) (pw_or1 (pt_cmpR (o_ne hu) (pe_callB c_lenA rfl T.z_len (by boot_by_name) (pa_cons (fv 0) pa_nil)) (pe_int) (nomark _)))))
      (pss_one (ps_ret (pe_bl)))
      pss_nil)
    (pss_cons (ps_for PassesOwn.never rfl (pi_range1 rfl T.z_range (pa_cons (pe_int) pa_nil)) (pg_name (i := 3) sc_law_right.nd rfl (by first | exact Or.inl rfl | exact Or.inr rfl))
      (pss_cons (ps_set (i := 4) sc_law_right.nd rfl (Or.inl rfl) (pe_ix (ix_all hu) (fv 0) (fv 3) (fun _ _ => rfl)))
      (pss_cons (ps_if (PW.pt (pw_or (pt_not (pt_tru (pe_callB c_isinst rfl T.z_isinstance (by boot_by_name) (pa_cons (fv 4) (pa_cons (pe_bltn (v := .ty "tuple") rfl T.z_tuple (by boot_by_name) rfl) pa_nil))) (fun _ => rfl))) (pw_or1 (pt_cmpR (o_ne hu) (pe_callB c_lenA rfl T.z_len (by boot_by_name) (pa_cons (fv 4) pa_nil)) (pe_int) (nomark _)))))
        (pss_one (ps_ret (pe_bl)))
        pss_nil)
      (pss_one (ps_for PassesOwn.never rfl (pi_any (pe_ix (ix_all hu) (pe_lst (pa_cons (pe_tup (pa_cons (pe_int) (pa_cons (pe_int) pa_nil))) (pa_cons (pe_tup (pa_cons (pe_int) (pa_cons (pe_int) pa_nil))) pa_nil))) (pe_op o_mod (fv 3) (pe_int)) (fun _ _ => rfl))) (pg_name (i := 5) sc_law_right.nd rfl (by first | exact Or.inl rfl | exact Or.inr rfl))
        (pss_cons (ps_if (pt_not (pt_tru (pe_callD D_law_same hr (pa_cons (pe_ix (ix_all hu) (fv 4) (fv 5) (fun _ _ => rfl)) (pa_cons (pe_callD D_law_due hr (pa_cons (fv 1) (pa_cons (pe_op o_fdiv (fv 3) (pe_int)) (pa_cons (fv 2) (pa_cons (pe_op o_mulA (fv 5) (pe_ix (ix_all hu) (pe_lst (pa_cons (pe_int) (pa_cons (pe_int) (pa_cons (pe_int) pa_nil)))) (pe_op o_mod (fv 3) (pe_int)) (fun _ _ => rfl))) pa_nil))))) pa_nil))) (fun _ => rfl)))
          (pss_one (ps_ret (pe_bl)))
          pss_nil)
        (pss_one (ps_for PassesOwn.never rfl (pi_any (pe_callTy c_listA rfl T.z_list (by boot_by_name) (pa_cons (pe_ix (ix_all hu) (fv 4) (fv 5) (fun _ _ => rfl)) pa_nil))) (pg_name (i := 6) sc_law_right.nd rfl (by first | exact Or.inl rfl | exact Or.inr rfl))
          (pss_cons (ps_if (pt_tru (pe_callB c_isinst rfl T.z_isinstance (by boot_by_name) (pa_cons (pe_ix (ix_all hu) (pe_ix (ix_all hu) (fv 4) (fv 5) (fun _ _ => rfl)) (fv 6) (fun _ _ => rfl)) (pa_cons (pe_bltn (v := .ty "list") rfl T.z_list (by boot_by_name) rfl) pa_nil))) (fun _ => rfl))
            (pss_one (ps_asg (pe_int) (pg_sub (pe_ix (ix_all hu) (pe_ix (ix_all hu) (fv 4) (fv 5) (fun _ _ => rfl)) (fv 6) (fun _ _ => rfl)) (pe_int) (st_all hu set_list))))
            pss_nil)
          (pss_one (ps_asg (pe_int) (pg_sub (pe_ix (ix_all hu) (fv 4) (fv 5) (fun _ _ => rfl)) (fv 6) (st_all hu set_list)))))))))))))
    (pss_one (ps_ret (pe_bl))))), ?_⟩
    refine ⟨_, _, _, true, rfl, (fun z => by cases z), .lst hl, kit_ll, true, rfl, ?_⟩
    refine iteF ?_
    refine Or.inl ⟨_, _, rfl, Or.inl ⟨_, SqL.of hl, rfl⟩, rfl, false, (by rw [List.length_map, hes]; rfl), iteF ?_⟩
    refine ⟨_, rfl, by decide, by decide, ?_⟩
    refine for_range (n := (12 : Int).toNat) (fun k σ H3 => Mid gs nm H0 l es H3 ∧ (∀ k' e, k ≤ k' → es[k']? = some e → ∀ j, j < 2 → Whole gs nm H3 k' e j) ∧ ∃ v3 v4 v5 v6, σ = [some (.ref l), some (.ref lg), some (.str nm), v3, v4, v5, v6])
      ⟨⟨s0, hl, fun e he => ?_, fun f hf a ha => (hprs.young f hf a ha).2.ne⟩, fun k' e _ he j hj => (hprs.ok k' e he).whole hj, none, none, none, none, rfl⟩ ?_ ?_
    · obtain ⟨k, hk⟩ := List.getElem?_of_mem he
      exact (hprs.ok k e hk).tup
    · rintro k σ H3 hk ⟨mid, whole, v3, v4, v5, v6, rfl⟩
      have hk12 : k < 12 := hk
      rw [Int.zero_add]
      obtain ⟨e, he⟩ : ∃ e, es[k]? = some e := ⟨es[k]'(by omega), List.getElem?_eq_getElem (by omega)⟩
      have hem := List.mem_of_getElem? he
      have hat : atI (es.map fun e => V.ref e.t) (k : Int) = some (.ref e.t) := atI_nat (by rw [List.getElem?_map, he]; rfl)
      have ht3 := mid.tup e hem
      refine Or.inl ⟨_, _, Or.inl (SqL.of mid.hl), hat, ?_⟩
      refine ⟨_, _, _, true, rfl, (fun z => by cases z), .tup ht3, kit_tt, true, rfl, ?_⟩
      refine iteF ?_
      refine Or.inl ⟨_, _, rfl, Or.inr ⟨_, SqT.of ht3, rfl⟩, rfl, _, rfl, ?_⟩
      refine iteF ?_
      refine ⟨(by decide : 2 ≤ sizeLine), fun t1 ht1 => ⟨(by decide : 2 ≤ sizeLine), fun t2 ht2 => ⟨(by decide : 2 ≤ sizeLine), fun l3 hl3 => ?_⟩⟩⟩
      refine ⟨(by show (0 : Int) < 2; decide), ?_⟩
      have h13 : H3 t1 = none := ht1
      have h23 : H3 t2 = none := (Same.upd ht1 _).free ht2
      have s34 : Same H3 (upd (upd (upd H3 t1 (.tup [.int 0, .int 1])) t2 (.tup [.int 1, .int 0])) l3 (.lst [.ref t1, .ref t2])) := (Same.upd ht1 _).trans ((Same.upd ht2 _).trans (Same.upd hl3 _))
      obtain ⟨tt, j0, j1, hatt, htt, htn, hj0, hj1, hjj⟩ : ∃ (tt : Addr) (j0 j1 : Nat), atI [V.ref t1, V.ref t2] ((k : Int) % 2) = some (.ref tt) ∧ upd (upd (upd H3 t1 (.tup [.int 0, .int 1])) t2 (.tup [.int 1, .int 0])) l3 (.lst [.ref t1, .ref t2]) tt = some (.tup ([j0, j1].map fun j => V.int (j : Nat))) ∧ H3 tt = none ∧ j0 < 2 ∧ j1 < 2 ∧ j0 ≠ j1 := by
        have a1 : t1 ≠ t2 := fun z => by rw [← z, upd_same] at ht2; cases ht2
        have a2 : t1 ≠ l3 := fun z => by rw [← z, upd_ne a1, upd_same] at hl3; cases hl3
        have a3 : t2 ≠ l3 := fun z => by rw [← z, upd_same] at hl3; cases hl3
        obtain h | h : (k : Int) % 2 = 0 ∨ (k : Int) % 2 = 1 := by omega
        · rw [h]
          exact ⟨t1, 0, 1, rfl, by rw [upd_ne a2, upd_ne a1, upd_same]; rfl, h13, by decide, by decide, by decide⟩
        · rw [h]
          exact ⟨t2, 1, 0, rfl, by rw [upd_ne a3, upd_same]; rfl, h23, by decide, by decide, by decide⟩
      refine Or.inl ⟨_, _, Or.inl (SqL.of upd_same), hatt, Or.inr ⟨⟨_, SqT.of htt⟩, ?_⟩⟩
      have mid4 := mid.same s34
      have whole4 : ∀ k' e, k ≤ k' → es[k']? = some e → ∀ j, j < 2 → Whole gs nm (upd (upd (upd H3 t1 (.tup [.int 0, .int 1])) t2 (.tup [.int 1, .int 0])) l3 (.lst [.ref t1, .ref t2])) k' e j := fun k' e h1 h2 j hj => (whole k' e h1 h2 j hj).keep fun c _ o q => s34 c o q
      have ttf : ∀ f ∈ es.flatMap Pr.fps, tt ∉ f := fun f hf hx => mid.there f hf tt hx htn
      generalize upd (upd (upd H3 t1 (.tup [.int 0, .int 1])) t2 (.tup [.int 1, .int 0])) l3 (.lst [.ref t1, .ref t2]) = H4 at htt mid4 whole4
      refine for_tup (K := K) (xs := [j0, j1].map fun j => V.int (j : Nat)) (fun m σ H5 => Mid gs nm H0 l es H5 ∧ (∀ k' e', k < k' → es[k']? = some e' → ∀ j, j < 2 → Whole gs nm H5 k' e' j) ∧ (∀ i j, m ≤ i → [j0, j1][i]? = some j → Whole gs nm H5 k e j) ∧ H5 tt = some (.tup ([j0, j1].map fun j => V.int (j : Nat))) ∧ ∃ v5 v6, σ = [some (.ref l), some (.ref lg), some (.str nm), some (.int (k : Nat)), some (.ref e.t), v5, v6])
        ⟨mid4, fun k' e' h1 h2 => whole4 k' e' (by omega) h2, fun i j _ hi => whole4 k e (Nat.le_refl _) he j ?_, htt, v5, v6, rfl⟩ (fun m σ H5 _ h => SqT.of h.2.2.2.1) ?_ ?_
      · have := List.mem_of_getElem? hi
        simp only [List.mem_cons, List.not_mem_nil, or_false] at this
        rcases this with rfl | rfl <;> assumption
      · clear whole4 mid4 htt v5 v6
        rintro m x σ H5 hm ⟨mid5, later5, here5, htt5, v5, v6, rfl⟩
        rw [List.getElem?_map] at hm
        obtain ⟨j, hjm, rfl⟩ : ∃ j, [j0, j1][m]? = some j ∧ V.int (j : Nat) = x := by
          cases h : [j0, j1][m]? with
          | none => rw [h] at hm; cases hm
          | some j => rw [h] at hm; exact ⟨j, rfl, Option.some.inj hm⟩
        have hj2 : j < 2 := by
          have := List.mem_of_getElem? hjm
          simp only [List.mem_cons, List.not_mem_nil, or_false] at this
          rcases this with rfl | rfl <;> assumption
        have hatj : atI [V.ref e.d0, V.ref e.d1] (j : Int) = some (.ref (e.d j)) := by
          obtain rfl | rfl : j = 0 ∨ j = 1 := by omega
          · rfl
          · rfl
        have hatm : atI ([.int 1, .int 2, .int 5] : List V) ((k : Int) % 3) = some (.int (moreAt k)) := by
          unfold moreAt
          obtain h | h | h : k % 3 = 0 ∨ k % 3 = 1 ∨ k % 3 = 2 := by omega
          · rw [show (k : Int) % 3 = 0 by omega, h]; rfl
          · rw [show (k : Int) % 3 = 1 by omega, h]; rfl
          · rw [show (k : Int) % 3 = 2 by omega, h]; rfl
        have ht5 := mid5.tup e hem
        have w5 := here5 m j (Nat.le_refl _) hjm
        have eb : (k : Int) / 3 = begAt k := by unfold begAt; omega
        refine Or.inl ⟨_, _, Or.inr (SqT.of ht5), hatj, ?_⟩
        refine ⟨⟨by decide, by decide⟩, (by decide : 3 ≤ sizeLine), fun l4 hl4 => ⟨(by show (0 : Int) < 3; decide), Or.inl ⟨_, _, Or.inl (SqL.of upd_same), hatm, small_mul (by omega) (by omega), ?_⟩⟩⟩
        have s56 := Same.upd hl4 (.lst [.int 1, .int 2, .int 5])
        have mid6 := mid5.same s56
        refine ⟨lg, gl, gs, (k : Int) / 3, (j : Int) * moreAt k, nm, rfl, mid6.s0.seq hL, hgs.same mid6.s0, gle, by omega, by omega, fun d2 as2 H7 s7 n7 r7 => ?_⟩
        have w7 := w5.keep (H' := H7) fun c _ o q => (s56.trans s7) c o q
        rw [eb] at r7
        refine ⟨e.d j, d2, e.a j, as2, _, rfl, fun z => ?_, w7, r7, fun H8 s8 => ⟨_, rfl, iteF ?_⟩⟩
        · have := (n7 d2 (by simp)).1
          rw [← z] at this
          exact mid6.there _ (mem he j) _ (by simp [Pr.f]) this
        have s58 := s56.trans (s7.trans s8)
        have mid8 := mid5.same s58
        obtain ⟨kvs, hd8, tab8, hk8⟩ := w7.keep (H' := H8) fun c _ o q => s8 c o q
        refine Or.inl ⟨_, _, Or.inr (SqT.of (mid8.tup e hem)), hatj, Or.inr ⟨e.d j, kvs, rfl, .inl hd8, fun l2 hl2 => Or.inl ⟨⟨_, SqL.of upd_same⟩, ?_⟩⟩⟩
        have s89 : Same H8 (upd H8 l2 (.lst (kvs.map fun kv => kV kv.1))) := Same.upd hl2 _
        have hl9 : upd H8 l2 (.lst (kvs.map fun kv => kV kv.1)) l2 = some (.lst (kvs.map fun kv => kV kv.1)) := upd_same
        have l2f : l2 ∉ e.f j := fun hx => mid8.there _ (mem he j) _ hx hl2
        have mid9 := mid8.same s89
        have hd9 := s89 _ _ hd8
        have tab9 : Tab (e.a j) (upd H8 l2 (.lst (kvs.map fun kv => kV kv.1))) kvs (tabOf gs (begAt k) nm ((j : Int) * moreAt k)) := tab8.mono (fun _ h => h) fun p _ u h => s89 p u h
        have s59 := s58.trans s89
        generalize upd H8 l2 (.lst (kvs.map fun kv => kV kv.1)) = H9 at hl9 mid9 hd9 tab9 s59
        have tf := htf e hem _ (mem he j)
        refine for_list (K := K) (xs := kvs.map fun kv => kV kv.1) (fun n σ H10 => (∀ c o, c ∉ e.f j → H9 c = some o → H10 c = some o) ∧ (∀ c, H9 c ≠ none → H10 c ≠ none) ∧ (∃ kv4, H10 (e.d j) = some (.dK kv4) ∧ kv4.length ≤ 100 + n ∧ ∀ (y : Str) (i : Nat) (v : V), kvs[i]? = some ((Sum.inr y : Key), v) → ∃ v, valV kv4 (Sum.inr y : Key) = some v ∧ Wk H10 (e.d j) (e.a j) v) ∧ ∃ v6, σ = [some (.ref l), some (.ref lg), some (.str nm), some (.int (k : Nat)), some (.ref e.t), some (.int (j : Nat)), v6])
          ⟨fun _ _ _ h => h, fun _ h => h, ⟨kvs, hd9, by omega, fun y i v h => tab9.start hd9 h⟩, v6, rfl⟩ (fun n σ H10 _ h => SqL.of (h.1 _ _ l2f hl9)) ?_ ?_
        · rintro n x σ H10 hx ⟨b10, n10, ⟨kv4, hd10, hlen, hall⟩, v6', rfl⟩
          rw [List.getElem?_map] at hx
          obtain ⟨⟨key, v⟩, hkv, rfl⟩ : ∃ kv, kvs[n]? = some kv ∧ kV kv.1 = x := by
            cases h : kvs[n]? with
            | none => rw [h] at hx; cases hx
            | some kv => rw [h] at hx; exact ⟨kv, rfl, Option.some.inj hx⟩
          obtain ⟨y, rfl⟩ := tab9.key hkv
          have hnk := (List.getElem?_eq_some_iff.mp hkv).1
          obtain ⟨v0, hv0, wk⟩ := hall y n v hkv
          have ht10 := b10 _ _ tf (mid9.tup e hem)
          have gd : DGet H10 (e.d j) (.str y) (some v0) := .inl ⟨kv4, .inr y, .inl hd10, rfl, hv0.symm⟩
          have fin : ∀ H11, (∀ c o, c ∉ e.f j → H10 c = some o → H11 c = some o) → (∀ c, H10 c ≠ none → H11 c ≠ none) → H11 (e.d j) = some (.dK kv4) → (∀ v, Wk H10 (e.d j) (e.a j) v → Wk H11 (e.d j) (e.a j) v) →
              (∀ c o, c ∉ e.f j → H9 c = some o → upd H11 (e.d j) (.dK (putK kv4 (.inr y) (.int 99))) c = some o) ∧ (∀ c, H9 c ≠ none → upd H11 (e.d j) (.dK (putK kv4 (.inr y) (.int 99))) c ≠ none) ∧
              ∃ kv5, upd H11 (e.d j) (.dK (putK kv4 (.inr y) (.int 99))) (e.d j) = some (.dK kv5) ∧ kv5.length ≤ 100 + (n + 1) ∧ ∀ (y' : Str) (i : Nat) (v : V), kvs[i]? = some ((Sum.inr y' : Key), v) → ∃ v', valV kv5 (Sum.inr y' : Key) = some v' ∧ Wk (upd H11 (e.d j) (.dK (putK kv4 (.inr y) (.int 99)))) (e.d j) (e.a j) v' := by
            intro H11 b11 n11 hd11 w11
            have hdf : e.d j ∈ e.f j := by simp [Pr.f]
            have lk := length_putK kv4 (.inr y) (.int 99)
            refine ⟨fun c o hc h => ?_, fun c h z => ?_, _, upd_same, by omega, fun y' i v' hi => ?_⟩
            · rw [upd_ne (fun z => hc (by rw [z]; exact hdf))]
              exact b11 c o hc (b10 c o hc h)
            · by_cases hc : c = e.d j
              · rw [hc, upd_same] at z; cases z
              · rw [upd_ne hc] at z; exact n11 c (n10 c h) z
            · obtain ⟨v2, hv2, wk2⟩ := hall y' i v' hi
              rw [valV_put]
              by_cases hy : (Sum.inr y' : Key) = .inr y
              · rw [if_pos hy]
                exact ⟨_, rfl, .inl ⟨_, rfl⟩⟩
              · rw [if_neg hy]
                exact ⟨v2, hv2, (w11 v2 wk2).updD _⟩
          rcases wk with ⟨n', rfl⟩ | ⟨p, xs, rfl, hpa, hpd, hp10, hne⟩
          · refine Or.inl ⟨_, _, Or.inr (SqT.of ht10), hatj, _, gd, _, _, _, false, rfl, (fun z => by cases z), .int n', kit_il, false, rfl, iteF ?_⟩
            obtain ⟨p1, p2, p3⟩ := fin H10 (fun _ _ _ h => h) (fun _ h => h) hd10 (fun _ h => h)
            exact Or.inl ⟨_, _, Or.inr (SqT.of ht10), hatj, _, DPut.k (k := .inr y) hd10 (small1000 (by omega)), p1, p2, p3, _, rfl⟩
          · refine Or.inl ⟨_, _, Or.inr (SqT.of ht10), hatj, _, gd, _, _, _, true, rfl, (fun z => by cases z), .lst hp10, kit_ll, true, rfl, iteT ?_⟩
            have hpf : p ∈ e.f j := by simp [Pr.f, hpa]
            have hx0 : xs.set 0 (.int 99) ≠ [] := by
              cases xs with
              | nil => exact absurd rfl hne
              | cons x r => intro z; cases z
            obtain ⟨p1, p2, p3⟩ := fin (upd H10 p (.lst (xs.set 0 (.int 99)))) (fun c o hc h => by rw [upd_ne (fun z => hc (by rw [z]; exact hpf))]; exact h) (fun c h z => by
              by_cases hc : c = p
              · rw [hc, upd_same] at z; cases z
              · rw [upd_ne hc] at z; exact h z) (by rw [upd_ne (Ne.symm hpd)]; exact hd10) (fun _ h => h.upd hx0)
            refine Or.inl ⟨_, _, Or.inr (SqT.of ht10), hatj, _, gd, Or.inl ⟨xs, 0, hp10, ix0 hne, ?_⟩⟩
            exact Or.inl ⟨_, _, Or.inr (SqT.of (by rw [upd_ne (fun z => tf (by rw [z]; exact hpf))]; exact ht10)), hatj, _, DPut.k (k := .inr y) (by rw [upd_ne (Ne.symm hpd)]; exact hd10) (small1000 (by omega)), p1, p2, p3, _, rfl⟩
        · rintro σ H10 ⟨b10, n10, _, v6', rfl⟩
          have midE := mid9.but b10 n10 (fun a ha => (hprs.young _ (mem he j) a ha).1) (hlf _ (mem he j)) (fun e' he' => htf e' he' _ (mem he j))
          have kp : ∀ {k' j' : Nat} {e' : Pr}, es[k']? = some e' → j' < 2 → (k' ≠ k ∨ j' ≠ j) → Whole gs nm H5 k' e' j' → Whole gs nm H10 k' e' j' := fun hk' hj' hne hw => hw.keep fun c hc o ho => b10 c o (fps_pair hprs.apart hk' he hj' hj2 hne c hc) (s59 c o ho)
          refine ⟨midE, fun k' e' h1 h2 j' hj' => kp h2 hj' (.inl (by omega)) (later5 k' e' h1 h2 j' hj'), fun i j' h1 h2 => ?_, b10 _ _ (ttf _ (mem he j)) (s59 _ _ htt5), _, _, rfl⟩
          have hw := here5 i j' (by omega) h2
          have hj'2 : j' < 2 := by
            have := List.mem_of_getElem? h2
            simp only [List.mem_cons, List.not_mem_nil, or_false] at this
            rcases this with rfl | rfl <;> assumption
          refine kp he hj'2 (.inr fun z => ?_) hw
          have hi2 : i < 2 := (List.getElem?_eq_some_iff.mp h2).1
          have hm0 : m = 0 ∧ i = 1 := by omega
          obtain ⟨rfl, rfl⟩ := hm0
          have e1 : j0 = j := by simpa using hjm
          have e2 : j1 = j' := by simpa using h2
          exact hjj (e1.trans (z.symm.trans e2.symm))
      · rintro σ H5 ⟨mid5, later5, _, _, v5', v6', rfl⟩
        exact ⟨mid5, fun k' e' h1 h2 => later5 k' e' (by omega) h2, _, _, _, _, rfl⟩
    · rintro σ H3 ⟨mid, whole, v3, v4, v5, v6, rfl⟩
      exact q H3 mid.s0
end
end K62

set_option Elab.async false
set_option linter.all false
set_option maxRecDepth 100000
set_option maxHeartbeats 4000000
namespace K62
open PySem L2
section
variable {P : Program} {w : World} {K : PySem.W.Frag} {mg : Str → Option Value} {base : Heap} {A : Adr}
/-- a head just made -/
def HeadOk (A : Adr) (H : Hp) (a : Addr) : Prop := HeadC A H a ∧ (isGa A H a = true → ∃ g, RepG A H a g)
theorem HeadOk.same {H H' : Hp} {a : Addr} (s : Same H H') (h : HeadOk A H a) : HeadOk A H' a :=
  ⟨h.1.same s, fun z => by
    rw [isGa_same s h.1] at z
    obtain ⟨g, hg⟩ := h.2 z
    exact ⟨g, hg.same s⟩⟩
theorem isGa_at {H : Hp} {a C dx : Addr} {fs : List (Str × V)} (h : H a = some (.ins C dx fs)) : isGa A H a = decide (C = A.GivenRow) := by
  unfold isGa
  rw [h]
def sp_head (A : Adr) : Sp := fun vs H Q _ => ∃ (c k : Int) (nm : Str), vs = [.int c, .int k, .str nm] ∧ ∀ a H', Same H H' → HeadOk A H' a → (k = 0 → isGa A H' a = true) → Q (.ref a) H'
theorem size_at (c : Int) : ∃ z : Nat, z ≤ 20 ∧ atI ([.int 0, .int 0, .int (1 + c / 24 % 20), .int (1 + c / 24 % 3)] : List V) (c / 6 % 4) = some (.int (z : Nat)) := by
  obtain ⟨a0, a1⟩ := mod_in (c / 6) (show (0 : Int) < 4 by decide)
  obtain ⟨b0, b1⟩ := mod_in (c / 24) (show (0 : Int) < 20 by decide)
  obtain ⟨d0, d1⟩ := mod_in (c / 24) (show (0 : Int) < 3 by decide)
  generalize c / 6 % 4 = j at a0 a1
  obtain rfl | rfl | rfl | rfl : j = 0 ∨ j = 1 ∨ j = 2 ∨ j = 3 := by omega
  · exact ⟨0, by decide, rfl⟩
  · exact ⟨0, by decide, rfl⟩
  · exact ⟨(1 + c / 24 % 20).toNat, by omega, by rw [show (((1 + c / 24 % 20).toNat : Nat) : Int) = 1 + c / 24 % 20 by omega]; rfl⟩
  · exact ⟨(1 + c / 24 % 3).toNat, by omega, by rw [show (((1 + c / 24 % 3).toNat : Nat) : Int) = 1 + c / 24 % 3 by omega]; rfl⟩
theorem h_head (T : Txt K mg A) : Has P w K mg base 5 "_law_head" ["_law_cell", "_law_k", "_law_name_here"] (sp_head A) := by
  have D_HandRow_init := h_HandRow_init (P := P) (w := w) (base := base) T
  have D_LetRow_init := h_LetRow_init (P := P) (w := w) (base := base) T
  have D_OwnRow_init := h_OwnRow_init (P := P) (w := w) (base := base) T
  have D_GivenRow_init := h_GivenRow_init (P := P) (w := w) (base := base) T
  refine T.law_head.has (k := 4) sc_law_head (fun vs H Q E h => ?_) (fun f cdv A' outer s H vs Q E hr hu h => ?_)
  · obtain ⟨c, k, nm, rfl, _⟩ := h
    rfl
  · obtain ⟨c, k, nm, rfl, q⟩ := h
    refine ⟨_, (pss_cons (ps_set (i := 3) sc_law_head.nd rfl (Or.inl rfl) (pe_ix (ix_all hu) (pe_lst (pa_cons (pe_int) (pa_cons (pe_int) (pa_cons (pe_op o_add (pe_int) (pe_op o_mod (pe_op o_fdiv (fv 0) (pe_int)) (pe_int))) (pa_cons (pe_op o_add (pe_int) (pe_op o_mod (pe_op o_fdiv (fv 0) (pe_int)) (pe_int))) pa_nil))))) (pe_op o_mod (pe_op o_fdiv (fv 0) (pe_int)) (pe_int)) (fun _ _ => rfl)))
    (pss_cons (ps_if (PW.pt (pw_and (pt_cmpR (o_gt) (fv 1) (pe_int) (nomark _)) (pw_and1 (pt_cmpR (o_eqU hu) (pe_op o_mod (fv 0) (pe_int)) (pe_int) (nomark _)))))
      (pss_one (ps_ret (pe_makeD T.o_HandRow D_HandRow_init hr (pa_cons (pe_op o_add (fv 1) (pe_int)) (pa_cons (fv 2) (pa_cons (pe_op o_mod (pe_op o_fdiv (fv 0) (pe_int)) (pe_int)) pa_nil))))))
      pss_nil)
    (pss_cons (ps_if (PW.pt (pw_and (pt_cmpR (o_gt) (fv 1) (pe_int) (nomark _)) (pw_and1 (pt_cmpR (o_eqU hu) (pe_op o_mod (fv 0) (pe_int)) (pe_int) (nomark _)))))
      (pss_one (ps_ret (pe_makeD T.o_LetRow D_LetRow_init hr (pa_cons (pe_op o_add (fv 1) (pe_int)) (pa_cons (fv 2) (pa_cons (pe_op o_mod (pe_op o_fdiv (fv 0) (pe_int)) (pe_int)) pa_nil))))))
      pss_nil)
    (pss_cons (ps_if (PW.pt (pw_and (pt_cmpR (o_gt) (fv 1) (pe_int) (nomark _)) (pw_and1 (pt_cmpR (o_gt) (pe_op o_mod (fv 0) (pe_int)) (pe_int) (nomark _)))))
      (pss_one (ps_ret (pe_makeD T.o_OwnRow D_OwnRow_init hr (pa_cons (pe_op o_add (fv 1) (pe_int)) (pa_cons (fv 2) (pa_cons (fv 3) pa_nil))))))
      pss_nil)
    (pss_one (ps_ret (pe_makeD T.o_GivenRow D_GivenRow_init hr (pa_cons (pe_op o_add (fv 1) (pe_int)) (pa_cons (fv 2) (pa_cons (pe_op o_mod (pe_op o_fdiv (fv 0) (pe_int)) (pe_int)) (pa_cons (fv 3) pa_nil))))))))))), ?_⟩
    obtain ⟨z, hz, hat⟩ := size_at c
    have nd := T.nd
    simp only [List.nodup_cons, List.mem_cons, List.not_mem_nil, or_false, not_or] at nd
    refine ⟨⟨by decide, by decide⟩, (by show (0 : Int) < 20; decide), ⟨by decide, by decide⟩, (by show (0 : Int) < 3; decide), (by decide : 4 ≤ sizeLine), fun l hl => ?_⟩
    refine ⟨⟨by decide, by decide⟩, (by show (0 : Int) < 4; decide), Or.inl ⟨_, _, Or.inl (SqL.of upd_same), hat, ?_⟩⟩
    have s1 := Same.upd hl (.lst [.int 0, .int 0, .int (1 + c / 24 % 20), .int (1 + c / 24 % 3)])
    refine ⟨_, rfl, ?_⟩
    by_cases hk : 0 < k
    · rw [decide_eq_true hk]
      refine iteT ⟨(by show (0 : Int) < 6; decide), rfl, _, rfl, ?_⟩
      refine ite2 (fun b1 => ?_) (fun b1 => ?_)
      · refine ⟨⟨by decide, by decide⟩, (by show (0 : Int) < 3; decide), ?_⟩
        refine fun r dx hr3 hd_ hne_ => mk_HandRow hr3 hd_ fun H3 s3 hx => ⟨rfl, ?_⟩
        refine q r H3 (s1.trans s3) ⟨⟨_, _, _, hx, .inl rfl⟩, fun y => ?_⟩ fun y => by omega
        rw [isGa_at hx] at y
        exact absurd (of_decide_eq_true y) nd.2.1.1
      refine ⟨_, rfl, ?_⟩
      rw [decide_eq_true hk]
      refine iteT ⟨(by show (0 : Int) < 6; decide), rfl, _, rfl, ?_⟩
      refine ite2 (fun b2 => ?_) (fun b2 => ?_)
      · refine ⟨⟨by decide, by decide⟩, (by show (0 : Int) < 3; decide), ?_⟩
        refine fun r dx hr3 hd_ hne_ => mk_LetRow hr3 hd_ fun H3 s3 hx => ⟨rfl, ?_⟩
        refine q r H3 (s1.trans s3) ⟨⟨_, _, _, hx, .inr (.inr (.inr rfl))⟩, fun y => ?_⟩ fun y => by omega
        rw [isGa_at hx] at y
        exact absurd (of_decide_eq_true y).symm nd.2.2.1.2.1
      refine ⟨_, rfl, ?_⟩
      rw [decide_eq_true hk]
      refine iteT ⟨(by show (0 : Int) < 6; decide), _, rfl, ?_⟩
      refine ite2 (fun b3 => ?_) (fun b3 => ?_)
      · refine fun r dx hr3 hd_ hne_ => mk_OwnRow hr3 hd_ fun H3 s3 hx => ⟨rfl, ?_⟩
        refine q r H3 (s1.trans s3) ⟨⟨_, _, _, hx, .inr (.inr (.inl rfl))⟩, fun y => ?_⟩ fun y => by omega
        rw [isGa_at hx] at y
        exact absurd (of_decide_eq_true y).symm nd.2.2.1.1
      refine ⟨⟨by decide, by decide⟩, (by show (0 : Int) < 3; decide), ?_⟩
      refine fun r dx hr3 hd_ hne_ => mk_GivenRow hr3 hd_ fun H3 s3 hx => ⟨rfl, ?_⟩
      exact q r H3 (s1.trans s3) ⟨⟨_, _, _, hx, .inr (.inl rfl)⟩, fun _ => ⟨(nm, z), dx, _, _, hx, hz⟩⟩ fun _ => by rw [isGa_at hx]; exact decide_eq_true rfl
    · rw [decide_eq_false hk]
      refine iteF ?_
      refine iteF ⟨_, rfl, ?_⟩
      rw [decide_eq_false hk]
      refine iteF ?_
      refine iteF ⟨_, rfl, ?_⟩
      rw [decide_eq_false hk]
      refine iteF ?_
      refine iteF ?_
      refine ⟨⟨by decide, by decide⟩, (by show (0 : Int) < 3; decide), ?_⟩
      refine fun r dx hr3 hd_ hne_ => mk_GivenRow hr3 hd_ fun H3 s3 hx => ⟨rfl, ?_⟩
      exact q r H3 (s1.trans s3) ⟨⟨_, _, _, hx, .inr (.inl rfl)⟩, fun _ => ⟨(nm, z), dx, _, _, hx, hz⟩⟩ fun _ => by rw [isGa_at hx]; exact decide_eq_true rfl
theorem cut_mem {xs : List V} {lo hi : Option Int} {x : V} (h : x ∈ cutV xs lo hi) : x ∈ xs := List.mem_of_mem_drop (List.mem_of_mem_take h)
def sp_law (K : PySem.W.Frag) : Sp := fun vs H Q _ => ∃ (a : Addr) (ns : List Int), vs = [.ref a] ∧ SqL K H a (ns.map V.int) ∧ ns.length ≤ 63 ∧ ∀ H', Q (.bl true) H'
theorem gs_of {H : Hp} : ∀ {gl : List Addr}, (∀ a ∈ gl, ∃ g, RepG A H a g) → ∃ gs, RepGs A H gl gs
  | [], _ => ⟨[], .nil⟩
  | a :: r, h => by
    obtain ⟨g, hg⟩ := h a (by simp)
    obtain ⟨gs, hs⟩ := gs_of (gl := r) fun b hb => h b (by simp [hb])
    exact ⟨g :: gs, .cons hg hs⟩
theorem h_law (T : Txt K mg A) (F : TopFn K mg "law" s_law ["_law_script"]) : Has P w K mg base 12 "law" ["_law_script"] (sp_law K) := by
  have D_law_cell_at := h_cell_at (P := P) (w := w) (base := base) T
  have D_law_name := h_name (P := P) (w := w) (base := base) T
  have D_law_head := h_head (P := P) (w := w) (base := base) T
  have D_law_right := h_right (P := P) (w := w) (base := base) T
  have D_tried := h_tried (P := P) (w := w) (base := base) T
  have D_Program_init := h_Program_init (P := P) (w := w) (base := base) T
  refine F.has (k := 11) sc_law (fun vs H Q E h => ?_) (fun f cdv A' outer s H vs Q E hr hu h => ?_)
  · obtain ⟨a, ns, rfl, _⟩ := h
    rfl
  · obtain ⟨a, ns, rfl, hS, hlen, q⟩ := h
    refine ⟨_, (pss_cons (ps_set (i := 1) sc_law.nd rfl (Or.inl rfl) (pe_lst (pa_nil)))
    (pss_cons (ps_set (i := 2) sc_law.nd rfl (Or.inl rfl) (pe_op o_add (pe_lst (pa_cons (pe_callD D_law_cell_at hr (pa_cons (fv 0) (pa_cons (pe_int) pa_nil))) pa_nil)) (pe_slice sl_all (fv 0) (po_some (pe_int)) (po_some (pe_int)))))
    (pss_cons (ps_for PassesOwn.never rfl (pi_range1 rfl T.z_range (pa_cons (pe_callB c_lenA rfl T.z_len (by boot_by_name) (pa_cons (fv 2) pa_nil)) pa_nil)) (pg_name (i := 3) sc_law.nd rfl (by first | exact Or.inl rfl | exact Or.inr rfl))
      (pss_one (ps_expr (m_append (fv 1) (pa_cons (pe_callD D_law_head hr (pa_cons (pe_ix (ix_all hu) (fv 2) (fv 3) (fun _ _ => rfl)) (pa_cons (fv 3) (pa_cons (pe_callD D_law_name hr (pa_cons (pe_callD D_law_cell_at hr (pa_cons (fv 0) (pa_cons (pe_int) pa_nil))) (pa_cons (fv 3) pa_nil))) pa_nil)))) pa_nil)))))
    (pss_cons (ps_setComp (j := 4) (N := ["_law_head_here"]) (own := 1) (fr := []) (CompOk.of (by kernel_rfl!)) rfl sc_law.nd rfl (Or.inl rfl) (pi_any (fv 1)) (fun b => pg_name (i := 0) (show List.Nodup (["_law_head_here"] : List PySem.Str) by decide +kernel) rfl (by first | exact Or.inl rfl | exact Or.inr rfl)) (fun b => pf_one (pt_tru (pe_callB c_isinst rfl T.z_isinstance (by boot_by_name) (pa_cons (fv 0) (pa_cons (pe_gtup T.o_GivenRow.mg) pa_nil))) (fun _ => rfl))) (fun b => fv 0))
    (pss_cons (ps_set (i := 5) sc_law.nd rfl (Or.inl rfl) (pe_fld (pe_ix (ix_all hu) (fv 4) (pe_op o_mod (pe_callD D_law_cell_at hr (pa_cons (fv 0) (pa_cons (pe_int) pa_nil))) (pe_callB c_lenA rfl T.z_len (by boot_by_name) (pa_cons (fv 4) pa_nil))) (fun _ _ => rfl)) rfl))
    (pss_cons (ps_set (i := 6) sc_law.nd rfl (Or.inl rfl) (pe_makeD T.o_Program D_Program_init hr (pa_cons (fv 1) (pa_cons (pe_lst (pa_nil)) (pa_cons (pe_lst (pa_nil)) pa_nil)))))
    (pss_cons (ps_if (pt_not (pt_tru (pe_callD D_law_right hr (pa_cons (pe_callD D_tried hr (pa_cons (fv 6) (pa_cons (fv 5) pa_nil))) (pa_cons (fv 4) (pa_cons (fv 5) pa_nil)))) (fun _ => rfl)))
      (pss_one (ps_ret (pe_bl)))
      pss_nil)
    (pss_cons (ps_set (i := 7) sc_law.nd rfl (Or.inl rfl) (pe_fld (pe_ix (ix_all hu) (fv 4) (pe_op o_mod (pe_op o_fdiv (pe_callD D_law_cell_at hr (pa_cons (fv 0) (pa_cons (pe_int) pa_nil))) (pe_int)) (pe_callB c_lenA rfl T.z_len (by boot_by_name) (pa_cons (fv 4) pa_nil))) (fun _ _ => rfl)) rfl))
    (pss_one (ps_ret (pe_and (pe_callD D_law_right hr (pa_cons (pe_callD D_tried hr (pa_cons (fv 6) (pa_cons (fv 7) pa_nil))) (pa_cons (fv 4) (pa_cons (fv 7) pa_nil)))) (pe_one (pe_callD D_law_right hr (pa_cons (pe_callD D_tried hr (pa_cons (fv 6) (pa_cons (fv 5) pa_nil))) (pa_cons (fv 4) (pa_cons (fv 5) pa_nil)))))))))))))))), ?_⟩
    refine ⟨(by decide : 0 ≤ sizeLine), fun lh hlh => ?_⟩
    have s1 := Same.upd hlh (.lst [])
    refine ⟨a, ns, 2, rfl, s1.seq hS, by decide, fun c2 => ?_⟩
    refine ⟨(by decide : 1 ≤ sizeLine), fun l2 hl2 => ?_⟩
    have s2 := s1.trans (Same.upd hl2 (.lst [.int c2]))
    refine ⟨_, rfl, _, rfl, Or.inl ⟨a, _, rfl, s2.seq hS, fun l3 hl3 => ?_⟩⟩
    have s3 := s2.trans (Same.upd hl3 (.lst (cutV (ns.map V.int) (some 3) (some 26))))
    have h2 : upd (upd (upd H lh (.lst [])) l2 (.lst [.int c2])) l3 (.lst (cutV (ns.map V.int) (some 3) (some 26))) l2 = some (.lst [.int c2]) := (Same.upd hl3 _) _ _ upd_same
    have h1 : upd (upd (upd H lh (.lst [])) l2 (.lst [.int c2])) l3 (.lst (cutV (ns.map V.int) (some 3) (some 26))) lh = some (.lst []) := (Same.upd hl3 _) _ _ ((Same.upd hl2 _) _ _ upd_same)
    have cl := cutV_length (ns.map V.int) (some 3) (some 26)
    rw [List.length_map] at cl
    refine ⟨l2, l3, _, _, rfl, rfl, h2, upd_same, sz (by rw [List.length_singleton]; omega), fun lc hlc => ?_⟩
    have s4 := s3.trans (Same.upd hlc (.lst ([.int c2] ++ cutV (ns.map V.int) (some 3) (some 26))))
    have h4 : ∀ o, upd (upd (upd (upd H lh (.lst [])) l2 (.lst [.int c2])) l3 (.lst (cutV (ns.map V.int) (some 3) (some 26)))) lc o lc = some o := fun o => upd_same
    have h4l := (Same.upd hlc (.lst ([.int c2] ++ cutV (ns.map V.int) (some 3) (some 26)))) _ _ h1
    have h4c := h4 (.lst ([.int c2] ++ cutV (ns.map V.int) (some 3) (some 26)))
    have hints : ∀ x ∈ [V.int c2] ++ cutV (ns.map V.int) (some 3) (some 26), ∃ i, x = .int i := fun x hx => by
      rcases List.mem_append.mp hx with hx | hx
      · exact ⟨c2, List.mem_singleton.mp hx⟩
      · obtain ⟨n, _, e⟩ := List.mem_map.mp (cut_mem hx)
        exact ⟨n, e.symm⟩
    have hcl : ([V.int c2] ++ cutV (ns.map V.int) (some 3) (some 26)).length ≤ 64 := by rw [List.length_append, List.length_singleton]; omega
    have hcl0 : 0 < ([V.int c2] ++ cutV (ns.map V.int) (some 3) (some 26)).length := by rw [List.length_append, List.length_singleton]; omega
    generalize [V.int c2] ++ cutV (ns.map V.int) (some 3) (some 26) = cells at *
    generalize upd (upd (upd (upd H lh (.lst [])) l2 (.lst [.int c2])) l3 (.lst (cutV (ns.map V.int) (some 3) (some 26)))) lc (.lst cells) = H4 at s4 h4l h4c ⊢
    have hlc1 : lh ≠ lc := ne_of_none h1 hlc
    clear h4 h1 h2 hlc s3 hl3 s2 hl2 s1
    refine Or.inl ⟨_, _, rfl, Or.inl ⟨_, SqL.of h4c, rfl⟩, _, rfl, by omega, by omega, ?_⟩
    refine for_range (n := ((cells.length : Nat) : Int).toNat) (fun i σ H5 => Same H H5 ∧ (∃ hs : List Addr, hs.length = i ∧ H5 lh = some (.lst (hs.map V.ref)) ∧ (∀ a ∈ hs, HeadOk A H5 a) ∧ (∀ a, hs[0]? = some a → isGa A H5 a = true)) ∧ H5 lc = some (.lst cells) ∧ ∃ v3, σ = [some (.ref a), some (.ref lh), some (.ref lc), v3, none, none, none, none])
      ⟨s4, ⟨[], rfl, h4l, (fun a ha => by cases ha), fun a z => by simp at z⟩, h4c, none, rfl⟩ ?_ ?_
    · rintro i σ H5 hi ⟨s5, ⟨hs, hhl, h5l, hok, h0⟩, h5c, v3, rfl⟩
      rw [Int.toNat_natCast] at hi
      rw [Int.zero_add]
      obtain ⟨c, hc⟩ : ∃ c, cells[i]? = some (.int c) := by
        have e := List.getElem?_eq_getElem hi
        obtain ⟨c, hc⟩ := hints _ (List.mem_of_getElem? e)
        exact ⟨c, by rw [e, hc]⟩
      have hat : atI cells (i : Int) = some (.int c) := atI_nat hc
      refine ⟨Or.inl ⟨rfl, _, SqL.of h5l⟩, Or.inl ⟨_, _, Or.inl (SqL.of h5c), hat, ?_⟩⟩
      refine ⟨a, ns, 1, rfl, s5.seq hS, by decide, fun c1 => ⟨c1, (i : Int), rfl, by omega, by omega, fun nm H6 s6 => ?_⟩⟩
      refine ⟨c, (i : Int), nm, rfl, fun r H7 s7 hokr hr0 => ?_⟩
      have s57 := s6.trans s7
      have h7l := s57 _ _ h5l
      have hH : H lh = none := hlh
      refine ⟨lh, _, _, rfl, rfl, h7l, small1000 (by rw [List.length_map]; omega), ?_⟩
      have s8 : ∀ b o, b ≠ lh → H7 b = some o → upd H7 lh (.lst (hs.map V.ref ++ [.ref r])) b = some o := fun b o hb h => by rw [upd_ne hb]; exact h
      have hk : ∀ {b : Addr}, HeadOk A H7 b → HeadOk A (upd H7 lh (.lst (hs.map V.ref ++ [.ref r]))) b ∧ isGa A (upd H7 lh (.lst (hs.map V.ref ++ [.ref r]))) b = isGa A H7 b := fun {b} h => by
        obtain ⟨⟨C, dx, fs, h1, h2⟩, h3⟩ := h
        have hb : b ≠ lh := fun z => by rw [z, h7l] at h1; cases h1
        have e : isGa A (upd H7 lh (.lst (hs.map V.ref ++ [.ref r]))) b = isGa A H7 b := by
          unfold isGa
          rw [upd_ne hb]
        refine ⟨⟨⟨C, dx, fs, s8 _ _ hb h1, h2⟩, fun y => ?_⟩, e⟩
        rw [e] at y
        obtain ⟨g, gdx, gn, gr, hg, hz⟩ := h3 y
        exact ⟨g, gdx, gn, gr, s8 _ _ hb hg, hz⟩
      refine ⟨fun b o hb => s8 b o (ne_of_none hb hH) ((s5.trans s57) b o hb), ⟨hs ++ [r], by rw [List.length_append, hhl]; rfl, by rw [upd_same, List.map_append]; rfl, fun b hb => ?_, fun b hb => ?_⟩, ?_, _, rfl⟩
      · rcases List.mem_append.mp hb with hb | hb
        · exact (hk ((hok b hb).same s57)).1
        · rw [List.mem_singleton] at hb
          subst hb
          exact (hk hokr).1
      · by_cases hz : hs = []
        · subst hz
          have : i = 0 := by rw [← hhl]; rfl
          subst this
          have hbr : r = b := by simpa using hb
          subst hbr
          rw [(hk hokr).2]
          exact hr0 rfl
        · have hb' : hs[0]? = some b := by
            rw [List.getElem?_append_left (List.length_pos_iff.mpr hz)] at hb
            exact hb
          have hm := List.mem_of_getElem? hb'
          rw [(hk ((hok b hm).same s57)).2, isGa_same s57 (hok b hm).1]
          exact h0 b hb'
      · exact s8 _ _ (Ne.symm hlc1) (s57 _ _ h5c)
    · rintro σ H5 ⟨s5, ⟨hs, hhl, h5l, hok, h0⟩, h5c, v3, rfl⟩
      rw [Int.toNat_natCast] at hhl
      refine Or.inl ⟨⟨_, SqL.of h5l⟩, ?_⟩
      refine comp_list (isG A H5) id (SqL.of h5l) (small1000 (by rw [List.length_map]; omega)) (fun cb x H2 R hx sm k => ?_) (fun cb x H2 R hx _ sm k => k H2 (Same.refl _)) fun lg H6 hlg s6 e6 => ?_
      · obtain ⟨b, hb, rfl⟩ := List.mem_map.mp hx
        obtain ⟨t, ht, hk⟩ := head_ty T ((hok b hb).1.same sm)
        rw [isGa_same sm (hok b hb).1] at hk
        exact ⟨_, _, t, isGa A H5 b, rfl, (fun z => by cases z), ht, hk, isGa A H5 b, rfl, k H2 (Same.refl _)⟩
      rw [List.map_id, filt_map] at e6
      have hgl : hs.filter (isGa A H6) = hs.filter (isGa A H5) := filt_same s6 fun b hb => (hok b hb).1
      have hgm : ∀ b ∈ hs.filter (isGa A H5), ∃ g, RepG A H6 b g := fun b hb => by
        obtain ⟨h1, h2⟩ := List.mem_filter.mp hb
        obtain ⟨g, hg⟩ := (hok b h1).2 h2
        exact ⟨g, hg.same s6⟩
      have hne : 0 < (hs.filter (isGa A H5)).length := by
        obtain ⟨b, hb⟩ : ∃ b, hs[0]? = some b := ⟨hs[0]'(by omega), List.getElem?_eq_getElem (by omega)⟩
        exact List.length_pos_of_mem (List.mem_filter.mpr ⟨List.mem_of_getElem? hb, h0 b hb⟩)
      have gle : (hs.filter (isGa A H5)).length ≤ 70 := by
        have := List.length_filter_le (isGa A H5) hs
        omega
      generalize hs.filter (isGa A H5) = gl at e6 hgl hgm hne gle
      obtain ⟨gs, hgs⟩ := gs_of hgm
      have s06 := s5.trans s6
      have pick : ∀ c : Int, ∃ (ga gdx : Addr) (gn gr gz : V) (nm : Str), atI (gl.map V.ref) (c % (((gl.map V.ref).length : Nat) : Int)) = some (.ref ga) ∧ H6 ga = some (.ins A.GivenRow gdx [("number", gn), ("name", .str nm), ("rank", gr), ("size", gz)]) := fun c => by
        have hpos : (0 : Int) < (((gl.map V.ref).length : Nat) : Int) := by rw [List.length_map]; omega
        obtain ⟨j0, j1⟩ := mod_in c hpos
        obtain ⟨ga, hm, hg, hat⟩ := at_map V.ref (xs := gl) j0 (by rw [List.length_map] at j1; rw [List.length_map]; exact j1)
        obtain ⟨g, _, gdx, gn, gr, hG, _⟩ := hgs.at hg
        exact ⟨ga, gdx, gn, gr, _, g.1, hat, hG⟩
      have hpos : (0 : Int) < (((gl.map V.ref).length : Nat) : Int) := by rw [List.length_map]; omega
      refine ⟨a, ns, 0, rfl, s06.seq hS, by decide, fun c0 => Or.inl ⟨_, _, rfl, Or.inl ⟨_, SqL.of e6, rfl⟩, hpos, ?_⟩⟩
      obtain ⟨ga, gdx, gn, gr, gz, nm, hat, hG⟩ := pick c0
      refine Or.inl ⟨_, _, Or.inl (SqL.of e6), hat, ga, A.GivenRow, gdx, _, _, rfl, hG, T.o_GivenRow.cl, T.n_GivenRow_name, rfl, ?_⟩
      refine ⟨(by decide : 0 ≤ sizeLine), fun ld hld => ⟨(by decide : 0 ≤ sizeLine), fun lm hlm => ?_⟩⟩
      have s67 := (Same.upd hld (.lst [])).trans (Same.upd hlm (.lst []))
      refine fun rp dx hr8 hd_ hne_ => mk_Program (SqL.of (s67 _ _ (s6 _ _ h5l))) (SqL.of ((Same.upd hlm (.lst [])) _ _ upd_same)) (SqL.of upd_same) hr8 hd_ fun n1 n2 n3 H8 f1 f2 f3 s8 g1 g2 g3 hx => ⟨rfl, ?_⟩
      have s68 := s67.trans s8
      have i62 : In62 K A H8 rp hs gl gs := ⟨⟨dx, n1, _, _, hx, SqL.of g1, fun b hb => ((hok b hb).1.same s6).same s68⟩, by omega, (filt_same s68 fun b hb => (hok b hb).1.same s6).trans hgl, hgs.same s68⟩
      have e8 := s68 _ _ e6
      have s08 := s06.trans s68
      refine ⟨rp, hs, gl, gs, nm, rfl, i62, fun l es H9 s9 h9l hes hprs hlf => ?_⟩
      refine ⟨l, lg, gl, gs, nm, es, H8, rfl, SqL.of e8, i62.rg, gle, s9, h9l, hes, hprs, hlf, fun H10 s10 => ?_⟩
      refine ⟨_, rfl, iteF ?_⟩
      have i62' := i62.same s10
      have e10 := s10 _ _ e8
      refine ⟨a, ns, 0, rfl, (s08.trans s10).seq hS, by decide, fun c0' => ⟨⟨by decide, by decide⟩, Or.inl ⟨_, _, rfl, Or.inl ⟨_, SqL.of e10, rfl⟩, hpos, ?_⟩⟩⟩
      obtain ⟨ga', gdx', gn', gr', gz', nm', hat', hG'⟩ := pick (c0' / 24)
      refine Or.inl ⟨_, _, Or.inl (SqL.of e10), hat', ga', A.GivenRow, gdx', _, _, rfl, s10 _ _ (s68 _ _ hG'), T.o_GivenRow.cl, T.n_GivenRow_name, rfl, ?_⟩
      refine ⟨rp, hs, gl, gs, nm', rfl, i62', fun l es H11 s11 h11l hes hprs hlf => ?_⟩
      refine ⟨l, lg, gl, gs, nm', es, H10, rfl, SqL.of e10, i62'.rg, gle, s11, h11l, hes, hprs, hlf, fun H12 s12 => ?_⟩
      refine ⟨true, rfl, iteT ?_⟩
      have i62'' := i62'.same s12
      have e12 := s12 _ _ e10
      refine ⟨rp, hs, gl, gs, nm, rfl, i62'', fun l es H13 s13 h13l hes hprs hlf => ?_⟩
      refine ⟨l, lg, gl, gs, nm, es, H12, rfl, SqL.of e12, i62''.rg, gle, s13, h13l, hes, hprs, hlf, fun H14 s14 => ?_⟩
      exact q _
end
end K62

set_option Elab.async false
set_option linter.all false
set_option maxRecDepth 100000
set_option maxHeartbeats 4000000
namespace K62
open PySem L2
/-! ### the top, as the program has made it -/
theorem all_mk {l : PySem.W.OpenLaw} {w : World} {K : PySem.W.Frag} {h : Heap} {mg : Str → Option Value} {fa f0 f1 f2 f3 f4 f5 f6 f7 f8 f9 f10 A_Row A_HandRow A_GivenRow A_OwnRow A_LetRow A_Program : Addr} (X : K.In h) (G : h.Ns mainGlobals mg) (hfa : mg "law" = some (.ref fa))
    {od0 an0 : Option Addr} {sl0 : Array (Option Value)} {oc0 kV0 dc0 pm0 cd0 ct0 : Value}
    (a0 : PySem.W.nsIn K mainGlobals "_wall" = some (some (.ref f0))) (l0 : K.lookup f0 = some ⟨oc0, od0, .func (PySem.W.fnOf "_wall" "_wall" (defArgs s_wall) (defBody s_wall) (defScope s_wall) .none kV0 dc0 pm0 an0 cd0 ct0), sl0⟩) (c0 : PySem.W.codeIn K cd0 "_wall" = true) (k0 : PySem.W.keepIn K (.ref f0) = true)
    {od1 an1 : Option Addr} {sl1 : Array (Option Value)} {oc1 kV1 dc1 pm1 cd1 ct1 : Value}
    (a1 : PySem.W.nsIn K mainGlobals "gift_made" = some (some (.ref f1))) (l1 : K.lookup f1 = some ⟨oc1, od1, .func (PySem.W.fnOf "gift_made" "gift_made" (defArgs s_gift_made) (defBody s_gift_made) (defScope s_gift_made) .none kV1 dc1 pm1 an1 cd1 ct1), sl1⟩) (c1 : PySem.W.codeIn K cd1 "gift_made" = true) (k1 : PySem.W.keepIn K (.ref f1) = true)
    {od2 an2 : Option Addr} {sl2 : Array (Option Value)} {oc2 kV2 dc2 pm2 cd2 ct2 : Value}
    (a2 : PySem.W.nsIn K mainGlobals "gifts_made" = some (some (.ref f2))) (l2 : K.lookup f2 = some ⟨oc2, od2, .func (PySem.W.fnOf "gifts_made" "gifts_made" (defArgs s_gifts_made) (defBody s_gifts_made) (defScope s_gifts_made) .none kV2 dc2 pm2 an2 cd2 ct2), sl2⟩) (c2 : PySem.W.codeIn K cd2 "gifts_made" = true) (k2 : PySem.W.keepIn K (.ref f2) = true)
    {od3 an3 : Option Addr} {sl3 : Array (Option Value)} {oc3 kV3 dc3 pm3 cd3 ct3 : Value}
    (a3 : PySem.W.nsIn K mainGlobals "tried" = some (some (.ref f3))) (l3 : K.lookup f3 = some ⟨oc3, od3, .func (PySem.W.fnOf "tried" "tried" (defArgs s_tried) (defBody s_tried) (defScope s_tried) .none kV3 dc3 pm3 an3 cd3 ct3), sl3⟩) (c3 : PySem.W.codeIn K cd3 "tried" = true) (k3 : PySem.W.keepIn K (.ref f3) = true)
    {od4 an4 : Option Addr} {sl4 : Array (Option Value)} {oc4 kV4 dc4 pm4 cd4 ct4 : Value}
    (a4 : PySem.W.nsIn K mainGlobals "_law_cell_at" = some (some (.ref f4))) (l4 : K.lookup f4 = some ⟨oc4, od4, .func (PySem.W.fnOf "_law_cell_at" "_law_cell_at" (defArgs s_law_cell_at) (defBody s_law_cell_at) (defScope s_law_cell_at) .none kV4 dc4 pm4 an4 cd4 ct4), sl4⟩) (c4 : PySem.W.codeIn K cd4 "_law_cell_at" = true) (k4 : PySem.W.keepIn K (.ref f4) = true)
    {od5 an5 : Option Addr} {sl5 : Array (Option Value)} {oc5 kV5 dc5 pm5 cd5 ct5 : Value}
    (a5 : PySem.W.nsIn K mainGlobals "_law_name" = some (some (.ref f5))) (l5 : K.lookup f5 = some ⟨oc5, od5, .func (PySem.W.fnOf "_law_name" "_law_name" (defArgs s_law_name) (defBody s_law_name) (defScope s_law_name) .none kV5 dc5 pm5 an5 cd5 ct5), sl5⟩) (c5 : PySem.W.codeIn K cd5 "_law_name" = true) (k5 : PySem.W.keepIn K (.ref f5) = true)
    {od6 an6 : Option Addr} {sl6 : Array (Option Value)} {oc6 kV6 dc6 pm6 cd6 ct6 : Value}
    (a6 : PySem.W.nsIn K mainGlobals "_law_head" = some (some (.ref f6))) (l6 : K.lookup f6 = some ⟨oc6, od6, .func (PySem.W.fnOf "_law_head" "_law_head" (defArgs s_law_head) (defBody s_law_head) (defScope s_law_head) .none kV6 dc6 pm6 an6 cd6 ct6), sl6⟩) (c6 : PySem.W.codeIn K cd6 "_law_head" = true) (k6 : PySem.W.keepIn K (.ref f6) = true)
    {od7 an7 : Option Addr} {sl7 : Array (Option Value)} {oc7 kV7 dc7 pm7 cd7 ct7 : Value}
    (a7 : PySem.W.nsIn K mainGlobals "_law_due" = some (some (.ref f7))) (l7 : K.lookup f7 = some ⟨oc7, od7, .func (PySem.W.fnOf "_law_due" "_law_due" (defArgs s_law_due) (defBody s_law_due) (defScope s_law_due) .none kV7 dc7 pm7 an7 cd7 ct7), sl7⟩) (c7 : PySem.W.codeIn K cd7 "_law_due" = true) (k7 : PySem.W.keepIn K (.ref f7) = true)
    {od8 an8 : Option Addr} {sl8 : Array (Option Value)} {oc8 kV8 dc8 pm8 cd8 ct8 : Value}
    (a8 : PySem.W.nsIn K mainGlobals "_law_same" = some (some (.ref f8))) (l8 : K.lookup f8 = some ⟨oc8, od8, .func (PySem.W.fnOf "_law_same" "_law_same" (defArgs s_law_same) (defBody s_law_same) (defScope s_law_same) .none kV8 dc8 pm8 an8 cd8 ct8), sl8⟩) (c8 : PySem.W.codeIn K cd8 "_law_same" = true) (k8 : PySem.W.keepIn K (.ref f8) = true)
    {od9 an9 : Option Addr} {sl9 : Array (Option Value)} {oc9 kV9 dc9 pm9 cd9 ct9 : Value}
    (a9 : PySem.W.nsIn K mainGlobals "_law_right" = some (some (.ref f9))) (l9 : K.lookup f9 = some ⟨oc9, od9, .func (PySem.W.fnOf "_law_right" "_law_right" (defArgs s_law_right) (defBody s_law_right) (defScope s_law_right) .none kV9 dc9 pm9 an9 cd9 ct9), sl9⟩) (c9 : PySem.W.codeIn K cd9 "_law_right" = true) (k9 : PySem.W.keepIn K (.ref f9) = true)
    {od10 an10 : Option Addr} {sl10 : Array (Option Value)} {oc10 kV10 dc10 pm10 cd10 ct10 : Value}
    (a10 : PySem.W.nsIn K mainGlobals "law" = some (some (.ref f10))) (l10 : K.lookup f10 = some ⟨oc10, od10, .func (PySem.W.fnOf "law" "law" (defArgs s_law) (defBody s_law) (defScope s_law) .none kV10 dc10 pm10 an10 cd10 ct10), sl10⟩) (c10 : PySem.W.codeIn K cd10 "law" = true) (k10 : PySem.W.keepIn K (.ref f10) = true)
    (z_all : PySem.W.nsIn K mainGlobals "all" = some none)
    (z_bool : PySem.W.nsIn K mainGlobals "bool" = some none)
    (z_dict : PySem.W.nsIn K mainGlobals "dict" = some none)
    (z_enumerate : PySem.W.nsIn K mainGlobals "enumerate" = some none)
    (z_int : PySem.W.nsIn K mainGlobals "int" = some none)
    (z_isinstance : PySem.W.nsIn K mainGlobals "isinstance" = some none)
    (z_len : PySem.W.nsIn K mainGlobals "len" = some none)
    (z_list : PySem.W.nsIn K mainGlobals "list" = some none)
    (z_range : PySem.W.nsIn K mainGlobals "range" = some none)
    (z_tuple : PySem.W.nsIn K mainGlobals "tuple" = some none)
    {ad_BEGINS : Addr} {it_BEGINS : Array Value} {n_BEGINS : Nat} {sl_BEGINS : Array (Option Value)} (g_BEGINS : PySem.W.nsIn K mainGlobals "BEGINS" = some (some (.ref ad_BEGINS))) (tl_BEGINS : K.lookup ad_BEGINS = some ⟨.type "tuple", none, .seq it_BEGINS n_BEGINS, sl_BEGINS⟩) (tz_BEGINS : it_BEGINS.size ≤ sizeLine) (tv_BEGINS : it_BEGINS.toList.map absV = [V.int 0, V.int 1, V.int 2, V.int 3].map some)
    {ad_MORES : Addr} {it_MORES : Array Value} {n_MORES : Nat} {sl_MORES : Array (Option Value)} (g_MORES : PySem.W.nsIn K mainGlobals "MORES" = some (some (.ref ad_MORES))) (tl_MORES : K.lookup ad_MORES = some ⟨.type "tuple", none, .seq it_MORES n_MORES, sl_MORES⟩) (tz_MORES : it_MORES.size ≤ sizeLine) (tv_MORES : it_MORES.toList.map absV = [V.int 1, V.int 2, V.int 5].map some)
    (cg : PySem.W.specialIn K (.builtin "object.__class__") "__get__" = some (some (.builtin "getset_descriptor.__get__"))) (ct : PySem.W.takesIn K (.builtin "object.__class__") = some true)
    {xd_Row : ClassData} (x_Row : PySem.W.nsIn K mainGlobals "Row" = some (some (.ref A_Row))) (xl_Row : PySem.W.clsIn K A_Row = some xd_Row) (xm_Row : xd_Row.mro = [A_Row].map Value.ref ++ [Value.type "object"])
    (xpg_Row : PySem.W.plainGet K A_Row Str.empty = true)
    (xhd_Row : PySem.W.hasDictIn K A_Row = true)
    (xpo_Row : PySem.W.plainOver K A_Row = true)
    (xsa_Row : PySem.W.findIn K (.ref A_Row) "__setattr__" = some (some (.builtin "object.__setattr__")))
    (xty_Row : PySem.W.typeIn K (.ref A_Row) = some (.type "type"))
    (xkc_Row : PySem.W.findIn K (.ref A_Row) "__class__" = some (some (.builtin "object.__class__")))
    (xmk_Row : PySem.W.makesIn K A_Row = true)
    (xkp_Row : PySem.W.keepIn K (.ref A_Row) = true)
    {xd_HandRow : ClassData} (x_HandRow : PySem.W.nsIn K mainGlobals "HandRow" = some (some (.ref A_HandRow))) (xl_HandRow : PySem.W.clsIn K A_HandRow = some xd_HandRow) (xm_HandRow : xd_HandRow.mro = [A_HandRow, A_Row].map Value.ref ++ [Value.type "object"])
    (xpg_HandRow : PySem.W.plainGet K A_HandRow Str.empty = true)
    (xhd_HandRow : PySem.W.hasDictIn K A_HandRow = true)
    (xpo_HandRow : PySem.W.plainOver K A_HandRow = true)
    (xsa_HandRow : PySem.W.findIn K (.ref A_HandRow) "__setattr__" = some (some (.builtin "object.__setattr__")))
    (xty_HandRow : PySem.W.typeIn K (.ref A_HandRow) = some (.type "type"))
    (xkc_HandRow : PySem.W.findIn K (.ref A_HandRow) "__class__" = some (some (.builtin "object.__class__")))
    (xmk_HandRow : PySem.W.makesIn K A_HandRow = true)
    (xkp_HandRow : PySem.W.keepIn K (.ref A_HandRow) = true)
    {xd_GivenRow : ClassData} (x_GivenRow : PySem.W.nsIn K mainGlobals "GivenRow" = some (some (.ref A_GivenRow))) (xl_GivenRow : PySem.W.clsIn K A_GivenRow = some xd_GivenRow) (xm_GivenRow : xd_GivenRow.mro = [A_GivenRow, A_Row].map Value.ref ++ [Value.type "object"])
    (xpg_GivenRow : PySem.W.plainGet K A_GivenRow Str.empty = true)
    (xhd_GivenRow : PySem.W.hasDictIn K A_GivenRow = true)
    (xpo_GivenRow : PySem.W.plainOver K A_GivenRow = true)
    (xsa_GivenRow : PySem.W.findIn K (.ref A_GivenRow) "__setattr__" = some (some (.builtin "object.__setattr__")))
    (xty_GivenRow : PySem.W.typeIn K (.ref A_GivenRow) = some (.type "type"))
    (xkc_GivenRow : PySem.W.findIn K (.ref A_GivenRow) "__class__" = some (some (.builtin "object.__class__")))
    (xmk_GivenRow : PySem.W.makesIn K A_GivenRow = true)
    (xkp_GivenRow : PySem.W.keepIn K (.ref A_GivenRow) = true)
    {xd_OwnRow : ClassData} (x_OwnRow : PySem.W.nsIn K mainGlobals "OwnRow" = some (some (.ref A_OwnRow))) (xl_OwnRow : PySem.W.clsIn K A_OwnRow = some xd_OwnRow) (xm_OwnRow : xd_OwnRow.mro = [A_OwnRow, A_Row].map Value.ref ++ [Value.type "object"])
    (xpg_OwnRow : PySem.W.plainGet K A_OwnRow Str.empty = true)
    (xhd_OwnRow : PySem.W.hasDictIn K A_OwnRow = true)
    (xpo_OwnRow : PySem.W.plainOver K A_OwnRow = true)
    (xsa_OwnRow : PySem.W.findIn K (.ref A_OwnRow) "__setattr__" = some (some (.builtin "object.__setattr__")))
    (xty_OwnRow : PySem.W.typeIn K (.ref A_OwnRow) = some (.type "type"))
    (xkc_OwnRow : PySem.W.findIn K (.ref A_OwnRow) "__class__" = some (some (.builtin "object.__class__")))
    (xmk_OwnRow : PySem.W.makesIn K A_OwnRow = true)
    (xkp_OwnRow : PySem.W.keepIn K (.ref A_OwnRow) = true)
    {xd_LetRow : ClassData} (x_LetRow : PySem.W.nsIn K mainGlobals "LetRow" = some (some (.ref A_LetRow))) (xl_LetRow : PySem.W.clsIn K A_LetRow = some xd_LetRow) (xm_LetRow : xd_LetRow.mro = [A_LetRow, A_Row].map Value.ref ++ [Value.type "object"])
    (xpg_LetRow : PySem.W.plainGet K A_LetRow Str.empty = true)
    (xhd_LetRow : PySem.W.hasDictIn K A_LetRow = true)
    (xpo_LetRow : PySem.W.plainOver K A_LetRow = true)
    (xsa_LetRow : PySem.W.findIn K (.ref A_LetRow) "__setattr__" = some (some (.builtin "object.__setattr__")))
    (xty_LetRow : PySem.W.typeIn K (.ref A_LetRow) = some (.type "type"))
    (xkc_LetRow : PySem.W.findIn K (.ref A_LetRow) "__class__" = some (some (.builtin "object.__class__")))
    (xmk_LetRow : PySem.W.makesIn K A_LetRow = true)
    (xkp_LetRow : PySem.W.keepIn K (.ref A_LetRow) = true)
    {xd_Program : ClassData} (x_Program : PySem.W.nsIn K mainGlobals "Program" = some (some (.ref A_Program))) (xl_Program : PySem.W.clsIn K A_Program = some xd_Program) (xm_Program : xd_Program.mro = [A_Program].map Value.ref ++ [Value.type "object"])
    (xpg_Program : PySem.W.plainGet K A_Program Str.empty = true)
    (xhd_Program : PySem.W.hasDictIn K A_Program = true)
    (xpo_Program : PySem.W.plainOver K A_Program = true)
    (xsa_Program : PySem.W.findIn K (.ref A_Program) "__setattr__" = some (some (.builtin "object.__setattr__")))
    (xty_Program : PySem.W.typeIn K (.ref A_Program) = some (.type "type"))
    (xkc_Program : PySem.W.findIn K (.ref A_Program) "__class__" = some (some (.builtin "object.__class__")))
    (xmk_Program : PySem.W.makesIn K A_Program = true)
    (xkp_Program : PySem.W.keepIn K (.ref A_Program) = true)
    {fi_Row_init : Addr} {ioc_Row_init ikV_Row_init idc_Row_init ipm_Row_init icd_Row_init ict_Row_init : Value} {iod_Row_init ian_Row_init : Option Addr} {isl_Row_init : Array (Option Value)}
    (xi_Row_init : PySem.W.findIn K (.ref A_Row) "__init__" = some (some (.ref fi_Row_init)))
    (xf_Row_init : PySem.W.isFn K (.ref fi_Row_init) = true) (xo_Row_init : K.lookup fi_Row_init = some ⟨ioc_Row_init, iod_Row_init, .func (PySem.W.fnOf "__init__" "Row.__init__" (defArgs s_Row_init) (defBody s_Row_init) (defScope s_Row_init) .none ikV_Row_init idc_Row_init ipm_Row_init ian_Row_init icd_Row_init ict_Row_init), isl_Row_init⟩) (xc_Row_init : PySem.W.codeIn K icd_Row_init "Row.__init__" = true) (xq_Row_init : PySem.W.keepIn K (.ref fi_Row_init) = true)
    {fi_Row_reads : Addr} {ioc_Row_reads ikV_Row_reads idc_Row_reads ipm_Row_reads icd_Row_reads ict_Row_reads : Value} {iod_Row_reads ian_Row_reads : Option Addr} {isl_Row_reads : Array (Option Value)}
    (xi_Row_reads : PySem.W.findIn K (.ref A_Row) "reads" = some (some (.ref fi_Row_reads)))
    (xf_Row_reads : PySem.W.isFn K (.ref fi_Row_reads) = true) (xo_Row_reads : K.lookup fi_Row_reads = some ⟨ioc_Row_reads, iod_Row_reads, .func (PySem.W.fnOf "reads" "Row.reads" (defArgs s_Row_reads) (defBody s_Row_reads) (defScope s_Row_reads) .none ikV_Row_reads idc_Row_reads ipm_Row_reads ian_Row_reads icd_Row_reads ict_Row_reads), isl_Row_reads⟩) (xc_Row_reads : PySem.W.codeIn K icd_Row_reads "Row.reads" = true) (xq_Row_reads : PySem.W.keepIn K (.ref fi_Row_reads) = true)
    {fi_Row_target : Addr} {ioc_Row_target ikV_Row_target idc_Row_target ipm_Row_target icd_Row_target ict_Row_target : Value} {iod_Row_target ian_Row_target : Option Addr} {isl_Row_target : Array (Option Value)}
    (xi_Row_target : PySem.W.findIn K (.ref A_Row) "target" = some (some (.ref fi_Row_target)))
    (xf_Row_target : PySem.W.isFn K (.ref fi_Row_target) = true) (xo_Row_target : K.lookup fi_Row_target = some ⟨ioc_Row_target, iod_Row_target, .func (PySem.W.fnOf "target" "Row.target" (defArgs s_Row_target) (defBody s_Row_target) (defScope s_Row_target) .none ikV_Row_target idc_Row_target ipm_Row_target ian_Row_target icd_Row_target ict_Row_target), isl_Row_target⟩) (xc_Row_target : PySem.W.codeIn K icd_Row_target "Row.target" = true) (xq_Row_target : PySem.W.keepIn K (.ref fi_Row_target) = true)
    (xw_Row_number : PySem.W.findIn K (.ref A_Row) "number" = some none)
    {fi_HandRow_init : Addr} {ioc_HandRow_init ikV_HandRow_init idc_HandRow_init ipm_HandRow_init icd_HandRow_init ict_HandRow_init : Value} {iod_HandRow_init ian_HandRow_init : Option Addr} {isl_HandRow_init : Array (Option Value)}
    (xi_HandRow_init : PySem.W.findIn K (.ref A_HandRow) "__init__" = some (some (.ref fi_HandRow_init)))
    (xf_HandRow_init : PySem.W.isFn K (.ref fi_HandRow_init) = true) (xo_HandRow_init : K.lookup fi_HandRow_init = some ⟨ioc_HandRow_init, iod_HandRow_init, .func (PySem.W.fnOf "__init__" "HandRow.__init__" (defArgs s_HandRow_init) (defBody s_HandRow_init) (defScope s_HandRow_init) .none ikV_HandRow_init idc_HandRow_init ipm_HandRow_init ian_HandRow_init icd_HandRow_init ict_HandRow_init), isl_HandRow_init⟩) (xc_HandRow_init : PySem.W.codeIn K icd_HandRow_init "HandRow.__init__" = true) (xq_HandRow_init : PySem.W.keepIn K (.ref fi_HandRow_init) = true)
    {fi_HandRow_shown : Addr} {ioc_HandRow_shown ikV_HandRow_shown idc_HandRow_shown ipm_HandRow_shown icd_HandRow_shown ict_HandRow_shown : Value} {iod_HandRow_shown ian_HandRow_shown : Option Addr} {isl_HandRow_shown : Array (Option Value)}
    (xi_HandRow_shown : PySem.W.findIn K (.ref A_HandRow) "shown" = some (some (.ref fi_HandRow_shown)))
    (xf_HandRow_shown : PySem.W.isFn K (.ref fi_HandRow_shown) = true) (xo_HandRow_shown : K.lookup fi_HandRow_shown = some ⟨ioc_HandRow_shown, iod_HandRow_shown, .func (PySem.W.fnOf "shown" "HandRow.shown" (defArgs s_HandRow_shown) (defBody s_HandRow_shown) (defScope s_HandRow_shown) .none ikV_HandRow_shown idc_HandRow_shown ipm_HandRow_shown ian_HandRow_shown icd_HandRow_shown ict_HandRow_shown), isl_HandRow_shown⟩) (xc_HandRow_shown : PySem.W.codeIn K icd_HandRow_shown "HandRow.shown" = true) (xq_HandRow_shown : PySem.W.keepIn K (.ref fi_HandRow_shown) = true)
    (xi_HandRow_reads : PySem.W.findIn K (.ref A_HandRow) "reads" = some (some (.ref fi_Row_reads)))
    (xi_HandRow_target : PySem.W.findIn K (.ref A_HandRow) "target" = some (some (.ref fi_Row_target)))
    (xw_HandRow_name : PySem.W.findIn K (.ref A_HandRow) "name" = some none)
    (xw_HandRow_rank : PySem.W.findIn K (.ref A_HandRow) "rank" = some none)
    (xw_HandRow_number : PySem.W.findIn K (.ref A_HandRow) "number" = some none)
    {fi_GivenRow_init : Addr} {ioc_GivenRow_init ikV_GivenRow_init idc_GivenRow_init ipm_GivenRow_init icd_GivenRow_init ict_GivenRow_init : Value} {iod_GivenRow_init ian_GivenRow_init : Option Addr} {isl_GivenRow_init : Array (Option Value)}
    (xi_GivenRow_init : PySem.W.findIn K (.ref A_GivenRow) "__init__" = some (some (.ref fi_GivenRow_init)))
    (xf_GivenRow_init : PySem.W.isFn K (.ref fi_GivenRow_init) = true) (xo_GivenRow_init : K.lookup fi_GivenRow_init = some ⟨ioc_GivenRow_init, iod_GivenRow_init, .func (PySem.W.fnOf "__init__" "GivenRow.__init__" (defArgs s_GivenRow_init) (defBody s_GivenRow_init) (defScope s_GivenRow_init) .none ikV_GivenRow_init idc_GivenRow_init ipm_GivenRow_init ian_GivenRow_init icd_GivenRow_init ict_GivenRow_init), isl_GivenRow_init⟩) (xc_GivenRow_init : PySem.W.codeIn K icd_GivenRow_init "GivenRow.__init__" = true) (xq_GivenRow_init : PySem.W.keepIn K (.ref fi_GivenRow_init) = true)
    {fi_GivenRow_shown : Addr} {ioc_GivenRow_shown ikV_GivenRow_shown idc_GivenRow_shown ipm_GivenRow_shown icd_GivenRow_shown ict_GivenRow_shown : Value} {iod_GivenRow_shown ian_GivenRow_shown : Option Addr} {isl_GivenRow_shown : Array (Option Value)}
    (xi_GivenRow_shown : PySem.W.findIn K (.ref A_GivenRow) "shown" = some (some (.ref fi_GivenRow_shown)))
    (xf_GivenRow_shown : PySem.W.isFn K (.ref fi_GivenRow_shown) = true) (xo_GivenRow_shown : K.lookup fi_GivenRow_shown = some ⟨ioc_GivenRow_shown, iod_GivenRow_shown, .func (PySem.W.fnOf "shown" "GivenRow.shown" (defArgs s_GivenRow_shown) (defBody s_GivenRow_shown) (defScope s_GivenRow_shown) .none ikV_GivenRow_shown idc_GivenRow_shown ipm_GivenRow_shown ian_GivenRow_shown icd_GivenRow_shown ict_GivenRow_shown), isl_GivenRow_shown⟩) (xc_GivenRow_shown : PySem.W.codeIn K icd_GivenRow_shown "GivenRow.shown" = true) (xq_GivenRow_shown : PySem.W.keepIn K (.ref fi_GivenRow_shown) = true)
    (xi_GivenRow_reads : PySem.W.findIn K (.ref A_GivenRow) "reads" = some (some (.ref fi_Row_reads)))
    (xi_GivenRow_target : PySem.W.findIn K (.ref A_GivenRow) "target" = some (some (.ref fi_Row_target)))
    (xw_GivenRow_name : PySem.W.findIn K (.ref A_GivenRow) "name" = some none)
    (xw_GivenRow_rank : PySem.W.findIn K (.ref A_GivenRow) "rank" = some none)
    (xw_GivenRow_size : PySem.W.findIn K (.ref A_GivenRow) "size" = some none)
    (xw_GivenRow_number : PySem.W.findIn K (.ref A_GivenRow) "number" = some none)
    {fi_OwnRow_init : Addr} {ioc_OwnRow_init ikV_OwnRow_init idc_OwnRow_init ipm_OwnRow_init icd_OwnRow_init ict_OwnRow_init : Value} {iod_OwnRow_init ian_OwnRow_init : Option Addr} {isl_OwnRow_init : Array (Option Value)}
    (xi_OwnRow_init : PySem.W.findIn K (.ref A_OwnRow) "__init__" = some (some (.ref fi_OwnRow_init)))
    (xf_OwnRow_init : PySem.W.isFn K (.ref fi_OwnRow_init) = true) (xo_OwnRow_init : K.lookup fi_OwnRow_init = some ⟨ioc_OwnRow_init, iod_OwnRow_init, .func (PySem.W.fnOf "__init__" "OwnRow.__init__" (defArgs s_OwnRow_init) (defBody s_OwnRow_init) (defScope s_OwnRow_init) .none ikV_OwnRow_init idc_OwnRow_init ipm_OwnRow_init ian_OwnRow_init icd_OwnRow_init ict_OwnRow_init), isl_OwnRow_init⟩) (xc_OwnRow_init : PySem.W.codeIn K icd_OwnRow_init "OwnRow.__init__" = true) (xq_OwnRow_init : PySem.W.keepIn K (.ref fi_OwnRow_init) = true)
    {fi_OwnRow_shown : Addr} {ioc_OwnRow_shown ikV_OwnRow_shown idc_OwnRow_shown ipm_OwnRow_shown icd_OwnRow_shown ict_OwnRow_shown : Value} {iod_OwnRow_shown ian_OwnRow_shown : Option Addr} {isl_OwnRow_shown : Array (Option Value)}
    (xi_OwnRow_shown : PySem.W.findIn K (.ref A_OwnRow) "shown" = some (some (.ref fi_OwnRow_shown)))
    (xf_OwnRow_shown : PySem.W.isFn K (.ref fi_OwnRow_shown) = true) (xo_OwnRow_shown : K.lookup fi_OwnRow_shown = some ⟨ioc_OwnRow_shown, iod_OwnRow_shown, .func (PySem.W.fnOf "shown" "OwnRow.shown" (defArgs s_OwnRow_shown) (defBody s_OwnRow_shown) (defScope s_OwnRow_shown) .none ikV_OwnRow_shown idc_OwnRow_shown ipm_OwnRow_shown ian_OwnRow_shown icd_OwnRow_shown ict_OwnRow_shown), isl_OwnRow_shown⟩) (xc_OwnRow_shown : PySem.W.codeIn K icd_OwnRow_shown "OwnRow.shown" = true) (xq_OwnRow_shown : PySem.W.keepIn K (.ref fi_OwnRow_shown) = true)
    (xi_OwnRow_reads : PySem.W.findIn K (.ref A_OwnRow) "reads" = some (some (.ref fi_Row_reads)))
    (xi_OwnRow_target : PySem.W.findIn K (.ref A_OwnRow) "target" = some (some (.ref fi_Row_target)))
    (xw_OwnRow_name : PySem.W.findIn K (.ref A_OwnRow) "name" = some none)
    (xw_OwnRow_size : PySem.W.findIn K (.ref A_OwnRow) "size" = some none)
    (xw_OwnRow_number : PySem.W.findIn K (.ref A_OwnRow) "number" = some none)
    {fi_LetRow_init : Addr} {ioc_LetRow_init ikV_LetRow_init idc_LetRow_init ipm_LetRow_init icd_LetRow_init ict_LetRow_init : Value} {iod_LetRow_init ian_LetRow_init : Option Addr} {isl_LetRow_init : Array (Option Value)}
    (xi_LetRow_init : PySem.W.findIn K (.ref A_LetRow) "__init__" = some (some (.ref fi_LetRow_init)))
    (xf_LetRow_init : PySem.W.isFn K (.ref fi_LetRow_init) = true) (xo_LetRow_init : K.lookup fi_LetRow_init = some ⟨ioc_LetRow_init, iod_LetRow_init, .func (PySem.W.fnOf "__init__" "LetRow.__init__" (defArgs s_LetRow_init) (defBody s_LetRow_init) (defScope s_LetRow_init) .none ikV_LetRow_init idc_LetRow_init ipm_LetRow_init ian_LetRow_init icd_LetRow_init ict_LetRow_init), isl_LetRow_init⟩) (xc_LetRow_init : PySem.W.codeIn K icd_LetRow_init "LetRow.__init__" = true) (xq_LetRow_init : PySem.W.keepIn K (.ref fi_LetRow_init) = true)
    {fi_LetRow_shown : Addr} {ioc_LetRow_shown ikV_LetRow_shown idc_LetRow_shown ipm_LetRow_shown icd_LetRow_shown ict_LetRow_shown : Value} {iod_LetRow_shown ian_LetRow_shown : Option Addr} {isl_LetRow_shown : Array (Option Value)}
    (xi_LetRow_shown : PySem.W.findIn K (.ref A_LetRow) "shown" = some (some (.ref fi_LetRow_shown)))
    (xf_LetRow_shown : PySem.W.isFn K (.ref fi_LetRow_shown) = true) (xo_LetRow_shown : K.lookup fi_LetRow_shown = some ⟨ioc_LetRow_shown, iod_LetRow_shown, .func (PySem.W.fnOf "shown" "LetRow.shown" (defArgs s_LetRow_shown) (defBody s_LetRow_shown) (defScope s_LetRow_shown) .none ikV_LetRow_shown idc_LetRow_shown ipm_LetRow_shown ian_LetRow_shown icd_LetRow_shown ict_LetRow_shown), isl_LetRow_shown⟩) (xc_LetRow_shown : PySem.W.codeIn K icd_LetRow_shown "LetRow.shown" = true) (xq_LetRow_shown : PySem.W.keepIn K (.ref fi_LetRow_shown) = true)
    (xi_LetRow_reads : PySem.W.findIn K (.ref A_LetRow) "reads" = some (some (.ref fi_Row_reads)))
    (xi_LetRow_target : PySem.W.findIn K (.ref A_LetRow) "target" = some (some (.ref fi_Row_target)))
    (xw_LetRow_name : PySem.W.findIn K (.ref A_LetRow) "name" = some none)
    (xw_LetRow_rank : PySem.W.findIn K (.ref A_LetRow) "rank" = some none)
    (xw_LetRow_number : PySem.W.findIn K (.ref A_LetRow) "number" = some none)
    {fi_Program_init : Addr} {ioc_Program_init ikV_Program_init idc_Program_init ipm_Program_init icd_Program_init ict_Program_init : Value} {iod_Program_init ian_Program_init : Option Addr} {isl_Program_init : Array (Option Value)}
    (xi_Program_init : PySem.W.findIn K (.ref A_Program) "__init__" = some (some (.ref fi_Program_init)))
    (xf_Program_init : PySem.W.isFn K (.ref fi_Program_init) = true) (xo_Program_init : K.lookup fi_Program_init = some ⟨ioc_Program_init, iod_Program_init, .func (PySem.W.fnOf "__init__" "Program.__init__" (defArgs s_Program_init) (defBody s_Program_init) (defScope s_Program_init) .none ikV_Program_init idc_Program_init ipm_Program_init ian_Program_init icd_Program_init ict_Program_init), isl_Program_init⟩) (xc_Program_init : PySem.W.codeIn K icd_Program_init "Program.__init__" = true) (xq_Program_init : PySem.W.keepIn K (.ref fi_Program_init) = true)
    (xw_Program_heads : PySem.W.findIn K (.ref A_Program) "heads" = some none)
    (xw_Program_deeds : PySem.W.findIn K (.ref A_Program) "deeds" = some none)
    (xw_Program_main : PySem.W.findIn K (.ref A_Program) "main" = some none)
    (yg_Row_init : PySem.W.specialIn K (.ref A_Row) "__getattribute__" = some (some (.builtin "type.__getattribute__"))) (yr_Row_init : PySem.W.readsIn K A_Row (.type "type") = true) (yf_Row_init : PySem.W.findCls K (.ref A_Row) (.type "type") "__init__" = some (.val (.ref fi_Row_init)))
    (nod : [A_Row, A_HandRow, A_GivenRow, A_OwnRow, A_LetRow, A_Program].Nodup)
    : ∃ fd : FuncData, (∀ (s : Shared) (v : Value), BindsTo s fd ⟨[v], []⟩ [("_law_script", v)]) ∧ ∀ base : Heap, K.In base → base.Ns mainGlobals mg → FnOk l.prog w K mg base CX0 12 fa fd ["_law_script"] (sp_law K) := by
  have t0 : TopFn K mg "_wall" s_wall ["k"] := topFn_mk X G a0 l0 c0 k0 fun _ _ _ _ _ _ us hl => match us, hl with | [_], _ => rfl
  have t1 : TopFn K mg "gift_made" s_gift_made ["size", "start"] := topFn_mk X G a1 l1 c1 k1 fun _ _ _ _ _ _ us hl => match us, hl with | [_, _], _ => rfl
  have t2 : TopFn K mg "gifts_made" s_gifts_made ["program", "begin", "name", "more"] := topFn_mk X G a2 l2 c2 k2 fun _ _ _ _ _ _ us hl => match us, hl with | [_, _, _, _], _ => rfl
  have t3 : TopFn K mg "tried" s_tried ["program", "name"] := topFn_mk X G a3 l3 c3 k3 fun _ _ _ _ _ _ us hl => match us, hl with | [_, _], _ => rfl
  have t4 : TopFn K mg "_law_cell_at" s_law_cell_at ["_law_script", "_law_k"] := topFn_mk X G a4 l4 c4 k4 fun _ _ _ _ _ _ us hl => match us, hl with | [_, _], _ => rfl
  have t5 : TopFn K mg "_law_name" s_law_name ["_law_cell", "_law_k"] := topFn_mk X G a5 l5 c5 k5 fun _ _ _ _ _ _ us hl => match us, hl with | [_, _], _ => rfl
  have t6 : TopFn K mg "_law_head" s_law_head ["_law_cell", "_law_k", "_law_name_here"] := topFn_mk X G a6 l6 c6 k6 fun _ _ _ _ _ _ us hl => match us, hl with | [_, _, _], _ => rfl
  have t7 : TopFn K mg "_law_due" s_law_due ["_law_givens", "_law_turn", "_law_name_here", "_law_more"] := topFn_mk X G a7 l7 c7 k7 fun _ _ _ _ _ _ us hl => match us, hl with | [_, _, _, _], _ => rfl
  have t8 : TopFn K mg "_law_same" s_law_same ["_law_found", "_law_due_here"] := topFn_mk X G a8 l8 c8 k8 fun _ _ _ _ _ _ us hl => match us, hl with | [_, _], _ => rfl
  have t9 : TopFn K mg "_law_right" s_law_right ["_law_found", "_law_givens", "_law_name_here"] := topFn_mk X G a9 l9 c9 k9 fun _ _ _ _ _ _ us hl => match us, hl with | [_, _, _], _ => rfl
  have t10 : TopFn K mg "law" s_law ["_law_script"] := topFn_mk X G a10 l10 c10 k10 fun _ _ _ _ _ _ us hl => match us, hl with | [_], _ => rfl
  have T : Txt K mg ⟨A_Row, A_HandRow, A_GivenRow, A_OwnRow, A_LetRow, A_Program⟩ := { wall := t0, gift_made := t1, gifts_made := t2, tried := t3, law_cell_at := t4, law_name := t5, law_head := t6, law_due := t7, law_same := t8, law_right := t9, z_all := PySem.W.mg_none_of X G z_all, z_bool := PySem.W.mg_none_of X G z_bool, z_dict := PySem.W.mg_none_of X G z_dict, z_enumerate := PySem.W.mg_none_of X G z_enumerate, z_int := PySem.W.mg_none_of X G z_int, z_isinstance := PySem.W.mg_none_of X G z_isinstance, z_len := PySem.W.mg_none_of X G z_len, z_list := PySem.W.mg_none_of X G z_list, z_range := PySem.W.mg_none_of X G z_range, z_tuple := PySem.W.mg_none_of X G z_tuple, c_BEGINS := ⟨_, PySem.W.mg_of X G g_BEGINS, fun H => tab_tup tl_BEGINS rfl rfl tz_BEGINS tv_BEGINS H, _, tl_BEGINS, rfl, rfl⟩, c_MORES := ⟨_, PySem.W.mg_of X G g_MORES, fun H => tab_tup tl_MORES rfl rfl tz_MORES tv_MORES H, _, tl_MORES, rfl, rfl⟩, o_Row := ⟨PySem.W.mg_of X G x_Row, ⟨xpg_Row, xhd_Row, xpo_Row, xsa_Row⟩, ⟨_, xl_Row, xm_Row⟩, xty_Row, xkc_Row, cg, ct, xmk_Row, xkp_Row⟩, m_Row_init := mFn_mk xi_Row_init xf_Row_init xo_Row_init xc_Row_init xq_Row_init fun _ _ _ _ _ _ us hl => match us, hl with | [_, _], _ => rfl, m_Row_reads := mFn_mk xi_Row_reads xf_Row_reads xo_Row_reads xc_Row_reads xq_Row_reads fun _ _ _ _ _ _ us hl => match us, hl with | [_], _ => rfl, m_Row_target := mFn_mk xi_Row_target xf_Row_target xo_Row_target xc_Row_target xq_Row_target fun _ _ _ _ _ _ us hl => match us, hl with | [_], _ => rfl, n_Row_number := xw_Row_number, o_HandRow := ⟨PySem.W.mg_of X G x_HandRow, ⟨xpg_HandRow, xhd_HandRow, xpo_HandRow, xsa_HandRow⟩, ⟨_, xl_HandRow, xm_HandRow⟩, xty_HandRow, xkc_HandRow, cg, ct, xmk_HandRow, xkp_HandRow⟩, m_HandRow_init := mFn_mk xi_HandRow_init xf_HandRow_init xo_HandRow_init xc_HandRow_init xq_HandRow_init fun _ _ _ _ _ _ us hl => match us, hl with | [_, _, _, _], _ => rfl, m_HandRow_shown := mFn_mk xi_HandRow_shown xf_HandRow_shown xo_HandRow_shown xc_HandRow_shown xq_HandRow_shown fun _ _ _ _ _ _ us hl => match us, hl with | [_], _ => rfl, m_HandRow_reads := mFn_mk xi_HandRow_reads xf_Row_reads xo_Row_reads xc_Row_reads xq_Row_reads fun _ _ _ _ _ _ us hl => match us, hl with | [_], _ => rfl, m_HandRow_target := mFn_mk xi_HandRow_target xf_Row_target xo_Row_target xc_Row_target xq_Row_target fun _ _ _ _ _ _ us hl => match us, hl with | [_], _ => rfl, n_HandRow_name := xw_HandRow_name, n_HandRow_rank := xw_HandRow_rank, n_HandRow_number := xw_HandRow_number, o_GivenRow := ⟨PySem.W.mg_of X G x_GivenRow, ⟨xpg_GivenRow, xhd_GivenRow, xpo_GivenRow, xsa_GivenRow⟩, ⟨_, xl_GivenRow, xm_GivenRow⟩, xty_GivenRow, xkc_GivenRow, cg, ct, xmk_GivenRow, xkp_GivenRow⟩, m_GivenRow_init := mFn_mk xi_GivenRow_init xf_GivenRow_init xo_GivenRow_init xc_GivenRow_init xq_GivenRow_init fun _ _ _ _ _ _ us hl => match us, hl with | [_, _, _, _, _], _ => rfl, m_GivenRow_shown := mFn_mk xi_GivenRow_shown xf_GivenRow_shown xo_GivenRow_shown xc_GivenRow_shown xq_GivenRow_shown fun _ _ _ _ _ _ us hl => match us, hl with | [_], _ => rfl, m_GivenRow_reads := mFn_mk xi_GivenRow_reads xf_Row_reads xo_Row_reads xc_Row_reads xq_Row_reads fun _ _ _ _ _ _ us hl => match us, hl with | [_], _ => rfl, m_GivenRow_target := mFn_mk xi_GivenRow_target xf_Row_target xo_Row_target xc_Row_target xq_Row_target fun _ _ _ _ _ _ us hl => match us, hl with | [_], _ => rfl, n_GivenRow_name := xw_GivenRow_name, n_GivenRow_rank := xw_GivenRow_rank, n_GivenRow_size := xw_GivenRow_size, n_GivenRow_number := xw_GivenRow_number, o_OwnRow := ⟨PySem.W.mg_of X G x_OwnRow, ⟨xpg_OwnRow, xhd_OwnRow, xpo_OwnRow, xsa_OwnRow⟩, ⟨_, xl_OwnRow, xm_OwnRow⟩, xty_OwnRow, xkc_OwnRow, cg, ct, xmk_OwnRow, xkp_OwnRow⟩, m_OwnRow_init := mFn_mk xi_OwnRow_init xf_OwnRow_init xo_OwnRow_init xc_OwnRow_init xq_OwnRow_init fun _ _ _ _ _ _ us hl => match us, hl with | [_, _, _, _], _ => rfl, m_OwnRow_shown := mFn_mk xi_OwnRow_shown xf_OwnRow_shown xo_OwnRow_shown xc_OwnRow_shown xq_OwnRow_shown fun _ _ _ _ _ _ us hl => match us, hl with | [_], _ => rfl, m_OwnRow_reads := mFn_mk xi_OwnRow_reads xf_Row_reads xo_Row_reads xc_Row_reads xq_Row_reads fun _ _ _ _ _ _ us hl => match us, hl with | [_], _ => rfl, m_OwnRow_target := mFn_mk xi_OwnRow_target xf_Row_target xo_Row_target xc_Row_target xq_Row_target fun _ _ _ _ _ _ us hl => match us, hl with | [_], _ => rfl, n_OwnRow_name := xw_OwnRow_name, n_OwnRow_size := xw_OwnRow_size, n_OwnRow_number := xw_OwnRow_number, o_LetRow := ⟨PySem.W.mg_of X G x_LetRow, ⟨xpg_LetRow, xhd_LetRow, xpo_LetRow, xsa_LetRow⟩, ⟨_, xl_LetRow, xm_LetRow⟩, xty_LetRow, xkc_LetRow, cg, ct, xmk_LetRow, xkp_LetRow⟩, m_LetRow_init := mFn_mk xi_LetRow_init xf_LetRow_init xo_LetRow_init xc_LetRow_init xq_LetRow_init fun _ _ _ _ _ _ us hl => match us, hl with | [_, _, _, _], _ => rfl, m_LetRow_shown := mFn_mk xi_LetRow_shown xf_LetRow_shown xo_LetRow_shown xc_LetRow_shown xq_LetRow_shown fun _ _ _ _ _ _ us hl => match us, hl with | [_], _ => rfl, m_LetRow_reads := mFn_mk xi_LetRow_reads xf_Row_reads xo_Row_reads xc_Row_reads xq_Row_reads fun _ _ _ _ _ _ us hl => match us, hl with | [_], _ => rfl, m_LetRow_target := mFn_mk xi_LetRow_target xf_Row_target xo_Row_target xc_Row_target xq_Row_target fun _ _ _ _ _ _ us hl => match us, hl with | [_], _ => rfl, n_LetRow_name := xw_LetRow_name, n_LetRow_rank := xw_LetRow_rank, n_LetRow_number := xw_LetRow_number, o_Program := ⟨PySem.W.mg_of X G x_Program, ⟨xpg_Program, xhd_Program, xpo_Program, xsa_Program⟩, ⟨_, xl_Program, xm_Program⟩, xty_Program, xkc_Program, cg, ct, xmk_Program, xkp_Program⟩, m_Program_init := mFn_mk xi_Program_init xf_Program_init xo_Program_init xc_Program_init xq_Program_init fun _ _ _ _ _ _ us hl => match us, hl with | [_, _, _, _], _ => rfl, n_Program_heads := xw_Program_heads, n_Program_deeds := xw_Program_deeds, n_Program_main := xw_Program_main, of_Row_init := ⟨yg_Row_init, yr_Row_init, _, xi_Row_init, yf_Row_init⟩, nd := nod }
  refine ⟨PySem.W.fnOf "law" "law" (defArgs s_law) (defBody s_law) (defScope s_law) .none kV10 dc10 pm10 an10 cd10 ct10, fun s v => .of_eq rfl, fun base _ _ => ?_⟩
  have e := hfa.symm.trans (PySem.W.mg_of X G a10)
  cases e
  exact has_at (h_law (P := l.prog) (w := w) (base := base) T t10) (PySem.W.mg_of X G a10) l10
theorem walk {l : PySem.W.OpenLaw} {q : Program} {loose : List Str} {XP : (Str → Option Value) → Heap → Prop} {YP : World → Heap → Prop} {d : DefRec} {K : Params → PySem.W.Frag} (hn : l.most = some 63) (hdf : d.params.defaults = []) (hY : ∀ (w : World) (h : Heap), YP w h → (K w.params).In h)
    (F : ∀ (w : World) (mg : Str → Option Value) (fa : Addr) (h : Heap), (K w.params).In h → h.Ns mainGlobals mg → mg d.name = some (.ref fa) → ∃ fd : FuncData, (∀ (s : Shared) (u : Value), BindsTo s fd ⟨[u], []⟩ [("_law_script", u)]) ∧ ∀ base : Heap, (K w.params).In base → base.Ns mainGlobals mg → FnOk l.prog w (K w.params) mg base CX0 12 fa fd ["_law_script"] (sp_law (K w.params))) :
    PySem.W.WalkO q loose XP YP l.row.toRowW d [] (fun f vs => PySem.call f vs) :=
  L2.walk_of (n := 63) (k := 12) (x := "_law_script") (CX := fun _ => CX0) (sp := fun w => sp_law (K w.params)) hn (by decide) hdf ⟨rfl, by decide, by decide⟩ hY F (fun _ _ a ns hl _ hS => ⟨a, ns, rfl, hS, hl, fun _ => rfl⟩) fun _ _ _ _ _ z => z
end K62
open PySem PySem.W PyProof.Rows
set_option maxRecDepth 100000 in
set_option maxHeartbeats 0 in
theorem PySem.Challenge.cw_hushrow_k62_twelve_tries_holds : PySem.Challenge.rw_hushrow_k62_twelve_tries.Holds := by
  w_on; o_law
  refine PySem.W.holds_open (q := K62.seenAt) (loose := []) (Xt := K62.test) (XP := PySem.W.XL K62.seenAt []) (Yf := (PySem.W.kHook K62.heapK K62.keysK K62.keysK_eq).obs) (Ya := (PySem.W.kHook K62.heapK K62.keysK K62.keysK_eq).val) (YP := (PySem.W.kHook K62.heapK K62.keysK K62.keysK_eq).says) (N := 4140) K62.left (PySem.W.kHook K62.heapK K62.keysK K62.keysK_eq).of (PySem.W.kHook K62.heapK K62.keysK K62.keysK_eq).keeps
    (fun s e => PySem.W.xl_of s (Bool.and_eq_true_iff.mp e).1) PySem.W.XL.keeps (by rfl) (by rfl) (by rfl) (fun s e => PySem.W.recFacts_of (Bool.and_eq_true_iff.mp e).2) ?h4 ?h5 ?h6 ⟨rfl, rfl, rfl, rfl, rfl, by decide +kernel⟩ ?hw ?hc
  (case h4 => rfl); (case h5 => first | assumption | decide +kernel); (case h6 => decide +kernel); (case hw => w_witness2)
  k_fill
  refine K62.walk (l := PySem.Challenge.rw_hushrow_k62_twelve_tries) rfl rfl (fun w h Y => PySem.W.kIn_of Y) ?F
  case F =>
    intro w mg fa h KX G hmg
    refine' K62.all_mk KX G hmg ?a0 ?l0 ?c0 ?k0 ?a1 ?l1 ?c1 ?k1 ?a2 ?l2 ?c2 ?k2 ?a3 ?l3 ?c3 ?k3 ?a4 ?l4 ?c4 ?k4 ?a5 ?l5 ?c5 ?k5 ?a6 ?l6 ?c6 ?k6 ?a7 ?l7 ?c7 ?k7 ?a8 ?l8 ?c8 ?k8 ?a9 ?l9 ?c9 ?k9 ?a10 ?l10 ?c10 ?k10 ?z_all ?z_bool ?z_dict ?z_enumerate ?z_int ?z_isinstance ?z_len ?z_list ?z_range ?z_tuple ?g_BEGINS ?tl_BEGINS ?tz_BEGINS ?tv_BEGINS ?g_MORES ?tl_MORES ?tz_MORES ?tv_MORES ?cg ?ct ?x_Row ?xl_Row ?xm_Row ?xpg_Row ?xhd_Row ?xpo_Row ?xsa_Row ?xty_Row ?xkc_Row ?xmk_Row ?xkp_Row ?x_HandRow ?xl_HandRow ?xm_HandRow ?xpg_HandRow ?xhd_HandRow ?xpo_HandRow ?xsa_HandRow ?xty_HandRow ?xkc_HandRow ?xmk_HandRow ?xkp_HandRow ?x_GivenRow ?xl_GivenRow ?xm_GivenRow ?xpg_GivenRow ?xhd_GivenRow ?xpo_GivenRow ?xsa_GivenRow ?xty_GivenRow ?xkc_GivenRow ?xmk_GivenRow ?xkp_GivenRow ?x_OwnRow ?xl_OwnRow ?xm_OwnRow ?xpg_OwnRow ?xhd_OwnRow ?xpo_OwnRow ?xsa_OwnRow ?xty_OwnRow ?xkc_OwnRow ?xmk_OwnRow ?xkp_OwnRow ?x_LetRow ?xl_LetRow ?xm_LetRow ?xpg_LetRow ?xhd_LetRow ?xpo_LetRow ?xsa_LetRow ?xty_LetRow ?xkc_LetRow ?xmk_LetRow ?xkp_LetRow ?x_Program ?xl_Program ?xm_Program ?xpg_Program ?xhd_Program ?xpo_Program ?xsa_Program ?xty_Program ?xkc_Program ?xmk_Program ?xkp_Program ?xi_Row_init ?xf_Row_init ?xo_Row_init ?xc_Row_init ?xq_Row_init ?xi_Row_reads ?xf_Row_reads ?xo_Row_reads ?xc_Row_reads ?xq_Row_reads ?xi_Row_target ?xf_Row_target ?xo_Row_target ?xc_Row_target ?xq_Row_target ?xw_Row_number ?xi_HandRow_init ?xf_HandRow_init ?xo_HandRow_init ?xc_HandRow_init ?xq_HandRow_init ?xi_HandRow_shown ?xf_HandRow_shown ?xo_HandRow_shown ?xc_HandRow_shown ?xq_HandRow_shown ?xi_HandRow_reads ?xi_HandRow_target ?xw_HandRow_name ?xw_HandRow_rank ?xw_HandRow_number ?xi_GivenRow_init ?xf_GivenRow_init ?xo_GivenRow_init ?xc_GivenRow_init ?xq_GivenRow_init ?xi_GivenRow_shown ?xf_GivenRow_shown ?xo_GivenRow_shown ?xc_GivenRow_shown ?xq_GivenRow_shown ?xi_GivenRow_reads ?xi_GivenRow_target ?xw_GivenRow_name ?xw_GivenRow_rank ?xw_GivenRow_size ?xw_GivenRow_number ?xi_OwnRow_init ?xf_OwnRow_init ?xo_OwnRow_init ?xc_OwnRow_init ?xq_OwnRow_init ?xi_OwnRow_shown ?xf_OwnRow_shown ?xo_OwnRow_shown ?xc_OwnRow_shown ?xq_OwnRow_shown ?xi_OwnRow_reads ?xi_OwnRow_target ?xw_OwnRow_name ?xw_OwnRow_size ?xw_OwnRow_number ?xi_LetRow_init ?xf_LetRow_init ?xo_LetRow_init ?xc_LetRow_init ?xq_LetRow_init ?xi_LetRow_shown ?xf_LetRow_shown ?xo_LetRow_shown ?xc_LetRow_shown ?xq_LetRow_shown ?xi_LetRow_reads ?xi_LetRow_target ?xw_LetRow_name ?xw_LetRow_rank ?xw_LetRow_number ?xi_Program_init ?xf_Program_init ?xo_Program_init ?xc_Program_init ?xq_Program_init ?xw_Program_heads ?xw_Program_deeds ?xw_Program_main ?yg_Row_init ?yr_Row_init ?yf_Row_init ?nod
    (case a0 => k_is); (case l0 => k_is); (case c0 => k_is); (case k0 => k_is); (case a1 => k_is); (case l1 => k_is)
    (case c1 => k_is); (case k1 => k_is); (case a2 => k_is); (case l2 => k_is); (case c2 => k_is); (case k2 => k_is)
    (case a3 => k_is); (case l3 => k_is); (case c3 => k_is); (case k3 => k_is); (case a4 => k_is); (case l4 => k_is)
    (case c4 => k_is); (case k4 => k_is); (case a5 => k_is); (case l5 => k_is); (case c5 => k_is); (case k5 => k_is)
    (case a6 => k_is); (case l6 => k_is); (case c6 => k_is); (case k6 => k_is); (case a7 => k_is); (case l7 => k_is)
    (case c7 => k_is); (case k7 => k_is); (case a8 => k_is); (case l8 => k_is); (case c8 => k_is); (case k8 => k_is)
    (case a9 => k_is); (case l9 => k_is); (case c9 => k_is); (case k9 => k_is); (case a10 => k_is); (case l10 => k_is)
    (case c10 => k_is); (case k10 => k_is); (case z_all => k_is); (case z_bool => k_is); (case z_dict => k_is); (case z_enumerate => k_is)
    (case z_int => k_is); (case z_isinstance => k_is); (case z_len => k_is); (case z_list => k_is); (case z_range => k_is); (case z_tuple => k_is)
    (case g_BEGINS => k_is); (case tl_BEGINS => k_is); (case tz_BEGINS => decide); (case tv_BEGINS => rfl); (case g_MORES => k_is); (case tl_MORES => k_is)
    (case tz_MORES => decide); (case tv_MORES => rfl); (case cg => k_is); (case ct => k_is); (case x_Row => k_is); (case xl_Row => k_is)
    (case xm_Row => rfl); (case xpg_Row => k_is); (case xhd_Row => k_is); (case xpo_Row => k_is); (case xsa_Row => k_is); (case xty_Row => k_is)
    (case xkc_Row => k_is); (case xmk_Row => k_is); (case xkp_Row => k_is); (case x_HandRow => k_is); (case xl_HandRow => k_is); (case xm_HandRow => rfl)
    (case xpg_HandRow => k_is); (case xhd_HandRow => k_is); (case xpo_HandRow => k_is); (case xsa_HandRow => k_is); (case xty_HandRow => k_is); (case xkc_HandRow => k_is)
    (case xmk_HandRow => k_is); (case xkp_HandRow => k_is); (case x_GivenRow => k_is); (case xl_GivenRow => k_is); (case xm_GivenRow => rfl); (case xpg_GivenRow => k_is)
    (case xhd_GivenRow => k_is); (case xpo_GivenRow => k_is); (case xsa_GivenRow => k_is); (case xty_GivenRow => k_is); (case xkc_GivenRow => k_is); (case xmk_GivenRow => k_is)
    (case xkp_GivenRow => k_is); (case x_OwnRow => k_is); (case xl_OwnRow => k_is); (case xm_OwnRow => rfl); (case xpg_OwnRow => k_is); (case xhd_OwnRow => k_is)
    (case xpo_OwnRow => k_is); (case xsa_OwnRow => k_is); (case xty_OwnRow => k_is); (case xkc_OwnRow => k_is); (case xmk_OwnRow => k_is); (case xkp_OwnRow => k_is)
    (case x_LetRow => k_is); (case xl_LetRow => k_is); (case xm_LetRow => rfl); (case xpg_LetRow => k_is); (case xhd_LetRow => k_is); (case xpo_LetRow => k_is)
    (case xsa_LetRow => k_is); (case xty_LetRow => k_is); (case xkc_LetRow => k_is); (case xmk_LetRow => k_is); (case xkp_LetRow => k_is); (case x_Program => k_is)
    (case xl_Program => k_is); (case xm_Program => rfl); (case xpg_Program => k_is); (case xhd_Program => k_is); (case xpo_Program => k_is); (case xsa_Program => k_is)
    (case xty_Program => k_is); (case xkc_Program => k_is); (case xmk_Program => k_is); (case xkp_Program => k_is); (case xi_Row_init => k_is); (case xf_Row_init => k_is)
    (case xo_Row_init => k_is); (case xc_Row_init => k_is); (case xq_Row_init => k_is); (case xi_Row_reads => k_is); (case xf_Row_reads => k_is); (case xo_Row_reads => k_is)
    (case xc_Row_reads => k_is); (case xq_Row_reads => k_is); (case xi_Row_target => k_is); (case xf_Row_target => k_is); (case xo_Row_target => k_is); (case xc_Row_target => k_is)
    (case xq_Row_target => k_is); (case xw_Row_number => k_is); (case xi_HandRow_init => k_is); (case xf_HandRow_init => k_is); (case xo_HandRow_init => k_is); (case xc_HandRow_init => k_is)
    (case xq_HandRow_init => k_is); (case xi_HandRow_shown => k_is); (case xf_HandRow_shown => k_is); (case xo_HandRow_shown => k_is); (case xc_HandRow_shown => k_is); (case xq_HandRow_shown => k_is)
    (case xi_HandRow_reads => k_is); (case xi_HandRow_target => k_is); (case xw_HandRow_name => k_is); (case xw_HandRow_rank => k_is); (case xw_HandRow_number => k_is); (case xi_GivenRow_init => k_is)
    (case xf_GivenRow_init => k_is); (case xo_GivenRow_init => k_is); (case xc_GivenRow_init => k_is); (case xq_GivenRow_init => k_is); (case xi_GivenRow_shown => k_is); (case xf_GivenRow_shown => k_is)
    (case xo_GivenRow_shown => k_is); (case xc_GivenRow_shown => k_is); (case xq_GivenRow_shown => k_is); (case xi_GivenRow_reads => k_is); (case xi_GivenRow_target => k_is); (case xw_GivenRow_name => k_is)
    (case xw_GivenRow_rank => k_is); (case xw_GivenRow_size => k_is); (case xw_GivenRow_number => k_is); (case xi_OwnRow_init => k_is); (case xf_OwnRow_init => k_is); (case xo_OwnRow_init => k_is)
    (case xc_OwnRow_init => k_is); (case xq_OwnRow_init => k_is); (case xi_OwnRow_shown => k_is); (case xf_OwnRow_shown => k_is); (case xo_OwnRow_shown => k_is); (case xc_OwnRow_shown => k_is)
    (case xq_OwnRow_shown => k_is); (case xi_OwnRow_reads => k_is); (case xi_OwnRow_target => k_is); (case xw_OwnRow_name => k_is); (case xw_OwnRow_size => k_is); (case xw_OwnRow_number => k_is)
    (case xi_LetRow_init => k_is); (case xf_LetRow_init => k_is); (case xo_LetRow_init => k_is); (case xc_LetRow_init => k_is); (case xq_LetRow_init => k_is); (case xi_LetRow_shown => k_is)
    (case xf_LetRow_shown => k_is); (case xo_LetRow_shown => k_is); (case xc_LetRow_shown => k_is); (case xq_LetRow_shown => k_is); (case xi_LetRow_reads => k_is); (case xi_LetRow_target => k_is)
    (case xw_LetRow_name => k_is); (case xw_LetRow_rank => k_is); (case xw_LetRow_number => k_is); (case xi_Program_init => k_is); (case xf_Program_init => k_is); (case xo_Program_init => k_is)
    (case xc_Program_init => k_is); (case xq_Program_init => k_is); (case xw_Program_heads => k_is); (case xw_Program_deeds => k_is); (case xw_Program_main => k_is); (case yg_Row_init => k_is)
    (case yr_Row_init => k_is); (case yf_Row_init => k_is); (case nod => decide)

