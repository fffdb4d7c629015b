import PyProof.Rows.All
import Wide.All
import OpenK.AllK
import Wide.FinOn
import Lean
import PyProof.EqAt
import PyProof.EqKinds
import PyProof.TupleCall
import PyProof.NeData
import PyProof.EqLayable
import PyProof.ListStr
import PyProof.StrWalks
import PyProof.CompFree
import PySem.SetOps
import KE.KSortAsk
import PyProof.SetKind
import PyProof.TupleKey
import PyProof.IsRules
import PyProof.DictKinds
import PyProof.Rows.SetFrom
import PyProof.WalksMore
import PyProof.CollectWalk
import PyProof.ForAny
import KE.KSortTup
import PyProof.EnumFor
import PyProof.EnumStmt
import PyProof.EnumMake
import KE.KRevSl
import PyProof.MeetsStr
import PyProof.StrLawsJoin
import PySem.Challenge.RW_beatruns_k23_whole_own_places
set_option Elab.async false
set_option linter.all false
set_option maxRecDepth 100000
set_option maxHeartbeats 4000000
/-! THE HAND LAYER, for ints, bools, texts, own classes, LISTS and tuples (index, slices, in, append, pop ..), calls, loops. Paste it whole ahead of your own text; what your proof does not reach may be deleted. -/
namespace L2
open PySem PySem.Spec PyProof.Rows

/-- a key: an int or a str -/
abbrev Key := Sum Int Str
def keyIs : Key → Value → Bool
  | .inl k, v => Value.isInt k v
  | .inr x, v => Value.isStrOf x v
def keyH (w : World) : Key → Int
  | .inl k => hashInt k
  | .inr x => hashStr w x
theorem keyIs_shape : ∀ {k : Key} {v : Value}, keyIs k v = true → (∃ i t, k = Sum.inl i ∧ v = Value.int i t) ∨ (∃ x t, k = Sum.inr x ∧ v = Value.str x t)
  | .inl i, v, h => by
    obtain ⟨t, e⟩ := Value.isInt_shape (k := i) (v := v) h
    exact .inl ⟨i, t, rfl, e⟩
  | .inr x, v, h => by
    obtain ⟨t, e⟩ := Value.isStrOf_shape (x := x) (v := v) h
    exact .inr ⟨x, t, rfl, e⟩
theorem keyIs_int (i : Int) (t : Tok) : keyIs (.inl i) (.int i t) = true := by simp [keyIs, Value.isInt]
theorem keyIs_str (x : Str) (t : Tok) : keyIs (.inr x) (.str x t) = true := by simp [keyIs, Value.isStrOf]
theorem key_ll (a b : Int) : decide ((Sum.inl a : Key) = Sum.inl b) = (a == b) := by
  by_cases e : a = b
  · subst e; simp
  · have h : ¬ (Sum.inl a : Key) = Sum.inl b := fun q => e (Sum.inl.inj q)
    rw [decide_eq_false h]
    exact (beq_eq_false_iff_ne.mpr e).symm
theorem key_rr (a b : Str) : decide ((Sum.inr a : Key) = Sum.inr b) = decide (a = b) := by
  by_cases e : a = b
  · subst e; simp
  · have h : ¬ (Sum.inr a : Key) = Sum.inr b := fun q => e (Sum.inr.inj q)
    rw [decide_eq_false h, decide_eq_false e]
theorem key_lr (a : Int) (b : Str) : decide ((Sum.inl a : Key) = Sum.inr b) = false := decide_eq_false (fun q => nomatch q)
theorem key_rl (a : Str) (b : Int) : decide ((Sum.inr a : Key) = Sum.inl b) = false := decide_eq_false (fun q => nomatch q)

def mixKind (prog : Program) (w : World) : PySem.KeyKind prog w Key where
  is := keyIs
  hash := keyH w
  inj := fun v a b ha hb => by
    rcases keyIs_shape ha with ⟨i, t, rfl, rfl⟩ | ⟨x, t, rfl, rfl⟩
    · rcases keyIs_shape hb with ⟨j, u, rfl, e⟩ | ⟨y, u, rfl, e⟩
      · injection e with e1 _; rw [e1]
      · exact nomatch e
    · rcases keyIs_shape hb with ⟨j, u, rfl, e⟩ | ⟨y, u, rfl, e⟩
      · exact nomatch e
      · injection e with e1 _; rw [e1]
  byValue := fun k v h => by
    rcases keyIs_shape h with ⟨i, t, rfl, rfl⟩ | ⟨x, t, rfl, rfl⟩ <;> rfl
  pyHash := fun hv h => by
    rcases keyIs_shape hv with ⟨i, t, rfl, rfl⟩ | ⟨x, t, rfl, rfl⟩
    · exact wpAny_pyHash_int h
    · exact wpAny_pyHash_str h
  eqBool := fun hu hv h => by
    rcases keyIs_shape hu with ⟨i, t, rfl, rfl⟩ | ⟨x, t, rfl, rfl⟩
    · rcases keyIs_shape hv with ⟨j, u, rfl, rfl⟩ | ⟨y, u, rfl, rfl⟩
      · rw [key_ll] at h; exact wpAny_eqBool_int h
      · rw [key_lr] at h; exact SeqAt.EqAt.int_str i t y u _ _ _ _ h
    · rcases keyIs_shape hv with ⟨j, u, rfl, rfl⟩ | ⟨y, u, rfl, rfl⟩
      · rw [key_rl] at h; exact SeqAt.EqAt.str_int x t j u _ _ _ _ h
      · rw [key_rr] at h; exact wpAny_eqBool_str h
  «strs» := fun k x t v h => by
    rcases keyIs_shape h with ⟨i, u, rfl, e⟩ | ⟨y, u, rfl, e⟩
    · exact nomatch e
    · injection e with e1 _
      subst e1
      cases v <;> rfl

theorem mixKind_is (prog : Program) (w : World) (k : Key) (v : Value) : (mixKind prog w).is k v = keyIs k v := rfl
theorem mixKind_int (prog : Program) (w : World) (i : Int) (t : Tok) : (mixKind prog w).is (.inl i) (.int i t) = true := keyIs_int i t
theorem mixKind_str (prog : Program) (w : World) (x : Str) (t : Tok) : (mixKind prog w).is (.inr x) (.str x t) = true := keyIs_str x t
end L2

namespace L2
open PySem PySem.Spec PyProof.Rows

/-- a value, without the heap -/
inductive V where
  | non | bl (b : Bool) | int (i : Int) | str (x : Str) | byt (b : Array UInt8) | flt (b : UInt64) | ref (a : Addr) | ty (n : String)
  deriving DecidableEq

def RelV : V → Value → Prop
  | .non, u => u = Value.none
  | .bl b, u => u = Value.bool b
  | .int i, u => ∃ t, u = Value.int i t
  | .str x, u => ∃ t, u = Value.str x t
  | .byt b, u => ∃ t, u = Value.bytes b t
  | .flt b, u => ∃ t, u = Value.float b t
  | .ref a, u => u = Value.ref a
  | .ty n, u => u = Value.type n

abbrev Vals : List V → List Value → Prop := Paired RelV
theorem Vals.length {xs : List V} {us : List Value} (r : Vals xs us) : xs.length = us.length := Paired.length r
theorem Vals.get : ∀ {xs : List V} {us : List Value} {i : Nat} {x : V}, Vals xs us → xs[i]? = some x → ∃ u, us[i]? = some u ∧ RelV x u
  | _, _, _, _, .nil, e => by simp at e
  | _, _, 0, _, .cons r _, e => by simp at e; subst e; exact ⟨_, rfl, r⟩
  | _, _, i + 1, x, .cons _ t, e => by
    obtain ⟨u, h1, h2⟩ := Vals.get (i := i) (x := x) t (by simpa using e)
    exact ⟨u, by simpa using h1, h2⟩
theorem Vals.set {x : V} {u : Value} (r : RelV x u) : ∀ {xs : List V} {us : List Value} (i : Nat), Vals xs us → Vals (xs.set i x) (us.set i u)
  | _, _, _, .nil => .nil
  | _, _, 0, .cons _ t => .cons r t
  | _, _, i + 1, .cons q t => .cons q (Vals.set r i t)
theorem Vals.append : ∀ {xs ys : List V} {us ws : List Value}, Vals xs us → Vals ys ws → Vals (xs ++ ys) (us ++ ws)
  | _, _, _, _, .nil, s => s
  | _, _, _, _, .cons r t, s => .cons r (Vals.append t s)
theorem Vals.take : ∀ {xs : List V} {us : List Value} (n : Nat), Vals xs us → Vals (xs.take n) (us.take n)
  | _, _, 0, _ => .nil
  | _, _, _ + 1, .nil => .nil
  | _, _, n + 1, .cons r t => .cons r (Vals.take n t)
theorem Vals.drop : ∀ {xs : List V} {us : List Value} (n : Nat), Vals xs us → Vals (xs.drop n) (us.drop n)
  | _, _, 0, r => r
  | _, _, _ + 1, .nil => .nil
  | _, _, n + 1, .cons _ t => Vals.drop n t
theorem Vals.none_of : ∀ {xs : List V} {us : List Value} {i : Nat}, Vals xs us → xs[i]? = none → us[i]? = none := fun {xs us i} r e => by
  have h1 := r.length
  have h2 : xs.length ≤ i := List.getElem?_eq_none_iff.mp e
  exact List.getElem?_eq_none_iff.mpr (by omega)

def RelO : Option V → Option Value → Prop
  | some v, some u => RelV v u
  | none, none => True
  | _, _ => False
def KV {κ : Type} : List (κ × V) → List (κ × Value) → Prop := Paired fun (p : κ × V) (q : κ × Value) => p.1 = q.1 ∧ RelV p.2 q.2

/-- a key of a dict (00_mix): an int or a text -/
def kV : Key → V
  | .inl i => .int i
  | .inr x => .str x

/-- what stands at a tracked address -/
inductive HO where
  /-- a list -/
  | lst (xs : List V)
  /-- a tuple (never changes) -/
  | tup (xs : List V)
  /-- a dict whose keys are ints and texts; one whose keys are tuples of ints and texts (the empty one is both) -/
  | dK (kvs : List (Key × V)) | dT (kvs : List (List Key × V))
  /-- a set of ints: its members, its size -/
  | set (S : Int → Bool) (n : Nat)
  /-- an instance of the class at C, its dict at dx, its attributes -/
  | ins (C dx : Addr) (fs : List (Str × V))
  /-- the dict of the instance at x -/
  | own (x : Addr)
  /-- the dict of an exception -/
  | xd (fs : List (Str × V))
  /-- a bound method, f of x -/
  | met (f x : Addr)
  /-- a range object lo, lo + 1, .. below hi -/
  | rng (lo hi : Int)
  /-- a thing that is known to the object (the script; a dict while a loop walks it): read, never written while it is so -/
  | frz (o : Obj) (u : HO)
  /-- a code object's table -/
  | tbl (ps : Array Value)
  /-- any other thing, by what is true of its one object (a def of one's own: SetO a S n := HO.ext fun h => ..) -/
  | ext (φ : Heap → Prop)

abbrev Hp := Addr → Option HO
def upd (H : Hp) (a : Addr) (o : HO) : Hp := fun b => if b = a then some o else H b
theorem upd_same {H : Hp} {a : Addr} {o : HO} : upd H a o a = some o := by unfold upd; rw [if_pos rfl]
theorem upd_ne {H : Hp} {a b : Addr} {o : HO} (h : b ≠ a) : upd H a o b = H b := by unfold upd; rw [if_neg h]
theorem upd_upd {H : Hp} {a : Addr} {o u : HO} : upd (upd H a o) a u = upd H a u := by
  funext b; unfold upd; split <;> rfl
/-- two objects of different content stand apart -/
theorem ne_of {H : Hp} {a b : Addr} {o u : HO} (h : H a = some o) (h' : H b = some u) (d : o ≠ u) : a ≠ b := by
  intro e; subst e; rw [h] at h'; exact d (Option.some.inj h')
theorem ne_of_none {H : Hp} {a b : Addr} {o : HO} (h : H a = some o) (h' : H b = none) : a ≠ b := by
  intro e; subst e; rw [h] at h'; cases h'

section
variable (P : Program) (w : World)
def ObjOk (H : Hp) (h : Heap) (a : Addr) : HO → Prop
  | .lst xs => xs.length ≤ sizeLine ∧ ∃ (its : List Value) (n : Nat), Vals xs its ∧ h.get? a = some { cls := .type "list", data := .seq its.toArray n }
  | .tup xs => xs.length ≤ sizeLine ∧ ∃ its : List Value, Vals xs its ∧ IsTup h a its.toArray
  | .dK kvs => kvs.length ≤ sizeLine ∧ (a == sysModules) = false ∧ ∃ vs, KV kvs vs ∧ h.DictOf (mixKind P w) a vs
  | .dT kvs => kvs.length ≤ sizeLine ∧ (a == sysModules) = false ∧ ∃ xs : List (List Key × Addr × Value),
      Paired (fun (p : List Key × V) (q : List Key × Addr × Value) => p.1 = q.1 ∧ H q.2.1 = some (.tup (p.1.map kV)) ∧ RelV p.2 q.2.2) kvs xs ∧
      ∃ o es ep, h.get? a = some o ∧ o.ExactDict ∧ o.data = .dict es ep ∧ es.toList = xs.map (entryOfKey (tupleKind (mixKind P w))) ∧ (xs.map (·.1)).Nodup
  | .set S n => h.SetOf (intKind P w) a S n
  | .ins C dx fs => H dx = some (.own a) ∧ fs.length ≤ 1000 ∧ dx ≠ a ∧ h.get? a = some (PySem.W.instObj C dx) ∧
      ∃ mA, h.Ns1 dx mA ∧ (∀ f, RelO (fs.lookup f) (mA f)) ∧ PySem.Within mA (fs.map (·.1))
  | .own _ => ∃ o, h.get? a = some o
  | .xd fs => ∃ mA, h.Ns1 a mA ∧ ∀ f, RelO (fs.lookup f) (mA f)
  | .rng lo hi => ∃ t u v, h.get? a = some { cls := .type "range", data := .fields #[.int lo t, .int hi u, .int 1 v] }
  | .frz o u => h.get? a = some o ∧ ObjOk H h a u
  | .tbl ps => h.get? a = some { cls := .none, data := .fields ps }
  | .met f x => h.get? a = some (PySem.W.methodObj (.ref f) (.ref x))
  | .ext φ => φ h ∧ (∃ o, h.get? a = some o) ∧ ∀ h1 h2 : Heap, φ h1 → (∀ o, h1.get? a = some o → h2.get? a = some o) → φ h2
/-- the abstract heap is held -/
def HOk (H : Hp) (h : Heap) : Prop := ∀ a o, H a = some o → ObjOk P w H h a o
end

section
variable {P : Program} {w : World} {H H' : Hp} {h h' : Heap} {a : Addr} {o : HO}
theorem ObjOk.lt (x : ObjOk P w H h a o) : a < h.objs.size := by
  cases o with
  | lst xs => obtain ⟨_, _, _, _, e⟩ := x; exact Heap.lt_size e
  | tup xs => obtain ⟨_, _, _, p⟩ := x; exact p.lt
  | dK kvs => obtain ⟨_, _, _, _, o, _, _, e, _⟩ := x; exact Heap.lt_size e
  | dT kvs => obtain ⟨_, _, _, _, o, _, _, e, _⟩ := x; exact Heap.lt_size e
  | set S n => obtain ⟨o, _, _, _, e, _⟩ := x; exact Heap.lt_size e
  | ins C dx fs => obtain ⟨_, _, _, e, _⟩ := x; exact Heap.lt_size e
  | own y => obtain ⟨_, e⟩ := x; exact Heap.lt_size e
  | xd fs => obtain ⟨_, ⟨_, _, _, e, _⟩, _⟩ := x; exact Heap.lt_size e
  | rng lo hi => obtain ⟨_, _, _, e⟩ := x; exact Heap.lt_size e
  | frz ob u => obtain ⟨e, _⟩ := x; exact Heap.lt_size e
  | tbl ps => exact Heap.lt_size (show h.get? a = some _ from x)
  | met f y => exact Heap.lt_size (show h.get? a = some _ from x)
  | ext φ => obtain ⟨_, ⟨_, e⟩, _⟩ := x; exact Heap.lt_size e
theorem Paired.mapP {α β : Type} {F G : α → β → Prop} : ∀ {l₁ : List α} {l₂ : List β}, Paired F l₁ l₂ → (∀ a b, F a b → G a b) → Paired G l₁ l₂
  | _, _, .nil, _ => .nil
  | _, _, .cons r t, f => .cons (f _ _ r) (Paired.mapP t f)
theorem Paired.imp' {α β : Type} {F G : α → β → Prop} (f : ∀ a b, F a b → G a b) {l₁ : List α} {l₂ : List β} (r : Paired F l₁ l₂) : Paired G l₁ l₂ := Paired.mapP r f
/-- what an object's description leans on: its own object, its own dict, the tuples -/
theorem ObjOk.stay (x : ObjOk P w H h a o) (k : ∀ b u, (b = a ∨ H b = some (.own a)) → h.get? b = some u → h'.get? b = some u)
    (ho : ∀ b, H b = some (.own a) → H' b = some (.own a)) (ht : ∀ b xs, H b = some (.tup xs) → H' b = some (.tup xs)) : ObjOk P w H' h' a o := by
  induction o with
  | lst xs => obtain ⟨z, its, n, r, e⟩ := x; exact ⟨z, its, n, r, k _ _ (.inl rfl) e⟩
  | tup xs => obtain ⟨z, its, r, ob, e, c⟩ := x; exact ⟨z, its, r, ob, k _ _ (.inl rfl) e, c⟩
  | dK kvs => obtain ⟨z, y, vs, r, ob, es, ep, e, c⟩ := x; exact ⟨z, y, vs, r, ob, es, ep, k _ _ (.inl rfl) e, c⟩
  | dT kvs =>
    obtain ⟨z, y, xs, r, ob, es, ep, e, c⟩ := x
    exact ⟨z, y, xs, Paired.mapP r fun p q z => ⟨z.1, ht _ _ z.2.1, z.2.2⟩, ob, es, ep, k _ _ (.inl rfl) e, c⟩
  | set S n => obtain ⟨ob, es, ep, t, e, c⟩ := x; exact ⟨ob, es, ep, t, k _ _ (.inl rfl) e, c⟩
  | ins C dx fs =>
    obtain ⟨d, z, ne, e, mA, ⟨od, es, ep, e2, c⟩, r⟩ := x
    exact ⟨ho _ d, z, ne, k _ _ (.inl rfl) e, mA, ⟨od, es, ep, k _ _ (.inr d) e2, c⟩, r⟩
  | own y => obtain ⟨ob, e⟩ := x; exact ⟨ob, k _ _ (.inl rfl) e⟩
  | xd fs => obtain ⟨mA, ⟨od, es, ep, e, c⟩, r⟩ := x; exact ⟨mA, ⟨od, es, ep, k _ _ (.inl rfl) e, c⟩, r⟩
  | rng lo hi => obtain ⟨t, u, v, e⟩ := x; exact ⟨t, u, v, k _ _ (.inl rfl) e⟩
  | frz ob u ih => obtain ⟨e, q⟩ := x; exact ⟨k _ _ (.inl rfl) e, ih q⟩
  | tbl ps =>
    have e : h.get? a = some { cls := .none, data := .fields ps } := x
    show h'.get? a = some { cls := .none, data := .fields ps }
    exact k a _ (.inl rfl) e
  | met f y =>
    have e : h.get? a = some (PySem.W.methodObj (.ref f) (.ref y)) := x
    show h'.get? a = some (PySem.W.methodObj (.ref f) (.ref y))
    exact k a _ (.inl rfl) e
  | ext φ => obtain ⟨p, ⟨o, e⟩, st⟩ := x; exact ⟨st _ _ p fun o q => k _ _ (.inl rfl) q, ⟨o, k _ _ (.inl rfl) e⟩, st⟩
theorem HOk.lt (x : HOk P w H h) (e : H a = some o) : a < h.objs.size := (x a o e).lt
theorem HOk.fresh (x : HOk P w H h) (e : h.objs.size ≤ a) : H a = none := by
  cases q : H a with
  | none => rfl
  | some u => exact absurd (Nat.lt_of_lt_of_le (x.lt q) e) (Nat.lt_irrefl _)
/-- every object of the heap is kept -/
theorem HOk.kept (x : HOk P w H h) (k : ∀ b u, h.get? b = some u → h'.get? b = some u) : HOk P w H h' := fun a o e =>
  (x a o e).stay (fun b u _ q => k b u q) (fun _ q => q) fun _ _ q => q
/-- a new object is laid and tracked -/
theorem HOk.laid (x : HOk P w H h) (k : ∀ b u, h.get? b = some u → h'.get? b = some u) (hp : h.objs.size ≤ a) (new : ObjOk P w (upd H a o) h' a o) : HOk P w (upd H a o) h' := fun b u e => by
  have hn := x.fresh hp
  by_cases hb : b = a
  · subst hb; rw [upd_same] at e; cases e; exact new
  · rw [upd_ne hb] at e
    exact (x b u e).stay (fun c v _ q => k c v q) (fun c q => by rw [upd_ne (ne_of_none q hn)]; exact q) fun c xs q => by rw [upd_ne (ne_of_none q hn)]; exact q
end

/-- what may be read as u: it is u, or a known u -/
def Rd (H : Hp) (a : Addr) (u : HO) : Prop := H a = some u ∨ ∃ o, H a = some (.frz o u)
theorem Rd.of {H : Hp} {a : Addr} {u : HO} (h : H a = some u) : Rd H a u := .inl h
theorem Rd.ok {P : Program} {w : World} {H : Hp} {h : Heap} {a : Addr} {u : HO} (r : Rd H a u) (x : HOk P w H h) : ObjOk P w H h a u := by
  rcases r with r | ⟨o, r⟩
  · exact x a u r
  · obtain ⟨_, q⟩ := x a _ r
    exact q
/-- what may be written -/
def Mut : Option HO → Prop
  | some (.lst _) => True
  | some (.dK _) => True
  | some (.dT _) => True
  | some (.set _ _) => True
  | some (.ins _ _ _) => True
  | some (.ext _) => True
  | _ => False
section
variable {P : Program} {w : World} {H : Hp} {h h' : Heap} {x e : Addr} {o' : HO}
/-- the object at e is changed: x itself, or the dict of the instance x -/
theorem HOk.write (ok : HOk P w H h) (mu : Mut (H x)) (he : e = x ∨ H e = some (.own x)) (k : ∀ b u, b ≠ e → h.get? b = some u → h'.get? b = some u) (heo : ∃ u, h'.get? e = some u)
    (new : ObjOk P w (upd H x o') h' x o') : HOk P w (upd H x o') h' := fun b u q => by
  have nown : ∀ c y, H c = some (.own y) → c ≠ x := fun c y r z => by subst z; rw [r] at mu; exact mu
  have ntup : ∀ c xs, H c = some (.tup xs) → c ≠ x := fun c xs r z => by subst z; rw [r] at mu; exact mu
  by_cases hb : b = x
  · subst hb; rw [upd_same] at q; cases q; exact new
  · rw [upd_ne hb] at q
    by_cases hbe : b = e
    · have q' : H b = some (.own x) := by
        rcases he with z | z
        · exact absurd (hbe.trans z) hb
        · rw [hbe]; exact z
      rw [q] at q'; cases q'
      obtain ⟨v, hv⟩ := heo
      exact ⟨v, by rw [hbe]; exact hv⟩
    · refine (ok b u q).stay (fun c v hc r => k c v ?_ r) (fun c r => by rw [upd_ne (nown c b r)]; exact r) fun c xs r => by rw [upd_ne (ntup c xs r)]; exact r
      rcases hc with rfl | hc
      · exact hbe
      · rintro rfl
        rcases he with z | z
        · exact nown c b hc z
        · rw [hc] at z; cases z; exact hb rfl
end

/-! ### kept unless tracked; of the frames at fs (the callers') the slots may change (an exception that passes writes there); of the records at ex (iterators) nothing is said -/
structure Un (fs ex : List Addr) (H H' : Hp) (h h' : Heap) : Prop where
  keep : ∀ b o, h.get? b = some o → H b = none → b ∉ fs → b ∉ ex → h'.get? b = some o
  slot : ∀ b o, h.get? b = some o → H b = none → b ∈ fs → b ∉ ex → ∃ sl, h'.get? b = some { o with slots := sl }
  free : ∀ b o, h.get? b = some o → H b = none → b ∉ ex → H' b = none
  there : ∀ b o, h.get? b = some o → b ∉ ex → ∃ o', h'.get? b = some o'
  tups : ∀ b xs, H b = some (.tup xs) → H' b = some (.tup xs)
  frzs : ∀ b o u, H b = some (.frz o u) → H' b = some (.frz o u)
  tbls : ∀ b ps, H b = some (.tbl ps) → ∃ more, H' b = some (.tbl (ps ++ more))
section
variable {fs fs' ex ex' : List Addr} {H H1 H2 : Hp} {h h1 h2 h' : Heap} {a x e : Addr} {o : HO}
theorem Un.any (u : Un fs ex H H1 h h1) {b : Addr} {ob : Obj} (q : h.get? b = some ob) (n : H b = none) (hx : b ∉ ex) : ∃ sl, h1.get? b = some { ob with slots := sl } := by
  by_cases hb : b ∈ fs
  · exact u.slot b ob q n hb hx
  · exact ⟨ob.slots, u.keep b ob q n hb hx⟩
theorem Un.trans (a : Un fs ex H H1 h h1) (b : Un fs ex H1 H2 h1 h2) : Un fs ex H H2 h h2 where
  keep := fun c ob q n hc hx => b.keep c ob (a.keep c ob q n hc hx) (a.free c ob q n hx) hc hx
  slot := fun c ob q n hc hx => by
    obtain ⟨sl, e1⟩ := a.slot c ob q n hc hx
    obtain ⟨sl', e2⟩ := b.slot c _ e1 (a.free c ob q n hx) hc hx
    exact ⟨sl', e2⟩
  free := fun c ob q n hx => by
    obtain ⟨o', e1⟩ := a.there c ob q hx
    exact b.free c o' e1 (a.free c ob q n hx) hx
  there := fun c ob q hx => by
    obtain ⟨o', e1⟩ := a.there c ob q hx
    exact b.there c o' e1 hx
  tups := fun c xs q => b.tups c xs (a.tups c xs q)
  frzs := fun c ob xs q => b.frzs c ob xs (a.frzs c ob xs q)
  tbls := fun c ps q => by
    obtain ⟨m1, e1⟩ := a.tbls c ps q
    obtain ⟨m2, e2⟩ := b.tbls c _ e1
    exact ⟨m1 ++ m2, by rw [e2, Array.append_assoc]⟩
theorem Un.kept (k : ∀ b u, h.get? b = some u → h'.get? b = some u) : Un fs ex H H h h' :=
  ⟨fun b ob q _ _ _ => k b ob q, fun b ob q _ _ _ => ⟨ob.slots, k b ob q⟩, fun _ _ _ n _ => n, fun b ob q _ => ⟨ob, k b ob q⟩, fun _ _ q => q, fun _ _ _ q => q, fun _ ps q => ⟨#[], by rw [q]; simp⟩⟩
theorem Un.refl : Un fs ex H H h h := Un.kept fun _ _ q => q
theorem Un.laid (k : ∀ b u, h.get? b = some u → h'.get? b = some u) (hp : h.objs.size ≤ a) (hn : H a = none) : Un fs ex H (upd H a o) h h' where
  keep := fun b u q _ _ _ => k b u q
  slot := fun b u q _ _ _ => ⟨u.slots, k b u q⟩
  free := fun b u q n _ => by rw [upd_ne (Nat.ne_of_lt (Nat.lt_of_lt_of_le (Heap.lt_size q) hp))]; exact n
  there := fun b u q _ => ⟨u, k b u q⟩
  tups := fun b xs q => by rw [upd_ne (ne_of_none q hn)]; exact q
  frzs := fun b u xs q => by rw [upd_ne (ne_of_none q hn)]; exact q
  tbls := fun b ps q => ⟨#[], by rw [upd_ne (ne_of_none q hn), q]; simp⟩
theorem Un.write (mu : Mut (H x)) (he : e = x ∨ H e = some (.own x)) (k : ∀ b u, b ≠ e → h.get? b = some u → h'.get? b = some u) (heo : ∃ u, h'.get? e = some u) : Un fs ex H (upd H x o) h h' := by
  have hx : ∀ b, H b = none → b ≠ x := fun b n z => by subst z; rw [n] at mu; exact mu
  have hb : ∀ b, H b = none → b ≠ e := fun b n z => by
    subst z
    rcases he with r | r
    · exact hx b n r
    · rw [n] at r; cases r
  have hm : ∀ b u, H b = some u → ¬ Mut (some u) → b ≠ x := fun b u q nm z => by subst z; rw [q] at mu; exact nm mu
  refine ⟨fun b u q n _ _ => k b u (hb b n) q, fun b u q n _ _ => ⟨u.slots, k b u (hb b n) q⟩, fun b u q n _ => by rw [upd_ne (hx b n)]; exact n, fun b u q _ => ?_,
    fun b xs q => by rw [upd_ne (hm b _ q fun z => z)]; exact q, fun b u xs q => by rw [upd_ne (hm b _ q fun z => z)]; exact q, fun b ps q => ⟨#[], by rw [upd_ne (hm b _ q fun z => z), q]; simp⟩⟩
  by_cases hbe : b = e
  · subst hbe; exact heo
  · exact ⟨u, k b u hbe q⟩
theorem Un.mono (u : Un fs ex H H1 h h1) (hs : ∀ b ∈ fs, b ∈ fs') (hx : ∀ b ∈ ex, b ∈ ex') : Un fs' ex' H H1 h h1 :=
  ⟨fun b ob q n hb he => u.keep b ob q n (fun z => hb (hs b z)) fun z => he (hx b z), fun _ _ q n _ he => u.any q n fun z => he (hx _ z), fun b ob q n he => u.free b ob q n fun z => he (hx b z), fun b ob q he => u.there b ob q fun z => he (hx b z), u.tups, u.frzs, u.tbls⟩
end

/-! ### the heap without what is tracked -/
def trk (h : Heap) (H : Hp) : List Addr := (List.range h.objs.size).filter fun a => (H a).isSome
def hidT (h : Heap) (H : Hp) : Heap := PySem.W.hideAll h (trk h H)
theorem hidT_size (h : Heap) (H : Hp) : (hidT h H).objs.size = h.objs.size := PySem.W.hideAll_size _ _
theorem hidT_get {h : Heap} {H : Hp} {b : Addr} {o : Obj} (e : h.get? b = some o) (n : H b = none) : (hidT h H).get? b = some o :=
  PySem.W.hideAll_get _ e fun hm => by
    have q : (H b).isSome = true := (List.mem_filter.mp hm).2
    rw [n] at q; simp at q
theorem of_hidT {h : Heap} {H : Hp} {b : Addr} {o : Obj} (e : (hidT h H).get? b = some o) : h.get? b = some o ∧ H b = none := by
  have e' : h.get? b = some o := PySem.W.of_hideAll (trk h H) e
  refine ⟨e', ?_⟩
  cases q : H b with
  | none => rfl
  | some x =>
    have hm : b ∈ trk h H := List.mem_filter.mpr ⟨List.mem_range.mpr (Heap.lt_size e'), by simp [q]⟩
    have z : (hidT h H).get? b = none := PySem.W.hideAll_none (trk h H) hm
    rw [z] at e; cases e

/-! ### OpenK's ledger, filled with every new object but one -/
def allNews (g h : Heap) (L : Addr) : List (Addr × Obj) := (List.range h.objs.size).filterMap fun a => if a = L ∨ (g.get? a).isSome = true then none else (h.get? a).map fun o => (a, o)
theorem mem_allNews {g h : Heap} {L a : Addr} {o : Obj} (h1 : a ≠ L) (h2 : g.get? a = none) (h3 : h.get? a = some o) : (a, o) ∈ allNews g h L :=
  List.mem_filterMap.mpr ⟨a, List.mem_range.mpr (Heap.lt_size h3), by simp [h1, h2, h3]⟩
theorem of_mem_allNews {g h : Heap} {L : Addr} {p : Addr × Obj} (hp : p ∈ allNews g h L) : p.1 ≠ L ∧ g.get? p.1 = none ∧ h.get? p.1 = some p.2 := by
  obtain ⟨b, _, e⟩ := List.mem_filterMap.mp hp
  split at e
  · cases e
  · rename_i hn
    cases q : h.get? b with
    | none => rw [q] at e; simp at e
    | some u =>
      rw [q] at e
      simp only [Option.map_some, Option.some.injEq] at e
      subst e
      refine ⟨fun z => hn (.inl z), ?_, q⟩
      show g.get? b = none
      cases r : g.get? b with
      | none => rfl
      | some v => exact (hn (.inr (by simp [r]))).elim
def rest (g h : Heap) (L d : Addr) : List (Addr × Obj) := (allNews g h L).filter fun p => decide (p.1 ≠ d)
theorem rest_ne {g h : Heap} {L d : Addr} : ∀ p ∈ rest g h L d, p.1 ≠ d := fun p hp => of_decide_eq_true (List.mem_filter.mp hp).2
theorem mem_rest {g h : Heap} {L d a : Addr} {o : Obj} (h1 : a ≠ L) (h2 : g.get? a = none) (h3 : h.get? a = some o) (h4 : a ≠ d) : (a, o) ∈ rest g h L d :=
  List.mem_filter.mpr ⟨mem_allNews h1 h2 h3, decide_eq_true h4⟩
theorem news_all {g h : Heap} {L : Addr} : News g L h (allNews g h L) := fun p hp => let ⟨a, b, c⟩ := of_mem_allNews hp; ⟨c, a, b⟩
theorem news_at {g h : Heap} {L d : Addr} {o : Obj} (h1 : d ≠ L) (h2 : g.get? d = none) (h3 : h.get? d = some o) : News g L h ((d, o) :: rest g h L d) := fun p hp => by
  rcases List.mem_cons.mp hp with rfl | hp
  · exact ⟨h3, h1, h2⟩
  · exact news_all p (List.mem_filter.mp hp).1
/-- behind a rule that changed d alone: all else but the frame is kept -/
theorem kept_of_news {g h h' : Heap} {L d : Addr} {m : Str → Option Value} (k : ∀ b o, g.get? b = some o → h.get? b = some o) (F : Fr g L h' m) (N : News g L h' (rest g h L d)) :
    ∀ b o, b ≠ L → b ≠ d → h.get? b = some o → h'.get? b = some o := fun b o h1 h2 e => by
  cases q : g.get? b with
  | some u =>
    have := k b u q
    rw [e] at this; cases this
    exact F.keep b _ q
  | none => exact (N (b, o) (mem_rest h1 q e h2)).1
end L2

namespace L2
open PySem PySem.Spec PyProof.Rows

/-- the module's facts, over the base: the heap at the law's entry without what is tracked there -/
structure Mod (K : PySem.W.Frag) (mg : Str → Option Value) (base : Heap) : Prop where
  kin : K.In base
  glob : base.Ns mainGlobals mg
  blt : ∃ mb, base.Ns builtinsNs mb ∧ ∀ x : Str, x ≠ "__name__" → mb x = bootBuiltins x
  nolimit : base.NoLimit

/-- the context: a def's body (or a comprehension's block) running. base: fixed through the whole law; s₀, H₀: the entry; outer: the frames whose slots others may change (a def's callers); stack: all frames that run;
   ex: iterators that were made ahead of the entry and are walked here (a comprehension's); fn: the names whose cells were made at the entry (a def: all; a comprehension's block: its own); calm: not within an except suite; pn: pins that every state bears; xe: what is wanted of an exception that leaves the code -/
structure Cx where
  prog : Program
  w : World
  K : PySem.W.Frag
  mg : Str → Option Value
  base : Heap
  A : Around
  N : List Str
  s₀ : Shared
  H₀ : Hp
  env : Env
  outer : List Env
  stack : List Env
  ex : List Addr
  fn : Str → Bool
  calm : Bool
  pn : List (Addr × Obj)
  xe : Value → Shared → Prop
/-- the callers' frames -/
def frs (l : List Env) : List Addr := l.filterMap (·.frame)
abbrev Cx.fs (X : Cx) : List Addr := frs X.outer

def Vis (sc : Scope) (x : Str) : Prop := sc.names.lookup x = some .local ∨ sc.names.lookup x = some .cell ∨ sc.names.lookup x = some .free
def Loc (sc : Scope) (x : Str) : Prop := sc.names.lookup x = some .local ∨ sc.names.lookup x = some .cell
def Look (env : Env) (h : Heap) (m : Str → Option Value) (x : Str) (u : Value) : Prop :=
  (env.kindOf x = some .local ∧ m x = some u) ∨ ((env.kindOf x = some .cell ∨ env.kindOf x = some .free) ∧ ∃ c, env.cells.lookup x = some c ∧ h.IsCell c (some u))

structure Cx.Ok (X : Cx) : Prop where
  mod : Mod X.K X.mg X.base
  kind : X.env.scope.kind = .function
  glob : X.env.globals = mainGlobals
  blt : X.env.builtins = builtinsNs
  above : X.s₀.heap.objs.size ≤ X.env.locals
  inj : ∀ x y c, X.env.cells.lookup x = some c → X.env.cells.lookup y = some c → x = y
  has : ∀ x, (X.env.kindOf x = some .cell ∨ X.env.kindOf x = some .free) → ∃ c, X.env.cells.lookup x = some c
  cab : ∀ x c, X.fn x = true → X.env.cells.lookup x = some c → X.s₀.heap.objs.size ≤ c
  hd : X.calm = true → X.A.handled = none
  frames : X.A.frames = some X.stack
  stk : X.stack = X.outer ∨ (X.stack = X.env :: X.outer ∧ X.env.frame = some X.env.locals)
  exf : ∀ b ∈ X.ex, b ≠ X.env.locals ∧ ∀ x c, X.env.cells.lookup x = some c → c ≠ b
  bs : ∀ b o, X.base.get? b = some o → X.s₀.heap.get? b = some o ∧ X.H₀ b = none
  bsz : X.base.objs.size ≤ X.s₀.heap.objs.size
  noex : ∀ b o, X.base.get? b = some o → b ∉ X.ex
  exfs : ∀ b ∈ X.ex, b ∉ X.fs
  funs : X.s₀.heap.FunFrames X.base X.outer
  frf : ∀ b ∈ X.fs, X.H₀ b = none

structure Inv (X : Cx) (pins : List (Addr × Obj)) (σ : List (Option V)) (H : Hp) (s : Shared) : Prop where
  ok : X.Ok
  os : s.os = X.s₀.os
  bare : AllBare s.gens
  base : Un X.fs X.ex X.H₀ H X.s₀.heap s.heap
  loc : ∃ m, s.heap.Ns X.env.locals m ∧ ∀ (i : Nat) (x : Str) (v : V), X.N[i]? = some x → σ[i]? = some (some v) → Vis X.env.scope x → ∃ u, RelV v u ∧ Look X.env s.heap m x u
  cell : ∀ x c, X.env.cells.lookup x = some c → ∃ v, s.heap.IsCell c v
  free : H X.env.locals = none
  freeC : ∀ x c, X.env.cells.lookup x = some c → H c = none
  pin : ∀ p ∈ X.pn ++ pins, s.heap.get? p.1 = some p.2 ∧ H p.1 = none ∧ p.1 ≠ X.env.locals ∧ p.1 ∉ X.fs ∧ ∀ v, p.2.data ≠ .cell v
  hok : HOk X.prog X.w H s.heap
  len : σ.length = X.N.length

section
variable {X : Cx} {pins : List (Addr × Obj)} {σ : List (Option V)} {H H' : Hp} {s : Shared} {h' : Heap}

theorem Cx.Ok.nofr (ok : X.Ok) {b : Addr} {o : Obj} (e : X.base.get? b = some o) : b ∉ X.fs := fun hb => by
  have := (ok.funs.mem hb).1
  rw [e] at this; cases this
theorem Inv.bs (I : Inv X pins σ H s) : ∀ b o, X.base.get? b = some o → s.heap.get? b = some o ∧ H b = none := fun b o e =>
  ⟨I.base.keep b o (I.ok.bs b o e).1 (I.ok.bs b o e).2 (I.ok.nofr e) (I.ok.noex b o e), I.base.free b o (I.ok.bs b o e).1 (I.ok.bs b o e).2 (I.ok.noex b o e)⟩
theorem Inv.bk (I : Inv X pins σ H s) : ∀ b o, X.base.get? b = some o → s.heap.get? b = some o := fun b o e => (I.bs b o e).1
theorem Inv.mod (I : Inv X pins σ H s) : Mod X.K X.mg X.base := I.ok.mod
theorem Inv.kIn (I : Inv X pins σ H s) : X.K.In s.heap := I.ok.mod.kin.keeps I.bk
theorem Inv.nolimit (I : Inv X pins σ H s) : s.heap.NoLimit := I.ok.mod.nolimit.keeps I.bk
/-- the frame over the base: for OpenK's rules (K.In X.base is I.mod.kin) -/
theorem Inv.fr (I : Inv X pins σ H s) : ∃ m, Fr X.base X.env.locals s.heap m :=
  let ⟨m, hn, _⟩ := I.loc
  ⟨m, hn, I.bk, Nat.le_trans I.ok.bsz I.ok.above⟩
theorem Inv.lt (I : Inv X pins σ H s) : X.env.locals < s.heap.objs.size := let ⟨_, hn, _⟩ := I.loc; hn.lt
theorem Inv.sz (I : Inv X pins σ H s) : X.s₀.heap.objs.size ≤ s.heap.objs.size := Nat.le_trans I.ok.above (Nat.le_of_lt I.lt)
theorem Inv.nofs (I : Inv X pins σ H s) {a : Addr} (h : s.heap.objs.size ≤ a) : a ∉ X.fs := fun hb => by
  obtain ⟨_, o, ho, _⟩ := I.ok.funs.mem hb
  exact absurd (Nat.lt_of_lt_of_le (Heap.lt_size ho) (Nat.le_trans I.sz h)) (Nat.lt_irrefl _)
theorem Inv.cne (I : Inv X pins σ H s) : ∀ x c, X.env.cells.lookup x = some c → c ≠ X.env.locals := fun x c e z => by
  obtain ⟨v, o, ho, hd⟩ := I.cell x c e
  obtain ⟨m, ⟨o', es, ep, ho', hd', _⟩, _⟩ := I.loc
  rw [z, ho'] at ho; cases ho; rw [hd'] at hd; cases hd
theorem Inv.funs (I : Inv X pins σ H s) : s.heap.FunFrames X.base X.outer := by
  have all : ∀ (l : List Env), (∀ b ∈ frs l, b ∈ X.fs) → X.s₀.heap.FunFrames X.base l → s.heap.FunFrames X.base l := by
    intro l
    induction l with
    | nil => intro _ _; trivial
    | cons env r ih =>
      intro hs hl
      obtain ⟨hk, ⟨L, o, hf, hn, ho, hd⟩, hr⟩ := hl
      have hL : L ∈ X.fs := hs L (by unfold frs; rw [List.filterMap_cons, hf]; exact List.mem_cons_self)
      obtain ⟨sl, e⟩ := I.base.slot L o ho (I.ok.frf L hL) hL fun z => I.ok.exfs L z hL
      exact ⟨hk, ⟨L, _, hf, hn, e, hd⟩, ih (fun b hb => hs b (by unfold frs; rw [List.filterMap_cons, hf]; exact List.mem_cons_of_mem _ hb)) hr⟩
  exact all X.outer (fun _ hb => hb) I.ok.funs

/-- the frames that run, for a call -/
theorem Inv.stack (I : Inv X pins σ H s) : s.heap.FunFrames X.base X.stack := by
  rcases I.ok.stk with e | ⟨e, hf⟩
  · rw [e]; exact I.funs
  · rw [e]
    obtain ⟨m, hn, _⟩ := I.loc
    refine .cons (by rw [I.ok.kind]; decide) hf hn ?_ I.funs
    exact Heap.get?_none_of_le (Nat.le_trans I.ok.bsz I.ok.above)
theorem Inv.stkSub (I : Inv X pins σ H s) : ∀ b ∈ frs X.stack, b ∈ X.env.locals :: X.fs := fun b hb => by
  rcases I.ok.stk with e | ⟨e, hf⟩
  · rw [e] at hb; exact List.mem_cons_of_mem _ hb
  · rw [e] at hb
    unfold frs at hb
    rw [List.filterMap_cons, hf] at hb
    exact hb
theorem Inv.stkFree (I : Inv X pins σ H s) : ∀ b ∈ frs X.stack, H b = none := fun b hb => by
  rcases List.mem_cons.mp (I.stkSub b hb) with e | hb
  · rw [e]; exact I.free
  · obtain ⟨_, o, ho, _⟩ := I.ok.funs.mem hb
    exact I.base.free b o ho (I.ok.frf b hb) fun z => I.ok.exfs b z hb

/-- THE STEP: the untracked objects but the frame and the records at ch are kept (the callers' frames up to slots), the frame's map is kept, the new abstract heap is held -/
theorem Inv.step {g' : Array GenState} {t' : Nat} {d' : Drawn} {ch : List Addr} (I : Inv X pins σ H s)
    (hch : ∀ b ∈ ch, (b ∈ X.ex ∨ X.s₀.heap.objs.size ≤ b) ∧ b ≠ X.env.locals ∧ (∀ x c, X.env.cells.lookup x = some c → c ≠ b) ∧ ∀ p ∈ X.pn ++ pins, p.1 ≠ b)
    (keep : ∀ b o, b ≠ X.env.locals → b ∉ X.fs → b ∉ ch → s.heap.get? b = some o → H b = none → h'.get? b = some o)
    (slot : ∀ b o, b ≠ X.env.locals → b ∈ X.fs → b ∉ ch → s.heap.get? b = some o → H b = none → ∃ sl, h'.get? b = some { o with slots := sl }) (free : ∀ b o, b ∉ ch → s.heap.get? b = some o → H b = none → H' b = none)
    (there : ∀ b o, b ∉ ch → s.heap.get? b = some o → ∃ o', h'.get? b = some o')
    (tups : ∀ b xs, H b = some (.tup xs) → H' b = some (.tup xs)) (frzs : ∀ b o u, H b = some (.frz o u) → H' b = some (.frz o u)) (tbls : ∀ b ps, H b = some (.tbl ps) → ∃ more, H' b = some (.tbl (ps ++ more)))
    (ns : ∀ m, s.heap.Ns X.env.locals m → h'.Ns X.env.locals m) (hok : HOk X.prog X.w H' h') (hg : AllBare g') :
    Inv X pins σ H' { s with heap := h', gens := g', drawn := d', toks := t' } := by
  have neL : ∀ b o, X.s₀.heap.get? b = some o → b ≠ X.env.locals := fun b o e => Nat.ne_of_lt (Nat.lt_of_lt_of_le (Heap.lt_size e) I.ok.above)
  have neC : ∀ b o, X.s₀.heap.get? b = some o → b ∉ X.ex → b ∉ ch := fun b o e hx hb => by
    rcases (hch b hb).1 with z | z
    · exact hx z
    · exact absurd (Nat.lt_of_lt_of_le (Heap.lt_size e) z) (Nat.lt_irrefl _)
  have cellK : ∀ x c, X.env.cells.lookup x = some c → ∀ v, s.heap.IsCell c v → h'.IsCell c v := fun x c e v ⟨o, ho, hd⟩ => by
    have nch : c ∉ ch := fun z => (hch c z).2.2.1 x c e rfl
    by_cases hc : c ∈ X.fs
    · obtain ⟨sl, q⟩ := slot c o (I.cne x c e) hc nch ho (I.freeC x c e)
      exact ⟨_, q, hd⟩
    · exact ⟨o, keep c o (I.cne x c e) hc nch ho (I.freeC x c e), hd⟩
  refine ⟨I.ok, I.os, hg, ⟨fun b o e n hb hx => ?_, fun b o e n hb hx => ?_, fun b o e n hx => ?_, fun b o e hx => ?_, fun b xs e => tups b xs (I.base.tups b xs e), fun b o xs e => frzs b o xs (I.base.frzs b o xs e), fun b ps e => ?_⟩, ?_, fun x c e => ?_, ?_, fun x c e => ?_, fun p hp => ?_, hok, I.len⟩
  · exact keep b o (neL b o e) hb (neC b o e hx) (I.base.keep b o e n hb hx) (I.base.free b o e n hx)
  · obtain ⟨sl, e1⟩ := I.base.slot b o e n hb hx
    obtain ⟨sl', e2⟩ := slot b _ (neL b o e) hb (neC b o e hx) e1 (I.base.free b o e n hx)
    exact ⟨sl', e2⟩
  · obtain ⟨o', e1⟩ := I.base.there b o e hx
    exact free b o' (neC b o e hx) e1 (I.base.free b o e n hx)
  · obtain ⟨o', e1⟩ := I.base.there b o e hx
    exact there b o' (neC b o e hx) e1
  · obtain ⟨m1, e1⟩ := I.base.tbls b ps e
    obtain ⟨m2, e2⟩ := tbls b _ e1
    exact ⟨m1 ++ m2, by rw [e2, Array.append_assoc]⟩
  · obtain ⟨m, hn, hl⟩ := I.loc
    refine ⟨m, ns m hn, fun i x v e1 e2 e3 => ?_⟩
    obtain ⟨u, r, l⟩ := hl i x v e1 e2 e3
    refine ⟨u, r, ?_⟩
    rcases l with l | ⟨k, c, e, z⟩
    · exact .inl l
    · exact .inr ⟨k, c, e, cellK x c e _ z⟩
  · obtain ⟨v, z⟩ := I.cell x c e
    exact ⟨v, cellK x c e v z⟩
  · obtain ⟨m, ⟨o, _, _, ho, _⟩, _⟩ := I.loc
    exact free _ o (fun z => (hch _ z).2.1 rfl) ho I.free
  · obtain ⟨v, o, ho, hd⟩ := I.cell x c e
    exact free c o (fun z => (hch c z).2.2.1 x c e rfl) ho (I.freeC x c e)
  · obtain ⟨e, n, ne, nf, d⟩ := I.pin p hp
    have nch : p.1 ∉ ch := fun z => (hch p.1 z).2.2.2 p hp rfl
    exact ⟨keep p.1 p.2 ne nf nch e n, free p.1 p.2 nch e n, ne, nf, d⟩
/-- .. where the frame's own object is kept too -/
theorem Inv.un {t' : Nat} (I : Inv X pins σ H s) (u : Un X.fs [] H H' s.heap h') (hok : HOk X.prog X.w H' h') : Inv X pins σ H' { s with heap := h', toks := t' } := by
  obtain ⟨m, ⟨o, es, ep, ho, r⟩, _⟩ := id I.loc
  obtain ⟨sl, hL⟩ := u.any ho I.free (by simp)
  exact I.step (g' := s.gens) (d' := s.drawn) (ch := []) (fun _ z => nomatch z) (fun b o _ hb _ e n => u.keep b o e n hb (by simp)) (fun b o _ hb _ e n => u.slot b o e n hb (by simp)) (fun b o _ e n => u.free b o e n (by simp)) (fun b o _ e => u.there b o e (by simp)) u.tups u.frzs u.tbls (fun m' hm => by
    obtain ⟨o', es', ep', ho', r'⟩ := hm
    rw [ho] at ho'; cases ho'
    exact ⟨_, es', ep', hL, r'⟩) hok I.bare
/-- behind a call (or a comprehension's block): the slots of this frame may have changed too, the records at ch may have turned -/
theorem Inv.call {g' : Array GenState} {t' : Nat} {d' : Drawn} {ch : List Addr} (I : Inv X pins σ H s) (u : Un (frs X.stack) ch H H' s.heap h') (hok : HOk X.prog X.w H' h') (hg : AllBare g')
    (hch : ∀ b ∈ ch, (b ∈ X.ex ∨ X.s₀.heap.objs.size ≤ b) ∧ b ≠ X.env.locals ∧ (∀ x c, X.env.cells.lookup x = some c → c ≠ b) ∧ ∀ p ∈ X.pn ++ pins, p.1 ≠ b) :
    Inv X pins σ H' { s with heap := h', gens := g', drawn := d', toks := t' } := by
  obtain ⟨m, ⟨o, es, ep, ho, r⟩, _⟩ := id I.loc
  obtain ⟨sl, hL⟩ := u.any ho I.free fun z => (hch _ z).2.1 rfl
  exact I.step (ch := ch) hch (fun b o hL hb hc e n => u.keep b o e n (fun z => (List.mem_cons.mp (I.stkSub b z)).elim hL hb) hc) (fun b o _ _ hc e n => u.any e n hc) (fun b o hc e n => u.free b o e n hc) (fun b o hc e => u.there b o e hc) u.tups u.frzs u.tbls (fun m' hm => by
    obtain ⟨o', es', ep', ho', r'⟩ := hm
    rw [ho] at ho'; cases ho'
    exact ⟨_, es', ep', hL, r'⟩) hok hg
/-- an untracked record of ours (an iterator) has turned -/
theorem Inv.turned {t' : Nat} {it : Addr} (I : Inv X pins σ H s) (k : ∀ b o, b ≠ it → s.heap.get? b = some o → h'.get? b = some o) (hn : H it = none) (hL : it ≠ X.env.locals)
    (h1 : it ∈ X.ex ∨ X.s₀.heap.objs.size ≤ it) (h2 : ∀ x c, X.env.cells.lookup x = some c → c ≠ it) (h3 : ∀ p ∈ X.pn ++ pins, p.1 ≠ it) : Inv X pins σ H { s with heap := h', toks := t' } := by
  have nit : ∀ b u, H b = some u → b ≠ it := fun b u e z => by rw [z, hn] at e; cases e
  refine I.step (g' := s.gens) (d' := s.drawn) (ch := [it]) (fun b hb => ?_) (fun b o _ _ hc e _ => k b o (fun z => hc (by simp [z])) e) (fun b o _ _ hc e _ => ⟨o.slots, k b o (fun z => hc (by simp [z])) e⟩) (fun _ _ _ _ n => n)
    (fun b o hc e => ⟨o, k b o (fun z => hc (by simp [z])) e⟩) (fun _ _ e => e) (fun _ _ _ e => e) (fun b ps e => ⟨#[], by rw [e]; simp⟩) (fun m hm => ?_) (fun b u e => ?_) I.bare
  · have e : b = it := by simpa using hb
    subst e
    exact ⟨h1, hL, h2, h3⟩
  · obtain ⟨o, es, ep, ho, r⟩ := hm
    exact ⟨o, es, ep, k _ o (Ne.symm hL) ho, r⟩
  · refine (I.hok b u e).stay (fun c v hc q => k c v ?_ q) (fun _ q => q) fun _ _ q => q
    rcases hc with z | z
    · rw [z]; exact nit b u e
    · exact nit c _ z
theorem Inv.tok (I : Inv X pins σ H s) (t : Nat) : Inv X pins σ H { s with toks := t } := I.un (h' := s.heap) (t' := t) Un.refl I.hok
/-- all objects kept -/
theorem Inv.kept {t' : Nat} (I : Inv X pins σ H s) (k : ∀ b u, s.heap.get? b = some u → h'.get? b = some u) : Inv X pins σ H { s with heap := h', toks := t' } := I.un (Un.kept k) (I.hok.kept k)
/-- a new object laid and tracked -/
theorem Inv.laid {a : Addr} {o : HO} {t' : Nat} (I : Inv X pins σ H s) (k : ∀ b u, s.heap.get? b = some u → h'.get? b = some u) (hp : s.heap.objs.size ≤ a) (new : ObjOk X.prog X.w (upd H a o) h' a o) :
    Inv X pins σ (upd H a o) { s with heap := h', toks := t' } := I.un (Un.laid k hp (I.hok.fresh hp)) (I.hok.laid k hp new)
/-- an object written -/
theorem Inv.write {x e : Addr} {o : HO} {t' : Nat} (I : Inv X pins σ H s) (mu : Mut (H x)) (he : e = x ∨ H e = some (.own x)) (k : ∀ b u, b ≠ e → s.heap.get? b = some u → h'.get? b = some u) (heo : ∃ u, h'.get? e = some u)
    (new : ObjOk X.prog X.w (upd H x o) h' x o) : Inv X pins σ (upd H x o) { s with heap := h', toks := t' } := I.un (Un.write mu he k heo) (I.hok.write mu he k heo new)
/-- forgetting slots, pins -/
theorem Inv.weak {σ' : List (Option V)} (I : Inv X pins σ H s) (hl : σ'.length = σ.length) (w : ∀ (i : Nat) v, σ'[i]? = some (some v) → σ[i]? = some (some v)) : Inv X pins σ' H s :=
  ⟨I.ok, I.os, I.bare, I.base, let ⟨m, hn, hl'⟩ := I.loc; ⟨m, hn, fun i x v e1 e2 e3 => hl' i x v e1 (w i v e2) e3⟩, I.cell, I.free, I.freeC, I.pin, I.hok, hl.trans I.len⟩
theorem Inv.pins_of {pins' : List (Addr × Obj)} (I : Inv X pins σ H s) (h : ∀ p ∈ pins', s.heap.get? p.1 = some p.2 ∧ H p.1 = none ∧ p.1 ≠ X.env.locals ∧ p.1 ∉ X.fs ∧ ∀ v, p.2.data ≠ .cell v) : Inv X pins' σ H s :=
  ⟨I.ok, I.os, I.bare, I.base, I.loc, I.cell, I.free, I.freeC, fun p hp => (List.mem_append.mp hp).elim (fun z => I.pin p (List.mem_append_left _ z)) (h p), I.hok, I.len⟩

theorem nodup_ix {N : List Str} (hN : N.Nodup) {i j : Nat} {x : Str} (a : N[i]? = some x) (b : N[j]? = some x) : i = j := by
  obtain ⟨h1, e1⟩ := List.getElem?_eq_some_iff.mp a
  obtain ⟨h2, e2⟩ := List.getElem?_eq_some_iff.mp b
  exact (List.getElem_inj hN).mp (e1.trans e2.symm)

/-- a name is stored; what changed -/
theorem store_ok2 {M : Model} {A : Around} {E : Value → Shared → Prop} {i : Nat} {x : Str} {v : V} {u : Value} {Q : Unit → Shared → Prop} (I : Inv X pins σ H s) (hN : X.N.Nodup) (hi : X.N[i]? = some x) (hx : Loc X.env.scope x) (r : RelV v u)
    (h : ∀ s', Inv X pins (σ.set i (some v)) H s' → (∃ a, Heap.SameBut a s.heap s'.heap ∧ (a = X.env.locals ∨ X.env.cells.lookup x = some a)) → Q () s') (hf : X.fn x = true ∨ X.env.scope.names.lookup x = some .local := by first | exact .inl rfl | exact .inr rfl | assumption) : wpAny M A (storeName X.env x u) Q E s := by
  obtain ⟨m, hn, hl⟩ := id I.loc
  have hcls : (X.env.scope.kind == .class || (X.env.scope.kind == .module && X.env.locals != X.env.globals)) = false := by rw [I.ok.kind]; rfl
  have hiσ : i < σ.length := by rw [I.len]; exact (List.getElem?_eq_some_iff.mp hi).1
  have cne := I.cne
  have tracked : ∀ {a : Addr} {h' : Heap}, (∃ o, s.heap.get? a = some o ∧ H a = none) → Heap.SameBut a s.heap h' → HOk X.prog X.w H h' := fun {a h'} ha hs b ob e => by
    obtain ⟨_, _, hfree⟩ := ha
    refine (I.hok b ob e).stay (fun c w' hc q => (hs.2 c ?_).trans q) (fun _ q => q) fun _ _ q => q
    rintro rfl
    rcases hc with rfl | hc
    · rw [hfree] at e; cases e
    · rw [hfree] at hc; cases hc
  rcases hx with hk | hk
  · refine wpAny_storeName_local hk hn (fun h' hn' hs => ?_) hcls
    obtain ⟨oL, _, _, hoL, _⟩ := id hn
    refine h _ ⟨I.ok, I.os, I.bare, ⟨fun b o e n hb hx => ?_, fun b o e n hb hx => ?_, I.base.free, fun b o e hx => ?_, I.base.tups, I.base.frzs, I.base.tbls⟩, ⟨_, hn', fun j y v' e1 e2 e3 => ?_⟩, fun y c e => ?_, I.free, I.freeC, fun p hp => ?_, tracked ⟨oL, hoL, I.free⟩ hs, by simpa using I.len⟩ ⟨_, hs, .inl rfl⟩
    · exact (hs.2 b (Nat.ne_of_lt (Nat.lt_of_lt_of_le (Heap.lt_size e) I.ok.above))).trans (I.base.keep b o e n hb hx)
    · obtain ⟨sl, e1⟩ := I.base.slot b o e n hb hx
      exact ⟨sl, (hs.2 b (Nat.ne_of_lt (Nat.lt_of_lt_of_le (Heap.lt_size e) I.ok.above))).trans e1⟩
    · obtain ⟨o', e1⟩ := I.base.there b o e hx
      exact ⟨o', (hs.2 b (Nat.ne_of_lt (Nat.lt_of_lt_of_le (Heap.lt_size e) I.ok.above))).trans e1⟩
    · by_cases hj : j = i
      · subst hj
        rw [hi] at e1; cases e1
        rw [List.getElem?_set_self hiσ] at e2
        cases e2
        exact ⟨u, r, .inl ⟨hk, by simp⟩⟩
      · rw [List.getElem?_set_ne (Ne.symm hj)] at e2
        obtain ⟨u', r', q⟩ := hl j y v' e1 e2 e3
        refine ⟨u', r', ?_⟩
        rcases q with ⟨k, e⟩ | ⟨k, c, e, z⟩
        · refine .inl ⟨k, ?_⟩
          have : y ≠ x := fun e => hj (nodup_ix hN e1 (e ▸ hi))
          simp [this, e]
        · exact .inr ⟨k, c, e, z.sameBut hs (cne y c e)⟩
    · obtain ⟨w', z⟩ := I.cell y c e
      exact ⟨w', z.sameBut hs (cne y c e)⟩
    · obtain ⟨e, n, ne, nf, d⟩ := I.pin p hp
      exact ⟨(hs.2 p.1 ne).trans e, n, ne, nf, d⟩
  · have hfn : X.fn x = true := by
      rcases hf with z | z
      · exact z
      · rw [z] at hk; cases hk
    obtain ⟨c, hc⟩ := I.ok.has x (.inl hk)
    obtain ⟨w', z⟩ := I.cell x c hc
    refine wpAny_storeName_cell I.ok.kind hk hc z (fun h' hc' hs => ?_)
    obtain ⟨oc, hoc, hocd⟩ := id z
    refine h { s with heap := h' } ⟨I.ok, I.os, I.bare, ⟨fun b o e n hb hx => ?_, fun b o e n hb hx => ?_, I.base.free, fun b o e hx => ?_, I.base.tups, I.base.frzs, I.base.tbls⟩, ⟨m, hn.sameBut hs (Ne.symm (cne x c hc)), fun j y v' e1 e2 e3 => ?_⟩, fun y c' e => ?_, I.free, I.freeC, fun p hp => ?_, tracked ⟨oc, hoc, I.freeC x c hc⟩ hs, by simpa using I.len⟩ ⟨c, hs, .inr hc⟩
    · exact (hs.2 b (Nat.ne_of_lt (Nat.lt_of_lt_of_le (Heap.lt_size e) (I.ok.cab x c hfn hc)))).trans (I.base.keep b o e n hb hx)
    · obtain ⟨sl, e1⟩ := I.base.slot b o e n hb hx
      exact ⟨sl, (hs.2 b (Nat.ne_of_lt (Nat.lt_of_lt_of_le (Heap.lt_size e) (I.ok.cab x c hfn hc)))).trans e1⟩
    · obtain ⟨o', e1⟩ := I.base.there b o e hx
      exact ⟨o', (hs.2 b (Nat.ne_of_lt (Nat.lt_of_lt_of_le (Heap.lt_size e) (I.ok.cab x c hfn hc)))).trans e1⟩
    · by_cases hj : j = i
      · subst hj
        rw [hi] at e1; cases e1
        rw [List.getElem?_set_self hiσ] at e2
        cases e2
        exact ⟨u, r, .inr ⟨.inl hk, c, hc, hc'⟩⟩
      · rw [List.getElem?_set_ne (Ne.symm hj)] at e2
        obtain ⟨u', r', q⟩ := hl j y v' e1 e2 e3
        refine ⟨u', r', ?_⟩
        rcases q with q | ⟨k, c', e, z'⟩
        · exact .inl q
        · refine .inr ⟨k, c', e, z'.sameBut hs ?_⟩
          rintro rfl
          exact hj (nodup_ix hN e1 (I.ok.inj _ _ _ e hc ▸ hi))
    · by_cases hcc : c' = c
      · subst hcc; exact ⟨_, hc'⟩
      · obtain ⟨w2, z2⟩ := I.cell y c' e
        exact ⟨w2, z2.sameBut hs hcc⟩
    · obtain ⟨e, n, ne, nf, d⟩ := I.pin p hp
      refine ⟨(hs.2 p.1 ?_).trans e, n, ne, nf, d⟩
      intro q
      rw [q, hoc] at e
      have q' : oc = p.2 := Option.some.inj e
      exact d w' (by rw [← q']; exact hocd)
theorem store_ok {M : Model} {A : Around} {E : Value → Shared → Prop} {i : Nat} {x : Str} {v : V} {u : Value} {Q : Unit → Shared → Prop} (I : Inv X pins σ H s) (hN : X.N.Nodup) (hi : X.N[i]? = some x) (hx : Loc X.env.scope x) (r : RelV v u)
    (h : ∀ s', Inv X pins (σ.set i (some v)) H s' → Q () s') (hf : X.fn x = true ∨ X.env.scope.names.lookup x = some .local := by first | exact .inl rfl | exact .inr rfl | assumption) : wpAny M A (storeName X.env x u) Q E s :=
  store_ok2 I hN hi hx r (fun s' I' _ => h s' I') hf
/-- behind a call or a block, the state as it is -/
theorem Inv.call' {s' : Shared} {ch : List Addr} (I : Inv X pins σ H s) (ho : s'.os = s.os) (u : Un (frs X.stack) ch H H' s.heap s'.heap) (hok : HOk X.prog X.w H' s'.heap) (hg : AllBare s'.gens)
    (hch : ∀ b ∈ ch, (b ∈ X.ex ∨ X.s₀.heap.objs.size ≤ b) ∧ b ≠ X.env.locals ∧ (∀ x c, X.env.cells.lookup x = some c → c ≠ b) ∧ ∀ p ∈ X.pn ++ pins, p.1 ≠ b) : Inv X pins σ H' s' := by
  obtain ⟨h', g', d', t', o'⟩ := s'
  have e : o' = s.os := ho
  subst e
  exact I.call (g' := g') (t' := t') (d' := d') u hok hg hch
end

/-! ### the judgements -/
/-- an exception: its class, its own dict's address (where it has one), the abstract heap behind it -/
abbrev XK := Value → Option Addr → Hp → Prop
abbrev St := List (Option V)
abbrev VK := V → Hp → Prop
/-- an expression's reading; a test's; an argument list's -/
abbrev TE := St → Hp → VK → Prop
abbrev TT := St → Hp → (Bool → Hp → Prop) → Prop
abbrev TA := St → Hp → (List V → Hp → Prop) → Prop
/-- what is wanted behind a statement -/
structure Ends where
  nx : St → Hp → Prop
  rt : VK
  bk : St → Hp → Prop := fun _ _ => False
  ct : St → Hp → Prop := fun _ _ => False
abbrev TS := Ends → St → Hp → Prop

def EP (X : Cx) (pins : List (Addr × Obj)) (σ : St) (Q : VK) (u : Value) (s' : Shared) : Prop := ∃ v H', Inv X pins σ H' s' ∧ RelV v u ∧ Q v H'
def TP (X : Cx) (pins : List (Addr × Obj)) (σ : St) (Q : Bool → Hp → Prop) (b : Bool) (s' : Shared) : Prop := ∃ H', Inv X pins σ H' s' ∧ Q b H'
def AP (X : Cx) (pins : List (Addr × Obj)) (σ : St) (Q : List V → Hp → Prop) (us : List Value) (s' : Shared) : Prop := ∃ vs H', Inv X pins σ H' s' ∧ Vals vs us ∧ Q vs H'
def SP (X : Cx) (pins : List (Addr × Obj)) (D : Ends) (f : Flow) (s' : Shared) : Prop :=
  match f with
  | .next => ∃ σ' H', Inv X pins σ' H' s' ∧ D.nx σ' H'
  | .brk => ∃ σ' H', Inv X pins σ' H' s' ∧ D.bk σ' H'
  | .cont => ∃ σ' H', Inv X pins σ' H' s' ∧ D.ct σ' H'
  | .ret u => ∃ v σ' H', Inv X pins σ' H' s' ∧ RelV v u ∧ D.rt v H'

def PE (X : Cx) (e : Expr) (t : TE) : Prop :=
  ∀ (pins : List (Addr × Obj)) (s : Shared) (σ : St) (H : Hp) (Q : VK), Inv X pins σ H s → t σ H Q → wpAny (model X.prog X.w) X.A (eval e X.env) (EP X pins σ Q) X.xe s
def PT (X : Cx) (e : Expr) (t : TT) : Prop :=
  ∀ (pins : List (Addr × Obj)) (s : Shared) (σ : St) (H : Hp) (Q : Bool → Hp → Prop), Inv X pins σ H s → t σ H Q → wpAny (model X.prog X.w) X.A (isTrue e X.env (eval e X.env)) (TP X pins σ Q) X.xe s
/-- a test whatever its 'whole' is (and, or) -/
def PW (X : Cx) (e : Expr) (t : TT) : Prop :=
  ∀ (whole : Sem Value) (pins : List (Addr × Obj)) (s : Shared) (σ : St) (H : Hp) (Q : Bool → Hp → Prop), Inv X pins σ H s → t σ H Q → wpAny (model X.prog X.w) X.A (isTrue e X.env whole) (TP X pins σ Q) X.xe s
theorem PW.pt {X : Cx} {e : Expr} {t : TT} (h : PW X e t) : PT X e t := h _
/-- an argument list (no star), from the left -/
def PA (X : Cx) (es : List Expr) (t : TA) : Prop :=
  ∀ (pos : Pos) (pins : List (Addr × Obj)) (s : Shared) (σ : St) (H : Hp) (Q : List V → Hp → Prop), Inv X pins σ H s → t σ H Q → wpAny (model X.prog X.w) X.A (spliced (backTo pos (starEach es X.env))) (AP X pins σ Q) X.xe s
def PS (X : Cx) (st : Stmt) (t : TS) : Prop :=
  ∀ (pins : List (Addr × Obj)) (s : Shared) (σ : St) (H : Hp) (D : Ends), Inv X pins σ H s → t D σ H → wpAny (model X.prog X.w) X.A (exec st X.env) (SP X pins D) X.xe s
def PSs (X : Cx) (st : List Stmt) (t : TS) : Prop :=
  ∀ (pins : List (Addr × Obj)) (s : Shared) (σ : St) (H : Hp) (D : Ends), Inv X pins σ H s → t D σ H → wpAny (model X.prog X.w) X.A (execs st X.env) (SP X pins D) X.xe s
/-- weaken the end -/
theorem thn {α : Type} {t : Sem α} {Q Q' : α → Shared → Prop} {M : Model} {A : Around} {E : Value → Shared → Prop} {s : Shared} (h : wpAny M A t Q E s) (hQ : ∀ a s, Q a s → Q' a s) : wpAny M A t Q' E s := wpAny_mono h hQ fun _ _ x => x
end L2

namespace L2
open PySem PySem.Spec PyProof.Rows
section
variable {X : Cx}

/-- two expressions in a row -/
theorem bin {a b : Expr} {ta tb : TE} (ha : PE X a ta) (hb : PE X b tb) {pins : List (Addr × Obj)} {s : Shared} {σ : St} {H : Hp} {R : V → V → Hp → Prop} (I : Inv X pins σ H s) (h : ta σ H fun x H1 => tb σ H1 fun y H2 => R x y H2)
    {α : Type} {Q : α → Shared → Prop} {f : Value → Value → Sem α}
    (hf : ∀ v u s2 x y H2, Inv X pins σ H2 s2 → RelV x v → RelV y u → R x y H2 → wpAny (model X.prog X.w) X.A (f v u) Q X.xe s2) :
    wpAny (model X.prog X.w) X.A (eval a X.env) (fun v s₁ => wpAny (model X.prog X.w) X.A (eval b X.env) (fun u s₂ => wpAny (model X.prog X.w) X.A (f v u) Q X.xe s₂) X.xe s₁) X.xe s := by
  refine thn (ha pins s σ H _ I h) fun v s1 ⟨x, H1, I1, r1, q1⟩ => ?_
  refine thn (hb pins s1 σ H1 _ I1 q1) fun u s2 ⟨y, H2, I2, r2, q2⟩ => ?_
  exact hf v u s2 x y H2 I2 r1 r2 q2

/-! ### names and constants -/
def tVar (i : Nat) : TE := fun σ H Q => ∃ v, σ[i]? = some (some v) ∧ Q v H
def tC (v : V) : TE := fun _ H Q => Q v H
theorem pe_var {i : Nat} {x : Str} {pos : Pos} (hN : X.N[i]? = some x) (hv : Vis X.env.scope x) (hd : (x == ("__debug__" : Str)) = false := by decide) (hcd : (x == ("__classdict__" : Str)) = false := by decide) : PE X (.Name x pos) (tVar i) := by
  intro pins s σ H Q I h
  obtain ⟨v, e, h⟩ := h
  obtain ⟨m, hn, hl⟩ := I.loc
  obtain ⟨u, r, l⟩ := hl i x v hN e hv
  have fin : EP X pins σ Q u s := ⟨v, H, I, r, h⟩
  rcases l with ⟨hk, hm⟩ | ⟨hk, c, hc, hcell⟩
  · exact wpAny_Name (wpAny_loadName_local I.ok.kind hk hn hm fin) hd
  · rcases hk with hk | hk
    · exact wpAny_Name (wpAny_loadName_cell I.ok.kind hk hc hcell fin) hd
    · exact wpAny_Name (wpAny_loadName_free I.ok.kind hk hc hcell fin hcd) hd
theorem pe_int {i j pos} : PE X (.Constant (.int i) j pos) (tC (.int i)) := fun _ _ _ H _ I h => wpAny_Constant_int ⟨.int i, H, I.tok _, ⟨_, rfl⟩, h⟩
theorem pe_bl {b j pos} : PE X (.Constant (.bool b) j pos) (tC (.bl b)) := fun _ _ _ H _ I h => Constant_bool ⟨.bl b, H, I, rfl, h⟩
theorem pe_non {j pos} : PE X (.Constant .none j pos) (tC .non) := fun _ _ _ H _ I h => Constant_none ⟨.non, H, I, rfl, h⟩
theorem pe_str {x j pos} : PE X (.Constant (.str x) j pos) (tC (.str x)) := fun _ _ _ H _ I h => Calls.Constant_str ⟨.str x, H, I.tok _, ⟨_, rfl⟩, h⟩

/-- a global name of the def -/
def Gl (X : Cx) (x : Str) : Prop := X.env.kindOf x = some .globalImplicit
theorem ld_glob {E : Value → Shared → Prop} {pins : List (Addr × Obj)} {s : Shared} {σ : St} {H : Hp} {x : Str} {u : Value} {pos : Pos} {Q : Value → Shared → Prop} (I : Inv X pins σ H s) (hg : Gl X x) (hm : X.mg x = some u) (h : Q u s)
    (hd : (x == ("__debug__" : Str)) = false := by decide) : wpAny (model X.prog X.w) X.A (eval (.Name x pos) X.env) Q E s :=
  Calls.Name_function_global I.ok.kind hg (Calls.loadGlobal_global (by rw [I.ok.glob]; exact I.mod.glob.keeps I.bk) hm h) hd
theorem ld_blt {E : Value → Shared → Prop} {pins : List (Addr × Obj)} {s : Shared} {σ : St} {H : Hp} {x : Str} {u : Value} {pos : Pos} {Q : Value → Shared → Prop} (I : Inv X pins σ H s) (hg : Gl X x) (hm : X.mg x = none) (hv : bootBuiltins x = some u) (h : Q u s)
    (hn : x ≠ "__name__" := by decide) (hd : (x == ("__debug__" : Str)) = false := by decide) : wpAny (model X.prog X.w) X.A (eval (.Name x pos) X.env) Q E s := by
  obtain ⟨mb, h1, h2⟩ := I.mod.blt
  exact Calls.Name_function_global I.ok.kind hg (Calls.loadGlobal_builtin (by rw [I.ok.glob]; exact I.mod.glob.keeps I.bk) hm (by rw [I.ok.blt]; exact h1.keeps I.bk) ((h2 x hn).trans hv) h) hd
/-- a module's constant, a class, a function, as a value -/
theorem pe_glob {x : Str} {v : V} {u : Value} {pos : Pos} (hg : Gl X x) (hm : X.mg x = some u) (r : RelV v u) (hd : (x == ("__debug__" : Str)) = false := by decide) : PE X (.Name x pos) (tC v) :=
  fun _ _ _ H _ I h => ld_glob I hg hm ⟨v, H, I, r, h⟩ hd
theorem pe_bltn {x : Str} {v : V} {u : Value} {pos : Pos} (hg : Gl X x) (hm : X.mg x = none) (hv : bootBuiltins x = some u) (r : RelV v u) (hn : x ≠ "__name__" := by decide) (hd : (x == ("__debug__" : Str)) = false := by decide) : PE X (.Name x pos) (tC v) :=
  fun _ _ _ H _ I h => ld_blt I hg hm hv ⟨v, H, I, r, h⟩ hn hd

/-! ### arithmetic -/
/-- two ints -/
def t2I (ta tb : TE) (k : Int → Int → Hp → Prop) : St → Hp → Prop := fun σ H => ta σ H fun x H1 => tb σ H1 fun y H2 => ∃ i j, x = .int i ∧ y = .int j ∧ k i j H2
def tAdd (ta tb : TE) : TE := fun σ H Q => t2I ta tb (fun i j H2 => Q (.int (i + j)) H2) σ H
def tSub (ta tb : TE) : TE := fun σ H Q => t2I ta tb (fun i j H2 => Q (.int (i - j)) H2) σ H
/-- the left factor below 2^64 -/
def tMul (ta tb : TE) : TE := fun σ H Q => t2I ta tb (fun i j H2 => (-(2 ^ 64) < i ∧ i < 2 ^ 64) ∧ Q (.int (i * j)) H2) σ H
variable {a b : Expr} {ta tb : TE} {pos : Pos}
theorem pe_add (ha : PE X a ta) (hb : PE X b tb) : PE X (.BinOp a .Add b pos) (tAdd ta tb) := by
  intro pins s σ H Q I h
  refine wpAny_BinOp (bin ha hb I h fun v u s2 x y H2 I2 rx ry q => ?_)
  obtain ⟨i, j, rfl, rfl, q⟩ := q
  obtain ⟨t, rfl⟩ := rx
  obtain ⟨t', rfl⟩ := ry
  exact add_int ⟨.int _, H2, I2.tok _, ⟨_, rfl⟩, q⟩
theorem pe_sub (ha : PE X a ta) (hb : PE X b tb) : PE X (.BinOp a .Sub b pos) (tSub ta tb) := by
  intro pins s σ H Q I h
  refine wpAny_BinOp (bin ha hb I h fun v u s2 x y H2 I2 rx ry q => ?_)
  obtain ⟨i, j, rfl, rfl, q⟩ := q
  obtain ⟨t, rfl⟩ := rx
  obtain ⟨t', rfl⟩ := ry
  exact sub_int ⟨.int _, H2, I2.tok _, ⟨_, rfl⟩, q⟩
theorem pe_mul (ha : PE X a ta) (hb : PE X b tb) : PE X (.BinOp a .Mult b pos) (tMul ta tb) := by
  intro pins s σ H Q I h
  refine wpAny_BinOp (bin ha hb I h fun v u s2 x y H2 I2 rx ry q => ?_)
  obtain ⟨i, j, rfl, rfl, ⟨q1, q2⟩, q⟩ := q
  obtain ⟨t, rfl⟩ := rx
  obtain ⟨t', rfl⟩ := ry
  exact mul_int ⟨.int _, H2, I2.tok _, ⟨_, rfl⟩, q⟩ (.of_left (intBits_le_64 q1 q2))

/-! ### comparisons -/
def PC (X : Cx) (op : CmpOp) (a b : Expr) (t : TE) : Prop :=
  ∀ (pins : List (Addr × Obj)) (s : Shared) (σ : St) (H : Hp) (Q : VK), Inv X pins σ H s → t σ H Q →
    wpAny (model X.prog X.w) X.A (eval a X.env) (fun v s₁ => wpAny (model X.prog X.w) X.A (eval b X.env) (fun u s₂ => wpAny (model X.prog X.w) X.A (compareOp op v u) (EP X pins σ Q) X.xe s₂) X.xe s₁) X.xe s
theorem nobehind (b : Expr) {op : CmpOp} (h : op ≠ .In) (h2 : op ≠ .NotIn) : behindInMarks op b = false := by
  have e1 : (op == CmpOp.In) = false := by cases op <;> first | rfl | exact absurd rfl h
  have e2 : (op == CmpOp.NotIn) = false := by cases op <;> first | rfl | exact absurd rfl h2
  cases b <;> simp [behindInMarks, e1, e2]
def tCmp (p : Int → Int → Bool) (ta tb : TE) : TE := fun σ H Q => t2I ta tb (fun i j H2 => Q (.bl (p i j)) H2) σ H
abbrev tLt : TE → TE → TE := tCmp fun i j => decide (i < j)
abbrev tLe : TE → TE → TE := tCmp fun i j => decide (i ≤ j)
abbrev tGt : TE → TE → TE := tCmp fun i j => decide (j < i)
abbrev tGe : TE → TE → TE := tCmp fun i j => decide (j ≤ i)
abbrev tEqI : TE → TE → TE := tCmp fun i j => decide (i = j)
abbrev tNeI : TE → TE → TE := tCmp fun i j => !decide (i = j)
/-- a comparison of two ints, by its rule -/
theorem pc_int {op : CmpOp} {p : Int → Int → Bool} (ha : PE X a ta) (hb : PE X b tb)
    (rule : ∀ (i j : Int) (t u : Tok) (Q : Value → Shared → Prop) (s : Shared), Q (.bool (p i j)) s → wpAny (model X.prog X.w) X.A (compareOp op (.int i t) (.int j u)) Q X.xe s) : PC X op a b (tCmp p ta tb) := by
  intro pins s σ H Q I h
  refine bin ha hb I h fun v u s2 x y H2 I2 rx ry q => ?_
  obtain ⟨i, j, rfl, rfl, q⟩ := q
  obtain ⟨t, rfl⟩ := rx
  obtain ⟨t', rfl⟩ := ry
  exact rule i j t t' _ s2 ⟨.bl _, H2, I2, rfl, q⟩
theorem pc_lt (ha : PE X a ta) (hb : PE X b tb) : PC X .Lt a b (tLt ta tb) := pc_int ha hb fun _ _ _ _ _ _ h => lt_int h
theorem pc_le (ha : PE X a ta) (hb : PE X b tb) : PC X .LtE a b (tLe ta tb) := pc_int ha hb fun _ _ _ _ _ _ h => le_int h
theorem pc_gt (ha : PE X a ta) (hb : PE X b tb) : PC X .Gt a b (tGt ta tb) := pc_int ha hb fun _ _ _ _ _ _ h => gt_int h
theorem pc_ge (ha : PE X a ta) (hb : PE X b tb) : PC X .GtE a b (tGe ta tb) := pc_int ha hb fun _ _ _ _ _ _ h => ge_int h
theorem pc_eqI (ha : PE X a ta) (hb : PE X b tb) : PC X .Eq a b (tEqI ta tb) := pc_int ha hb fun _ _ _ _ _ _ h => eq_int (by rw [Bool.beq_eq_decide_eq]; exact h)
theorem pc_neI (ha : PE X a ta) (hb : PE X b tb) : PC X .NotEq a b (tNeI ta tb) := pc_int ha hb fun _ _ _ _ _ _ h => ne_int (by rw [bne, Bool.beq_eq_decide_eq]; exact h)
/-- is None -/
def tIsN (ta : TE) : TE := fun σ H Q => ta σ H fun x H1 => Q (.bl (decide (x = .non))) H1
def tNotN (ta : TE) : TE := fun σ H Q => ta σ H fun x H1 => Q (.bl (!decide (x = .non))) H1
theorem RelV.none_iff {x : V} {v : Value} (r : RelV x v) : (v == Value.none) = decide (x = .non) := by
  cases x with
  | non => cases r; rfl
  | bl _ => cases r; rfl
  | int _ => obtain ⟨t, rfl⟩ := r; rfl
  | str _ => obtain ⟨t, rfl⟩ := r; rfl
  | byt _ => obtain ⟨t, rfl⟩ := r; rfl
  | flt _ => obtain ⟨t, rfl⟩ := r; rfl
  | ref _ => cases r; rfl
  | ty _ => cases r; rfl
theorem pc_isN {j pos'} (ha : PE X a ta) : PC X .Is a (.Constant .none j pos') (tIsN ta) := by
  intro pins s σ H Q I h
  refine thn (ha pins s σ H _ I h) fun v s1 ⟨x, H1, I1, r1, q1⟩ => ?_
  exact Constant_none (is_none_gen ⟨.bl _, H1, I1, by rw [r1.none_iff]; rfl, q1⟩)
theorem pc_notN {j pos'} (ha : PE X a ta) : PC X .IsNot a (.Constant .none j pos') (tNotN ta) := by
  intro pins s σ H Q I h
  refine thn (ha pins s σ H _ I h) fun v s1 ⟨x, H1, I1, r1, q1⟩ => ?_
  exact Constant_none (isnot_none_gen ⟨.bl _, H1, I1, by rw [r1.none_iff]; rfl, q1⟩)
/-- a comparison as a value, as a test -/
def tB (t : TE) : TT := fun σ H Q => t σ H fun x H1 => ∃ c, x = .bl c ∧ Q c H1
theorem pe_cmp {op : CmpOp} {t : TE} (h : PC X op a b t) (h1 : behindInMarks op b = false := by first | exact nobehind _ (by decide) (by decide) | rfl) : PE X (.Compare a [op] [b] pos) t := fun pins s σ H Q I hw => wpAny_Compare1 (h pins s σ H Q I hw) h1
theorem pt_cmp {op : CmpOp} {t : TE} (h : PC X op a b t) (h1 : behindInMarks op b = false := by first | exact nobehind _ (by decide) (by decide) | rfl) : PT X (.Compare a [op] [b] pos) (tB t) := by
  intro pins s σ H Q I hw
  refine wpAny_isTrue_Compare1 (thn (h pins s σ H _ I hw) fun v s1 h1 => thn h1 fun u s2 h2 => thn h2 fun c s3 ⟨x, H1, I1, r1, q1⟩ => ?_) h1
  obtain ⟨d, rfl, q⟩ := q1
  cases r1
  exact wpAny_truthy_bool ⟨H1, I1, q⟩
/-- an expression whose value is a bool, as a test -/
theorem pt_val {e : Expr} {t : TE} (h : PE X e t) (he : ∀ whole, isTrue e X.env whole = (do let v ← whole; standAt e.pos; holding [v] (truthy v)) := by intro _; rfl) : PT X e (tB t) := by
  intro pins s σ H Q I hw
  refine isTrue_plain (thn (h pins s σ H _ I hw) fun v s1 ⟨x, H1, I1, r1, q1⟩ => ?_) (he _)
  obtain ⟨d, rfl, q⟩ := q1
  cases r1
  exact wpAny_truthy_bool ⟨H1, I1, q⟩

/-! ### and, or, not -/
variable {tA tB' : TT} {rest : List Expr}
def tAnd (t u : TT) : TT := fun σ H Q => t σ H fun c H1 => if c = true then u σ H1 Q else Q false H1
def tOr (t u : TT) : TT := fun σ H Q => t σ H fun c H1 => if c = true then Q true H1 else u σ H1 Q
def tNot (t : TT) : TT := fun σ H Q => t σ H fun c H1 => Q (!c) H1
theorem pw_and1 (ha : PT X a tA) : PW X (.BoolOp .And [a] pos) tA := by
  intro wh pins s σ H Q I h
  refine isTrue_and (thn (ha pins s σ H Q I h) fun c s1 e => ?_)
  cases c with
  | true => exact isTrue_and_nil e
  | false => exact e
theorem pw_or1 (ha : PT X a tA) : PW X (.BoolOp .Or [a] pos) tA := by
  intro wh pins s σ H Q I h
  refine isTrue_or (thn (ha pins s σ H Q I h) fun c s1 e => ?_)
  cases c with
  | false => exact isTrue_or_nil e
  | true => exact e
theorem pw_and (ha : PT X a tA) (hb : PW X (.BoolOp .And (b :: rest) pos) tB') : PW X (.BoolOp .And (a :: b :: rest) pos) (tAnd tA tB') := by
  intro wh pins s σ H Q I h
  refine isTrue_and (thn (ha pins s σ H _ I h) fun c s1 ⟨H1, I1, q1⟩ => ?_)
  cases c with
  | true => exact hb wh pins s1 σ H1 Q I1 q1
  | false => exact ⟨H1, I1, q1⟩
theorem pw_or (ha : PT X a tA) (hb : PW X (.BoolOp .Or (b :: rest) pos) tB') : PW X (.BoolOp .Or (a :: b :: rest) pos) (tOr tA tB') := by
  intro wh pins s σ H Q I h
  refine isTrue_or (thn (ha pins s σ H _ I h) fun c s1 ⟨H1, I1, q1⟩ => ?_)
  cases c with
  | true => exact ⟨H1, I1, q1⟩
  | false => exact hb wh pins s1 σ H1 Q I1 q1
theorem pt_not (ha : PT X a tA) : PT X (.UnaryOp .Not a pos) (tNot tA) := by
  intro pins s σ H Q I h
  exact isTrue_not (ha pins s σ H (fun c H1 => Q (!c) H1) I h)
/-- .. as values (bools) -/
def tAndV (ta tb : TE) : TE := fun σ H Q => ta σ H fun x H1 => ∃ c, x = .bl c ∧ if c = true then tb σ H1 Q else Q (.bl false) H1
def tOrV (ta tb : TE) : TE := fun σ H Q => ta σ H fun x H1 => ∃ c, x = .bl c ∧ if c = true then Q (.bl true) H1 else tb σ H1 Q
def tNotV (ta : TE) : TE := fun σ H Q => ta σ H fun x H1 => ∃ c, x = .bl c ∧ Q (.bl (!c)) H1
theorem pe_one {op} {t : TE} (h : PE X a t) : PE X (.BoolOp op [a] pos) t := fun pins s σ H Q I hw => BoolOp_one (h pins s σ H Q I hw)
theorem pe_and (ha : PE X a ta) (hb : PE X (.BoolOp .And (b :: rest) pos) tb) : PE X (.BoolOp .And (a :: b :: rest) pos) (tAndV ta tb) := by
  intro pins s σ H Q I h
  refine BoolOp_and (thn (ha pins s σ H _ I h) fun v s1 ⟨x, H1, I1, r1, q1⟩ => ?_)
  obtain ⟨c, rfl, q1⟩ := q1
  cases r1
  refine wpAny_truthy_bool ?_
  cases c with
  | true => exact hb pins s1 σ H1 Q I1 q1
  | false => exact ⟨.bl false, H1, I1, rfl, q1⟩
theorem pe_or (ha : PE X a ta) (hb : PE X (.BoolOp .Or (b :: rest) pos) tb) : PE X (.BoolOp .Or (a :: b :: rest) pos) (tOrV ta tb) := by
  intro pins s σ H Q I h
  refine BoolOp_or (thn (ha pins s σ H _ I h) fun v s1 ⟨x, H1, I1, r1, q1⟩ => ?_)
  obtain ⟨c, rfl, q1⟩ := q1
  cases r1
  refine wpAny_truthy_bool ?_
  cases c with
  | false => exact hb pins s1 σ H1 Q I1 q1
  | true => exact ⟨.bl true, H1, I1, rfl, q1⟩
theorem pe_not (ha : PE X a ta) : PE X (.UnaryOp .Not a pos) (tNotV ta) := by
  intro pins s σ H Q I h
  refine UnaryOp_ (thn (ha pins s σ H _ I h) fun v s1 ⟨x, H1, I1, r1, q1⟩ => ?_)
  obtain ⟨c, rfl, q1⟩ := q1
  cases r1
  exact not_of (wpAny_truthy_bool ⟨.bl (!c), H1, I1, rfl, q1⟩)
/-- a if t else b -/
def tIf (t : TT) (ta tb : TE) : TE := fun σ H Q => t σ H fun c H1 => if c = true then ta σ H1 Q else tb σ H1 Q
theorem pe_ifExp {c : Expr} (hc : PT X c tA) (ha : PE X a ta) (hb : PE X b tb) : PE X (.IfExp c a b pos) (tIf tA ta tb) := by
  intro pins s σ H Q I h
  refine wpAny_IfExp (thn (hc pins s σ H _ I h) fun d s1 ⟨H1, I1, q1⟩ => ?_)
  cases d with
  | true => exact ha pins s1 σ H1 Q I1 q1
  | false => exact hb pins s1 σ H1 Q I1 q1
end
end L2

namespace L2
open PySem PySem.Spec PyProof.Rows

/-! ### a list, a tuple that is read: tracked, frozen, or an object of the module -/
def SqL (K : PySem.W.Frag) (H : Hp) (a : Addr) (xs : List V) : Prop :=
  Rd H a (.lst xs) ∨
    ∃ (o : Obj) (its : Array Value) (n : Nat), K.lookup a = some o ∧ o.cls = .type "list" ∧ o.dict = none ∧ o.data = .seq its n ∧ its.size ≤ sizeLine ∧ Vals xs its.toList
def SqT (K : PySem.W.Frag) (H : Hp) (a : Addr) (xs : List V) : Prop :=
  Rd H a (.tup xs) ∨
    ∃ (o : Obj) (its : Array Value) (n : Nat), K.lookup a = some o ∧ o.cls = .type "tuple" ∧ o.data = .seq its n ∧ its.size ≤ sizeLine ∧ Vals xs its.toList
def absV : Value → Option V
  | .none => some .non
  | .bool b => some (.bl b)
  | .int i _ => some (.int i)
  | .str x _ => some (.str x)
  | .bytes b _ => some (.byt b)
  | .float b _ => some (.flt b)
  | .ref a => some (.ref a)
  | .type n => some (.ty n)
  | _ => none
theorem RelV.abs {x : V} {u : Value} (r : RelV x u) : absV u = some x := by
  cases x with
  | non => cases r; rfl
  | bl _ => cases r; rfl
  | int _ => obtain ⟨t, rfl⟩ := r; rfl
  | str _ => obtain ⟨t, rfl⟩ := r; rfl
  | byt _ => obtain ⟨t, rfl⟩ := r; rfl
  | flt _ => obtain ⟨t, rfl⟩ := r; rfl
  | ref _ => cases r; rfl
  | ty _ => cases r; rfl
theorem RelV.inj {x y : V} {u : Value} (r : RelV x u) (q : RelV y u) : x = y := Option.some.inj (r.abs.symm.trans q.abs)
theorem Vals.inj : ∀ {xs ys : List V} {us : List Value}, Vals xs us → Vals ys us → xs = ys
  | _, _, _, .nil, .nil => rfl
  | _, _, _, .cons r t, .cons r' t' => by rw [r.inj r', Vals.inj t t']
section
variable {X : Cx} {pins : List (Addr × Obj)} {σ : St} {H : Hp} {s : Shared} {a : Addr} {xs ys : List V}
theorem SqL.of {K : PySem.W.Frag} (h : H a = some (.lst xs)) : SqL K H a xs := .inl (.inl h)
theorem SqT.of {K : PySem.W.Frag} (h : H a = some (.tup xs)) : SqT K H a xs := .inl (.inl h)
theorem Inv.list (I : Inv X pins σ H s) (h : SqL X.K H a xs) : ∃ its : List Value, Vals xs its ∧ PlainL s.heap a its.toArray ∧ xs.length ≤ sizeLine := by
  rcases h with h | ⟨o, its, n, hk, hc, hd, hs, hz, r⟩
  · obtain ⟨z, its, n, r, e⟩ := h.ok I.hok
    exact ⟨its, r, ⟨_, n, e, rfl, rfl, rfl⟩, z⟩
  · refine ⟨its.toList, r, ⟨o, n, I.kIn a o hk, hc, hd, by simpa using hs⟩, ?_⟩
    have e := r.length
    simp only [Array.length_toList] at e
    omega
theorem Inv.tuple (I : Inv X pins σ H s) (h : SqT X.K H a xs) : ∃ its : List Value, Vals xs its ∧ IsTup s.heap a its.toArray ∧ xs.length ≤ sizeLine := by
  rcases h with h | ⟨o, its, n, hk, hc, hs, hz, r⟩
  · obtain ⟨z, its, r, p⟩ := h.ok I.hok
    exact ⟨its, r, p, z⟩
  · refine ⟨its.toList, r, ⟨o, I.kIn a o hk, hc, n, by simpa using hs⟩, ?_⟩
    have e := r.length
    simp only [Array.length_toList] at e
    omega
theorem Inv.list_inj (I : Inv X pins σ H s) (h : SqL X.K H a xs) (h' : SqL X.K H a ys) : xs = ys := by
  obtain ⟨its, r, ⟨o, n, e, _, _, d⟩, _⟩ := I.list h
  obtain ⟨its', r', ⟨o', n', e', _, _, d'⟩, _⟩ := I.list h'
  rw [e] at e'; cases e'
  rw [d] at d'
  injection d' with d1 _
  have : its = its' := by simpa using congrArg Array.toList d1
  subst this
  exact r.inj r'
theorem Inv.tuple_inj (I : Inv X pins σ H s) (h : SqT X.K H a xs) (h' : SqT X.K H a ys) : xs = ys := by
  obtain ⟨its, r, ⟨o, e, _, n, d⟩, _⟩ := I.tuple h
  obtain ⟨its', r', ⟨o', e', _, n', d'⟩, _⟩ := I.tuple h'
  rw [e] at e'; cases e'
  rw [d] at d'
  injection d' with d1 _
  have : its = its' := by simpa using congrArg Array.toList d1
  subst this
  exact r.inj r'
end

/-! ### another wish about exceptions -/
abbrev Cx.wish (X : Cx) (E : Value → Shared → Prop) : Cx := { X with xe := E }
/-- no exception leaves -/
abbrev Cx.nox (X : Cx) : Cx := X.wish fun _ _ => False
theorem Cx.Ok.wish {X : Cx} (ok : X.Ok) (E : Value → Shared → Prop) : (X.wish E).Ok :=
  ⟨ok.mod, ok.kind, ok.glob, ok.blt, ok.above, ok.inj, ok.has, ok.cab, ok.hd, ok.frames, ok.stk, ok.exf, ok.bs, ok.bsz, ok.noex, ok.exfs, ok.funs, ok.frf⟩
theorem Cx.Ok.unwish {X : Cx} {E : Value → Shared → Prop} (ok : (X.wish E).Ok) : X.Ok :=
  ⟨ok.mod, ok.kind, ok.glob, ok.blt, ok.above, ok.inj, ok.has, ok.cab, ok.hd, ok.frames, ok.stk, ok.exf, ok.bs, ok.bsz, ok.noex, ok.exfs, ok.funs, ok.frf⟩
section
variable {X : Cx} {pins : List (Addr × Obj)} {σ : St} {H : Hp} {s : Shared} {E : Value → Shared → Prop}
theorem Inv.wish (I : Inv X pins σ H s) (E : Value → Shared → Prop) : Inv (X.wish E) pins σ H s := ⟨I.ok.wish E, I.os, I.bare, I.base, I.loc, I.cell, I.free, I.freeC, I.pin, I.hok, I.len⟩
theorem Inv.unwish (I : Inv (X.wish E) pins σ H s) : Inv X pins σ H s := ⟨I.ok.unwish, I.os, I.bare, I.base, I.loc, I.cell, I.free, I.freeC, I.pin, I.hok, I.len⟩
theorem SP.unwish {D : Ends} {f : Flow} {s' : Shared} (h : SP (X.wish E) pins D f s') : SP X pins D f s' := by
  cases f with
  | next => obtain ⟨σ', H', I, q⟩ := h; exact ⟨σ', H', I.unwish, q⟩
  | brk => obtain ⟨σ', H', I, q⟩ := h; exact ⟨σ', H', I.unwish, q⟩
  | cont => obtain ⟨σ', H', I, q⟩ := h; exact ⟨σ', H', I.unwish, q⟩
  | ret u => obtain ⟨v, σ', H', I, r, q⟩ := h; exact ⟨v, σ', H', I.unwish, r, q⟩
theorem PE.nox {e : Expr} {t : TE} (h : PE X.nox e t) : PE X e t := fun pins s σ H Q I hw =>
  wpAny_mono (h pins s σ H Q (I.wish _) hw) (fun _ _ ⟨v, H', I', r, q⟩ => ⟨v, H', I'.unwish, r, q⟩) fun _ _ z => False.elim z
theorem PT.nox {e : Expr} {t : TT} (h : PT X.nox e t) : PT X e t := fun pins s σ H Q I hw =>
  wpAny_mono (h pins s σ H Q (I.wish _) hw) (fun _ _ ⟨H', I', q⟩ => ⟨H', I'.unwish, q⟩) fun _ _ z => False.elim z
theorem PSs.nox {st : List Stmt} {t : TS} (h : PSs X.nox st t) : PSs X st t := fun pins s σ H D I hw =>
  wpAny_mono (h pins s σ H D (I.wish _) hw) (fun _ _ q => q.unwish) fun _ _ z => False.elim z
end

/-! ### blocks and small statements -/
section
variable {X : Cx} {st : Stmt} {rest : List Stmt} {t u : TS} {e : Expr} {te : TE} {pos : Pos}
def tNext : TS := fun D σ H => D.nx σ H
def tSeq (t u : TS) : TS := fun D σ H => t { D with nx := u D } σ H
theorem pss_nil : PSs X [] tNext := fun _ _ σ H _ I h => wpAny_execs_nil ⟨σ, H, I, h⟩
theorem pss_cons (h1 : PS X st t) (h2 : PSs X rest u) : PSs X (st :: rest) (tSeq t u) := by
  intro pins s σ H D I h
  refine wpAny_execs_cons (thn (h1 pins s σ H { D with nx := u D } I h) fun f s1 q => ?_)
  cases f with
  | next =>
    obtain ⟨σ', H', I', q⟩ := q
    exact h2 pins s1 σ' H' D I' q
  | ret v => exact q
  | brk => exact q
  | cont => exact q
theorem pss_one (h1 : PS X st t) : PSs X [st] t := by
  intro pins s σ H D I h
  refine wpAny_execs_cons (thn (h1 pins s σ H D I h) fun f s1 q => ?_)
  cases f with
  | next => exact wpAny_execs_nil q
  | ret v => exact q
  | brk => exact q
  | cont => exact q
def tBreak : TS := fun D σ H => D.bk σ H
def tCont : TS := fun D σ H => D.ct σ H
theorem ps_pass : PS X (.Pass pos) tNext := fun _ _ σ H _ I h => wpAny_Pass ⟨σ, H, I, h⟩
theorem ps_break : PS X (.Break pos) tBreak := fun _ _ σ H _ I h => wpAny_Break ⟨σ, H, I, h⟩
theorem ps_continue : PS X (.Continue pos) tCont := fun _ _ σ H _ I h => wpAny_Continue ⟨σ, H, I, h⟩
/-- in a def's body nothing is shown -/
theorem Inv.quiet {pins : List (Addr × Obj)} {σ : St} {H : Hp} {s : Shared} (I : Inv X pins σ H s) : interactive X.env = false := by simp [interactive, I.ok.kind]
/-- a docstring -/
theorem ps_doc {x j pos pos'} : PS X (.Expr (.Constant (.str x) j pos) pos') tNext := fun _ s σ H _ I h => wpAny_Expr (Calls.Constant_str (show SP X _ _ .next { s with toks := s.toks + 1 } from ⟨σ, H, I.tok _, h⟩)) I.quiet
/-- an expression whose value is dropped -/
def tDrop (te : TE) : TS := fun D σ H => te σ H fun _ H1 => D.nx σ H1
theorem ps_expr (he : PE X e te) (hs : swapsWith e none pos.line X.env = pure false := by rfl) : PS X (.Expr e pos) (tDrop te) := by
  intro pins s σ H D I h
  exact wpAny_Expr_any (thn (he pins s σ H _ I h) fun v s1 ⟨x, H1, I1, r1, q1⟩ => ⟨σ, H1, I1, q1⟩) I.quiet hs
def tRet (te : TE) : TS := fun D σ H => te σ H D.rt
theorem ps_ret (he : PE X e te) : PS X (.Return (some e) pos) (tRet te) := by
  intro pins s σ H D I h
  exact wpAny_Return_some (thn (he pins s σ H _ I h) fun v s1 ⟨x, H1, I1, r1, q1⟩ => ⟨x, σ, H1, I1, r1, q1⟩)
def tRetN : TS := fun D _ H => D.rt .non H
theorem ps_retN : PS X (.Return none pos) tRetN := fun _ _ σ H _ I h => wpAny_Return_none ⟨.non, σ, H, I, rfl, h⟩
def tIfS (c : TT) (t u : TS) : TS := fun D σ H => c σ H fun b H1 => if b = true then t D σ H1 else u D σ H1
theorem ps_if {c : Expr} {a b : List Stmt} {tc : TT} (hc : PT X c tc) (ha : PSs X a t) (hb : PSs X b u) : PS X (.If c a b pos) (tIfS tc t u) := by
  intro pins s σ H D I h
  refine wpAny_If (thn (hc pins s σ H _ I h) fun d s1 ⟨H1, I1, q1⟩ => ?_)
  cases d with
  | true => exact ha pins s1 σ H1 D I1 q1
  | false => exact hb pins s1 σ H1 D I1 q1
/-- code that the proof never comes to -/
def tNever : TS := fun _ _ _ => False
theorem ps_never : PS X st tNever := fun _ _ _ _ _ _ h => h.elim
theorem pss_never {sts : List Stmt} : PSs X sts tNever := fun _ _ _ _ _ _ h => h.elim
end

/-! ### targets -/
abbrev TG := V → St → Hp → (St → Hp → Prop) → Prop
abbrev TGs := List V → St → Hp → (St → Hp → Prop) → Prop
def PG (X : Cx) (target : Expr) (t : TG) : Prop :=
  ∀ (pins : List (Addr × Obj)) (s : Shared) (σ : St) (H : Hp) (v : V) (u : Value) (Q : St → Hp → Prop), Inv X pins σ H s → RelV v u → t v σ H Q →
    wpAny (model X.prog X.w) X.A (assign target X.env u) (fun _ s' => ∃ σ' H', Inv X pins σ' H' s' ∧ Q σ' H') X.xe s
/-- several targets, one after another -/
def PGs (X : Cx) (ts : List Expr) (t : TGs) : Prop :=
  ∀ (pins : List (Addr × Obj)) (s : Shared) (σ : St) (H : Hp) (vs : List V) (us : List Value) (Q : St → Hp → Prop), Inv X pins σ H s → Vals vs us → t vs σ H Q →
    wpAny (model X.prog X.w) X.A (assignInOrder ((assignEach ts X.env).map (·.2)) us) (fun _ s' => ∃ σ' H', Inv X pins σ' H' s' ∧ Q σ' H') X.xe s
/-- o[i] = v, by values -/
abbrev TSet := V → V → V → Hp → (Hp → Prop) → Prop
def PSet (X : Cx) (t : TSet) : Prop :=
  ∀ (pins : List (Addr × Obj)) (s : Shared) (σ : St) (H : Hp) (o i v : V) (ov iv u : Value) (Q : Hp → Prop), Inv X pins σ H s → RelV o ov → RelV i iv → RelV v u → t o i v H Q →
    wpAny (model X.prog X.w) X.A (setItem ov iv u) (fun _ s' => ∃ H', Inv X pins σ H' s' ∧ Q H') X.xe s
/-- a op= b, by values -/
abbrev TIp := V → V → Hp → VK → Prop
def PIp (X : Cx) (op : Operator) (t : TIp) : Prop :=
  ∀ (pins : List (Addr × Obj)) (s : Shared) (σ : St) (H : Hp) (x y : V) (v u : Value) (Q : VK), Inv X pins σ H s → RelV x v → RelV y u → t x y H Q →
    wpAny (model X.prog X.w) X.A (inplaceOp op v u) (EP X pins σ Q) X.xe s
section
variable {X : Cx} {pos : Pos}
def gName (i : Nat) : TG := fun v σ H Q => Q (σ.set i (some v)) H
theorem pg_name {i : Nat} {x : Str} (hN : X.N.Nodup) (hi : X.N[i]? = some x) (hx : Loc X.env.scope x) (hf : X.fn x = true ∨ X.env.scope.names.lookup x = some .local := by first | exact .inl rfl | exact .inr rfl | assumption) : PG X (.Name x pos) (gName i) := by
  intro pins s σ H v u Q I r h
  exact wpAny_assign_Name (store_ok I hN hi hx r (fun s' I' => ⟨_, H, I', h⟩) hf)
def gNil : TGs := fun vs σ H Q => vs = [] ∧ Q σ H
def gCons (t : TG) (u : TGs) : TGs := fun vs σ H Q => ∃ v r, vs = v :: r ∧ t v σ H fun σ' H' => u r σ' H' Q
theorem pgs_nil : PGs X [] gNil := by
  intro pins s σ H vs us Q I r h
  obtain ⟨e, h⟩ := h
  subst e
  cases r
  exact assignInOrder_nil ⟨σ, H, I, h⟩
theorem pgs_cons {e : Expr} {es : List Expr} {t : TG} {u : TGs} (h1 : PG X e t) (h2 : PGs X es u)
    (hs : (assignEach (e :: es) X.env).map (·.2) = assign e X.env :: (assignEach es X.env).map (·.2) := by rfl) : PGs X (e :: es) (gCons t u) := by
  intro pins s σ H vs us Q I r h
  obtain ⟨v, vr, e1, h⟩ := h
  subst e1
  cases r with
  | cons r rr =>
    rw [hs]
    refine assignInOrder_cons (thn (h1 pins s σ H _ _ _ I r h) fun _ s1 ⟨σ1, H1, I1, q1⟩ => ?_)
    exact h2 pins s1 σ1 H1 _ _ Q I1 rr q1
/-- (a, b, ..) = a tuple of that length -/
def gTup (K : PySem.W.Frag) (n : Nat) (t : TGs) : TG := fun v σ H Q => ∃ a xs, v = .ref a ∧ SqT K H a xs ∧ xs.length = n ∧ t xs σ H Q
theorem pg_tup {es : List Expr} {k : Nat} {t : TGs} {n : Nat} (hc : X.calm = true) (h : PGs X es t)
    (hn : (assignEach es X.env).length = n := by rfl) (hst : (assignEach es X.env).findIdx? (·.1) = none := by rfl) : PG X (.Tuple es k pos) (gTup X.K n t) := by
  intro pins s σ H v u Q I r hw
  obtain ⟨a, xs, e1, hq, hl, hw⟩ := hw
  subst e1
  cases r
  obtain ⟨its, rv, ht, hz⟩ := I.tuple hq
  refine assign_Tuple_tuple (I.ok.hd hc) ht (by simp [hn, ← hl, rv.length]) hst fun h' hx => ?_
  have I1 : Inv X pins σ H { s with heap := h' } := I.kept (t' := s.toks) fun b o e => hx b o (Nat.ne_of_lt (Heap.lt_size e)) e
  exact h pins _ σ H xs _ Q I1 (by simpa using rv) hw
/-- o[i] = .. -/
def gSub (to ti : TE) (t : TSet) : TG := fun v σ H Q => to σ H fun o H1 => ti σ H1 fun i H2 => t o i v H2 fun H3 => Q σ H3
theorem pg_sub {o i : Expr} {to ti : TE} {t : TSet} (ho : PE X o to) (hi : PE X i ti) (hs : PSet X t)
    (ha : ∀ v, assign (.Subscript o i pos) X.env v = (do
      let ov ← holding [v] (eval o X.env)
      let iv ← holding [v, ov] (eval i X.env)
      standAt pos
      holding [v, ov, iv] (setItem ov iv v)
      release [v, ov, iv] []) := by intro _; rfl) : PG X (.Subscript o i pos) (gSub to ti t) := by
  intro pins s σ H v u Q I r h
  rw [ha]
  refine wpAny_bind (wpAny_holding (thn (ho pins s σ H _ I h) fun ov s1 ⟨x, H1, I1, r1, q1⟩ => ?_))
  refine wpAny_bind (wpAny_holding (thn (hi pins s1 σ H1 _ I1 q1) fun iv s2 ⟨y, H2, I2, r2, q2⟩ => ?_))
  refine wpAny_bind (wpAny_standAt (wpAny_bind (wpAny_holding (thn (hs pins s2 σ H2 x y v ov iv u _ I2 r1 r2 r q2) fun _ s3 ⟨H3, I3, q3⟩ => ?_))))
  exact wpAny_release ⟨σ, H3, I3, q3⟩
/-- target = value -/
def tAsg (te : TE) (g : TG) : TS := fun D σ H => te σ H fun x H1 => g x σ H1 D.nx
theorem ps_asg {tg e : Expr} {te : TE} {g : TG} (he : PE X e te) (hg : PG X tg g) (hs : swapsWithSole [tg] e pos.line X.env = pure false := by rfl) (hw : swappedStores [tg] e X.env = pure none := by rfl)
    (h1 : (assignEach [tg] X.env).map (·.2) = [assign tg X.env] := by rfl) : PS X (.Assign [tg] e pos) (tAsg te g) := by
  intro pins s σ H D I h
  refine wpAny_Assign_stores (thn (he pins s σ H _ I h) fun v s1 ⟨x, H1, I1, r1, q1⟩ => ?_) hs hw
  rw [h1]
  exact thn (hg pins s1 σ H1 x v _ I1 r1 q1) fun _ s2 q => q
/-- name = value -/
theorem ps_set {i : Nat} {x : Str} {e : Expr} {te : TE} {pos' : Pos} (hN : X.N.Nodup) (hi : X.N[i]? = some x) (hx : Loc X.env.scope x) (he : PE X e te) (hs : swapsWith e (some (.Name x pos')) pos.line X.env = pure false := by rfl) (hf : X.fn x = true ∨ X.env.scope.names.lookup x = some .local := by first | exact .inl rfl | exact .inr rfl | assumption) :
    PS X (.Assign [.Name x pos'] e pos) (tAsg te (gName i)) := by
  intro pins s σ H D I h
  refine wpAny_Assign_Name (thn (he pins s σ H _ I h) fun v s1 ⟨y, H1, I1, r1, q1⟩ => ?_) hs
  exact store_ok I1 hN hi hx r1 (fun s2 I2 => ⟨_, H1, I2, q1⟩) hf
/-- a, b = x, y with plain local names: stored from the right; the pair itself is not tracked (the opening rows as in PyProof/Rows/TupAssign.lean:23) -/
def tPar (i j : Nat) (ta : TA) : TS := fun D σ H => ta σ H fun vs H1 => ∃ v w, vs = [v, w] ∧ D.nx ((σ.set i (some v)).set j (some w)) H1
theorem ps_par {i j : Nat} {x y : Str} {a b : Expr} {ta : TA} {px py pt : Pos} {kt k2 pt2} (hc : X.calm = true) (hN : X.N.Nodup) (hi : X.N[i]? = some x) (hj : X.N[j]? = some y) (hij : i ≠ j)
    (hx : X.env.scope.names.lookup x = some .local) (hy : X.env.scope.names.lookup y = some .local) (ha : PA X [a, b] ta)
    (hw : swappedStores [.Tuple [.Name x px, .Name y py] kt pt] (.Tuple [a, b] k2 pt2) X.env = pure (some [x, y]))
    (hs : swapsWithSole [.Tuple [.Name x px, .Name y py] kt pt] (.Tuple [a, b] k2 pt2) pos.line X.env = pure false := by rfl) :
    PS X (.Assign [.Tuple [.Name x px, .Name y py] kt pt] (.Tuple [a, b] k2 pt2) pos) (tPar i j ta) := by
  intro pins s σ H D I h
  rw [exec_Assign_arm]
  refine wpAny_bind (wpAny_standAt ?_)
  rw [hs]
  refine wpAny_bind (wpAny_pure ?_)
  rw [if_neg (by decide)]
  refine wpAny_bind (Tuple_ (thn (ha _ pins s σ H _ I h) fun us s1 ⟨vs, H1, I1, r1, q1⟩ => ?_))
  obtain ⟨v, w, e1, q1⟩ := q1
  subst e1
  obtain ⟨u1, u2, rfl, rv, rw'⟩ : ∃ u1 u2, us = [u1, u2] ∧ RelV v u1 ∧ RelV w u2 := by
    cases r1 with
    | cons p q =>
      cases q with
      | cons p' q' =>
        cases q'
        exact ⟨_, _, rfl, p, p'⟩
  refine wpAny_newObj_type ?_ (by show 2 ≤ sizeLine; decide)
  have I2 : Inv X pins σ H1 { s1 with heap := s1.heap.push { cls := .type "tuple", data := .seq [u1, u2].toArray } } := I1.kept (t' := s1.toks) fun b o e => Heap.get?_push_of_some _ e
  rw [hw]
  refine wpAny_bind (wpAny_pure ?_)
  show wpAny (model X.prog X.w) X.A (do rule "assign.swapped-stores"; let items ← unpackItems (.ref s1.heap.objs.size) 2 none; assignInOrder [fun v => bindName X.env y v, fun v => bindName X.env x v] items.reverse; pure Flow.next) _ _ _
  refine wpAny_bind (wpAny_rule (wpAny_bind (unpackItems_tuple (items := #[u1, u2]) (I.ok.hd hc) (IsTup.new s1.heap _) fun h' hx' => ?_)))
  have I3 := I2.kept (h' := h') (t' := s1.toks) fun b o e => hx' b o (Nat.ne_of_lt (Heap.lt_size e)) e
  show wpAny _ _ (assignInOrder [fun v => bindName X.env y v, fun v => bindName X.env x v] [u2, u1] >>= fun _ => pure Flow.next) _ _ _
  refine wpAny_bind (assignInOrder_cons (wpAny_bindName (store_ok I3 hN hj (.inl hy) rw' (fun s2 I4 => ?_) (.inr hy))))
  refine assignInOrder_cons (wpAny_bindName (store_ok I4 hN hi (.inl hx) rv (fun s3 I5 => assignInOrder_nil (wpAny_pure ?_)) (.inr hx)))
  rw [List.set_comm _ _ (Ne.symm hij)] at I5
  exact ⟨_, H1, I5, q1⟩
/-- name op= e -/
def tAug (i : Nat) (te : TE) (ti : TIp) : TS := fun D σ H => ∃ x, σ[i]? = some (some x) ∧ te σ H fun y H1 => ti x y H1 fun z H2 => D.nx (σ.set i (some z)) H2
theorem ps_aug {i : Nat} {x : Str} {e : Expr} {te : TE} {op : Operator} {ti : TIp} {pos' : Pos} (hN : X.N.Nodup) (hi : X.N[i]? = some x) (hx : Loc X.env.scope x) (he : PE X e te) (ho : PIp X op ti) (hf : X.fn x = true ∨ X.env.scope.names.lookup x = some .local := by first | exact .inl rfl | exact .inr rfl | assumption) :
    PS X (.AugAssign (.Name x pos') op e pos) (tAug i te ti) := by
  intro pins s σ H D I h
  obtain ⟨v, e1, h⟩ := h
  obtain ⟨m, hn, hl⟩ := I.loc
  have vis : Vis X.env.scope x := by rcases hx with k | k; exact .inl k; exact .inr (.inl k)
  obtain ⟨u, r, l⟩ := hl i x v hi e1 vis
  refine wpAny_AugAssign_Name ?_
  have go : wpAny (model X.prog X.w) X.A (eval e X.env) (fun w s₂ => wpAny (model X.prog X.w) X.A (inplaceOp op u w) (fun r s₃ => wpAny (model X.prog X.w) X.A (storeName X.env x r) (fun _ => SP X pins D .next) X.xe s₃) X.xe s₂) X.xe s := by
    refine thn (he pins s σ H _ I h) fun w s1 ⟨y, H1, I1, r1, q1⟩ => ?_
    refine thn (ho pins s1 σ H1 v y u w _ I1 r r1 q1) fun z s2 ⟨zv, H2, I2, r2, q2⟩ => ?_
    exact store_ok I2 hN hi hx r2 (fun s3 I3 => ⟨_, H2, I3, q2⟩) hf
  rcases l with ⟨hk, hm⟩ | ⟨hk, c, hc, hcell⟩
  · exact wpAny_loadName_local I.ok.kind hk hn hm go
  · rcases hk with hk | hk
    · exact wpAny_loadName_cell I.ok.kind hk hc hcell go
    · rcases hx with k | k
      · have : X.env.scope.names.lookup x = some .free := hk
        rw [k] at this; cases this
      · have : X.env.scope.names.lookup x = some .free := hk
        rw [k] at this; cases this
/-- o[i] op= e -/
def tAugS (to ti te : TE) (tget : V → V → Hp → VK → Prop) (tip : TIp) (tset : TSet) : TS := fun D σ H => to σ H fun o H1 => ti σ H1 fun i H2 => tget o i H2 fun x H3 => te σ H3 fun y H4 => tip x y H4 fun z H5 => tset o i z H5 fun H6 => D.nx σ H6
/-- o[i], by values -/
def PGet (X : Cx) (t : V → V → Hp → VK → Prop) : Prop :=
  ∀ (pins : List (Addr × Obj)) (s : Shared) (σ : St) (H : Hp) (o i : V) (ov iv : Value) (Q : VK), Inv X pins σ H s → RelV o ov → RelV i iv → t o i H Q →
    wpAny (model X.prog X.w) X.A (getItem ov iv) (EP X pins σ Q) X.xe s
theorem ps_augS {o i e : Expr} {to ti te : TE} {tget : V → V → Hp → VK → Prop} {tip : TIp} {tset : TSet} {op : Operator} {tpos : Pos} (ho : PE X o to) (hi : PE X i ti) (hg : PGet X tget) (he : PE X e te) (hp : PIp X op tip) (hs : PSet X tset)
    (ha : ∀ ov iv new, augStore i ov iv new = (do holding [new, ov, iv] (setItem ov iv new); release [new, ov, iv] []; pure .next) := by intros; rfl) : PS X (.AugAssign (.Subscript o i tpos) op e pos) (tAugS to ti te tget tip tset) := by
  intro pins s σ H D I h
  refine wpAny_AugAssign_SubscriptAny (thn (ho pins s σ H _ I h) fun ov s1 ⟨x1, H1, I1, r1, q1⟩ => ?_) ha
  refine thn (hi pins s1 σ H1 _ I1 q1) fun iv s2 ⟨x2, H2, I2, r2, q2⟩ => ?_
  refine thn (hg pins s2 σ H2 x1 x2 ov iv _ I2 r1 r2 q2) fun old s3 ⟨x3, H3, I3, r3, q3⟩ => ?_
  refine thn (he pins s3 σ H3 _ I3 q3) fun v s4 ⟨x4, H4, I4, r4, q4⟩ => ?_
  refine thn (hp pins s4 σ H4 x3 x4 old v _ I4 r3 r4 q4) fun new s5 ⟨x5, H5, I5, r5, q5⟩ => ?_
  exact thn (hs pins s5 σ H5 x1 x2 x5 ov iv new _ I5 r1 r2 r5 q5) fun _ s6 ⟨H6, I6, q6⟩ => ⟨σ, H6, I6, q6⟩
/-- ints -/
def ipI (f : Int → Int → Int) : TIp := fun x y H Q => ∃ i j, x = .int i ∧ y = .int j ∧ Q (.int (f i j)) H
theorem ip_add : PIp X .Add (ipI fun i j => i + j) := by
  intro pins s σ H x y v u Q I r1 r2 h
  obtain ⟨i, j, e1, e2, q⟩ := h
  subst e1; subst e2
  obtain ⟨t, rfl⟩ := r1
  obtain ⟨t', rfl⟩ := r2
  exact iadd_int ⟨.int _, H, I.tok _, ⟨_, rfl⟩, q⟩
theorem ip_sub : PIp X .Sub (ipI fun i j => i - j) := by
  intro pins s σ H x y v u Q I r1 r2 h
  obtain ⟨i, j, e1, e2, q⟩ := h
  subst e1; subst e2
  obtain ⟨t, rfl⟩ := r1
  obtain ⟨t', rfl⟩ := r2
  exact isub_int ⟨.int _, H, I.tok _, ⟨_, rfl⟩, q⟩
end

/-! ### while -/
section
variable {X : Cx} {pos : Pos}
/-- the invariant W with its measure -/
def tWhile (c : TT) (tb : TS) : TS := fun D σ H => ∃ W : Nat → St → Hp → Prop, (∃ m, W m σ H) ∧ ∀ m σ H, W m σ H →
  c σ H fun b H1 => if b = true then ∃ N : St → Hp → Prop, (∀ σ' H', N σ' H' → ∃ m', m' < m ∧ W m' σ' H') ∧ tb { D with nx := N, ct := N, bk := D.nx } σ H1 else D.nx σ H1
theorem ps_while {c : Expr} {body : List Stmt} {tc : TT} {tb : TS} (hp : PassesOwn (model X.prog X.w) X.A X.env X.xe) (hc : PT X c tc) (hb : PSs X body tb) : PS X (.While c body [] pos) (tWhile tc tb) := by
  intro pins s σ H D I h
  obtain ⟨W, ⟨m0, w0⟩, turn⟩ := h
  refine wpAny_While (codeAny_whileLoop (fun n s' => ∃ σ' H', Inv X pins σ' H' s' ∧ W n σ' H') ?_ m0 ⟨σ, H, I, w0⟩)
  rintro n s1 ⟨σ1, H1, I1, w1⟩
  refine wpAny_passesOwn hp (thn (hc pins s1 σ1 H1 _ I1 (turn n σ1 H1 w1)) fun b s2 ⟨H2, I2, q2⟩ => ?_)
  cases b with
  | true =>
    obtain ⟨N, hN, q2⟩ := q2
    rw [if_pos rfl]
    refine wpAny_passesOwn hp (thn (hb pins s2 σ1 H2 _ I2 q2) fun f s3 q3 => ?_)
    cases f with
    | next =>
      obtain ⟨σ3, H3, I3, n3⟩ := q3
      obtain ⟨m', hm, w3⟩ := hN σ3 H3 n3
      exact ⟨m', hm, σ3, H3, I3, w3⟩
    | cont =>
      obtain ⟨σ3, H3, I3, n3⟩ := q3
      obtain ⟨m', hm, w3⟩ := hN σ3 H3 n3
      exact ⟨m', hm, σ3, H3, I3, w3⟩
    | brk => exact q3
    | ret v => exact q3
  | false =>
    rw [if_neg Bool.false_ne_true]
    exact wpAny_execs_nil ⟨σ1, H2, I2, q2⟩
end

/-! ### what a loop or a comprehension walks -/
/-- at turn i: it yields x (the heap may grow), or it stops -/
structure It where
  go : Nat → Hp → Prop
  yld : Nat → Hp → V → Hp → Prop
  stop : Nat → Hp → Prop
/-- the iterator's own objects may turn: they are not the frame's, not pinned, younger than the entry (or a comprehension's own) -/
def FpOk (X : Cx) (pins : List (Addr × Obj)) (H : Hp) (b : Addr) : Prop :=
  H b = none ∧ b ≠ X.env.locals ∧ b ∉ X.fs ∧ (b ∈ X.ex ∨ X.s₀.heap.objs.size ≤ b) ∧ (∀ x c, X.env.cells.lookup x = some c → c ≠ b) ∧ ∀ p ∈ X.pn ++ pins, p.1 ≠ b
theorem Inv.fpOk {X : Cx} {pins : List (Addr × Obj)} {σ : St} {H H' : Hp} {s : Shared} {b : Addr} (I : Inv X pins σ H s) (hb : s.heap.objs.size ≤ b) (hn : H' b = none) : FpOk X pins H' b := by
  refine ⟨hn, Nat.ne_of_gt (Nat.lt_of_lt_of_le I.lt hb), I.nofs hb, .inr (Nat.le_trans I.sz hb), fun x c e z => ?_, fun p hp z => ?_⟩
  · obtain ⟨v, q⟩ := I.cell x c e
    exact absurd (Nat.lt_of_lt_of_le q.lt (by rw [z]; exact hb)) (Nat.lt_irrefl _)
  · exact absurd (Nat.lt_of_lt_of_le (Heap.lt_size (I.pin p hp).1) (by rw [z]; exact hb)) (Nat.lt_irrefl _)
structure Turn (P : Program) (w : World) (K : PySem.W.Frag) (tg : Expr) (J : It) (fp : List Addr) (it : Addr) (tn : Nat → Heap → Prop) : Prop where
  mem : it ∈ fp
  obj : ∀ i h, tn i h → ∀ b ∈ fp, ∃ o, h.get? b = some o ∧ ∀ v, o.data ≠ .cell v
  keep : ∀ i h h', tn i h → (∀ b ∈ fp, ∀ o, h.get? b = some o → h'.get? b = some o) → tn i h'
  item : ∀ (X : Cx), X.prog = P → X.w = w → X.K = K → X.calm = true → ∀ (i : Nat) (pins : List (Addr × Obj)) (s : Shared) (σ : St) (H : Hp) (E : Value → Shared → Prop), Inv X pins σ H s → (∀ b ∈ fp, FpOk X pins H b) → tn i s.heap → J.go i H →
    wpAny (model P w) X.A (pyNext (.ref it)) (fun r s1 => ∃ u, r = some u ∧
      wpAny (model P w) X.A (letOwnedTupleGo tg (.ref it) u) (fun _ s2 => ∃ x H', Inv X pins σ H' s2 ∧ RelV x u ∧ J.yld i H x H' ∧ tn (i + 1) s2.heap ∧ ∀ b ∈ fp, H' b = none) E s1) E s
  done : ∀ (X : Cx), X.prog = P → X.w = w → X.K = K → X.calm = true → ∀ (i : Nat) (pins : List (Addr × Obj)) (s : Shared) (σ : St) (H : Hp) (E : Value → Shared → Prop), Inv X pins σ H s → (∀ b ∈ fp, FpOk X pins H b) → tn i s.heap → J.stop i H →
    wpAny (model P w) X.A (pyNext (.ref it)) (fun r s1 => r = none ∧ Inv X pins σ H s1) E s
  self : ∀ (A : Around) (i : Nat) (s : Shared) (Q : Value → Shared → Prop) (E : Value → Shared → Prop), tn i s.heap → Q (.ref it) s → wpAny (model P w) A (pyIter (.ref it)) Q E s
abbrev TI := St → Hp → (It → Hp → Prop) → Prop
/-- an iterator has come -/
def PIE (X : Cx) (pins : List (Addr × Obj)) (σ : St) (tg : Expr) (R : It → Hp → Prop) (itv : Value) (s2 : Shared) : Prop :=
  ∃ (it : Addr) (fp : List Addr) (tn : Nat → Heap → Prop) (J : It) (H' : Hp), itv = .ref it ∧ Inv X pins σ H' s2 ∧ Turn X.prog X.w X.K tg J fp it tn ∧ tn 0 s2.heap ∧ (∀ b ∈ fp, FpOk X pins H' b) ∧ R J H'
def PI (X : Cx) (tg iter : Expr) (wi : TI) : Prop :=
  ∀ (pins : List (Addr × Obj)) (s : Shared) (σ : St) (H : Hp) (R : It → Hp → Prop), Inv X pins σ H s → wi σ H R →
    wpAny (model X.prog X.w) X.A (eval iter X.env) (fun v s1 => wpAny (model X.prog X.w) X.A (pyIter v) (PIE X pins σ tg R) X.xe s1) X.xe s

/-- the step ahead of the store is nothing for an iterator that keeps no tuple -/
theorem go_of {M : Model} {A : Around} {E : Value → Shared → Prop} {s : Shared} {tg : Expr} {it : Addr} {u : Value} {o : Obj} {n : String} {vs : Array Value} {Q : Unit → Shared → Prop} (ho : s.heap.get? it = some o) (hc : o.cls = .type n) (hd : o.data = .fields vs)
    (hn : ["enumerate", "zip", "dict_itemiterator", "dict_reverseitemiterator", "odict_iterator", "itertools.zip_longest", "itertools.pairwise"].contains n = false) (hQ : Q () s) : wpAny M A (letOwnedTupleGo tg (.ref it) u) Q E s := by
  unfold letOwnedTupleGo
  cases tg <;> first
    | exact wpAny_pure hQ
    | (cases u <;> first
        | exact wpAny_pure hQ
        | (refine wpAny_bind (wpAny_load ho ?_)
           rw [hc, hd]
           show wpAny M A (if (["enumerate", "zip", "dict_itemiterator", "dict_reverseitemiterator", "odict_iterator", "itertools.zip_longest", "itertools.pairwise"].contains n && vs[0]? == some (rawInt _)) = true then _ else _) Q E s
           rw [if_neg (by intro h; rw [hn, Bool.false_and] at h; cases h)]
           exact wpAny_pure hQ))

/-- the list at a, as it stands at each turn (a loop may append to it) -/
def Itl (K : PySem.W.Frag) (a : Addr) : It :=
  ⟨fun i H => ∃ xs x, SqL K H a xs ∧ xs[i]? = some x, fun i H x H' => H' = H ∧ ∀ xs, SqL K H a xs → xs[i]? = some x, fun i H => ∃ xs, SqL K H a xs ∧ xs.length ≤ i⟩
def Itt (K : PySem.W.Frag) (a : Addr) : It :=
  ⟨fun i H => ∃ xs x, SqT K H a xs ∧ xs[i]? = some x, fun i H x H' => H' = H ∧ ∀ xs, SqT K H a xs → xs[i]? = some x, fun i H => ∃ xs, SqT K H a xs ∧ xs.length ≤ i⟩
/-- lo, lo + 1, .. (n of them) -/
def Itr (lo : Int) (n : Nat) : It := ⟨fun i _ => i < n, fun i H x H' => H' = H ∧ x = .int (lo + i), fun i _ => n ≤ i⟩
theorem turn_list {P : Program} {w : World} {K : PySem.W.Frag} {tg : Expr} (a it : Addr) : Turn P w K tg (Itl K a) [it] it (fun i h => h.IsListIter it a i) where
  mem := by simp
  obj := fun i h st b hb => by
    have e : b = it := by simpa using hb
    subst e
    obtain ⟨o, e, c, d⟩ := st
    exact ⟨o, e, fun v z => by rw [d] at z; cases z⟩
  keep := fun i h h' st k => st.at fun o e => k it (by simp) o e
  item := by
    intro X hP hw hK hc i pins s σ H E I hf st hg
    subst hP hw hK
    obtain ⟨xs, x, hq, hx⟩ := hg
    obtain ⟨its, rv, p, hz⟩ := I.list hq
    obtain ⟨u, hu, ru⟩ := rv.get hx
    obtain ⟨f0, f1, f2, f3, f4, f5⟩ := hf it (by simp)
    refine wpAny_pyNext_list_item st p.isList (x := u) (by simpa using hu) fun h' st' sb => ?_
    have I1 : Inv X pins σ H { s with heap := h' } := I.turned (t' := s.toks) (fun b o hb e => (sb.2 b hb).trans e) f0 f1 f3 f4 f5
    obtain ⟨o, e, c, d⟩ := id st'
    exact ⟨u, rfl, go_of (s := { s with heap := h' }) e c d (by decide) ⟨x, H, I1, ru, ⟨rfl, fun ys hy => by rw [I.list_inj hy hq]; exact hx⟩, st', fun b hb => (hf b hb).1⟩⟩
  done := by
    intro X hP hw hK hc i pins s σ H E I hf st hg
    subst hP hw hK
    obtain ⟨xs, hq, hx⟩ := hg
    obtain ⟨its, rv, p, hz⟩ := I.list hq
    obtain ⟨f0, f1, f2, f3, f4, f5⟩ := hf it (by simp)
    have hl := rv.length
    exact wpAny_pyNext_list_end (I.ok.hd hc) st p.isList (by simp; omega) fun h' eb => ⟨rfl, I.turned (t' := s.toks) (fun b o hb e => eb b o hb e) f0 f1 f3 f4 f5⟩
  self := fun _ _ _ _ _ st h => wpAny_pyIter_listiter st h
theorem turn_tuple {P : Program} {w : World} {K : PySem.W.Frag} {tg : Expr} (a it : Addr) : Turn P w K tg (Itt K a) [it] it (fun i h => h.IsTupleIter it a i) where
  mem := by simp
  obj := fun i h st b hb => by
    have e : b = it := by simpa using hb
    subst e
    obtain ⟨o, e, c, d⟩ := st
    exact ⟨o, e, fun v z => by rw [d] at z; cases z⟩
  keep := fun i h h' st k => st.at fun o e => k it (by simp) o e
  item := by
    intro X hP hw hK hc i pins s σ H E I hf st hg
    subst hP hw hK
    obtain ⟨xs, x, hq, hx⟩ := hg
    obtain ⟨its, rv, p, hz⟩ := I.tuple hq
    obtain ⟨u, hu, ru⟩ := rv.get hx
    obtain ⟨f0, f1, f2, f3, f4, f5⟩ := hf it (by simp)
    refine wpAny_pyNext_tuple_item st (show s.heap.IsTuple a its.toArray from p) (x := u) (by simpa using hu) fun h' st' sb => ?_
    have I1 : Inv X pins σ H { s with heap := h' } := I.turned (t' := s.toks) (fun b o hb e => (sb.2 b hb).trans e) f0 f1 f3 f4 f5
    obtain ⟨o, e, c, d⟩ := id st'
    exact ⟨u, rfl, go_of (s := { s with heap := h' }) e c d (by decide) ⟨x, H, I1, ru, ⟨rfl, fun ys hy => by rw [I.tuple_inj hy hq]; exact hx⟩, st', fun b hb => (hf b hb).1⟩⟩
  done := by
    intro X hP hw hK hc i pins s σ H E I hf st hg
    subst hP hw hK
    obtain ⟨xs, hq, hx⟩ := hg
    obtain ⟨its, rv, p, hz⟩ := I.tuple hq
    obtain ⟨f0, f1, f2, f3, f4, f5⟩ := hf it (by simp)
    have hl := rv.length
    exact wpAny_pyNext_tuple_end (I.ok.hd hc) st (show s.heap.IsTuple a its.toArray from p) (by simp; omega) fun h' eb => ⟨rfl, I.turned (t' := s.toks) (fun b o hb e => eb b o hb e) f0 f1 f3 f4 f5⟩
  self := fun _ _ _ _ _ st h => wpAny_pyIter_tupleiter st h
theorem turn_range {P : Program} {w : World} {K : PySem.W.Frag} {tg : Expr} (it : Addr) (lo : Int) (n : Nat) : Turn P w K tg (Itr lo n) [it] it (fun i h => IsRangeIter h it (lo + (i : Nat) * 1) ((n : Int) - (i : Nat)) 1) where
  mem := by simp
  obj := fun i h st b hb => by
    have e : b = it := by simpa using hb
    subst e
    exact ⟨_, st, fun v z => by
      have z' : Data.fields _ = Data.cell v := z
      cases z'⟩
  keep := fun i h h' st k => k it (by simp) _ st
  item := by
    intro X hP hw hK hc i pins s σ H E I hf st hg
    subst hP hw hK
    obtain ⟨f0, f1, f2, f3, f4, f5⟩ := hf it (by simp)
    have W := Walks.range (prog := X.prog) (w := X.w) (I.ok.hd hc) it lo 1 n
    refine W.item i s _ _ hg st fun v h' tk hv st' kk => ?_
    obtain ⟨t, rfl⟩ := hv
    have I1 : Inv X pins σ H { s with heap := h', toks := tk } := I.turned (fun b o hb e => kk b o (by simpa using hb) e) f0 f1 f3 f4 f5
    refine ⟨_, rfl, go_of (s := { s with heap := h', toks := tk }) (n := "range_iterator") st' rfl rfl (by decide) ⟨.int (lo + i), H, I1, ⟨t, ?_⟩, ⟨rfl, rfl⟩, st', fun b hb => (hf b hb).1⟩⟩
    rw [Int.mul_one]
  done := by
    intro X hP hw hK hc i pins s σ H E I hf st hg
    subst hP hw hK
    obtain ⟨f0, f1, f2, f3, f4, f5⟩ := hf it (by simp)
    exact wpAny_pyNext_range_end (I.ok.hd hc) st (by have : n ≤ i := hg; omega) fun h' eb => ⟨rfl, I.turned (t' := s.toks) (fun b o hb e => eb b o hb e) f0 f1 f3 f4 f5⟩
  self := fun _ _ _ _ _ st h => wpAny_pyIter_rangeiter st h
end L2

namespace L2
open PySem PySem.Spec PyProof.Rows
section
variable {X : Cx} {tg : Expr}
def iList (K : PySem.W.Frag) (tl : TE) : TI := fun σ H R => tl σ H fun x H1 => ∃ a, x = .ref a ∧ (∃ xs, SqL K H1 a xs) ∧ R (Itl K a) H1
def iTup (K : PySem.W.Frag) (tl : TE) : TI := fun σ H R => tl σ H fun x H1 => ∃ a, x = .ref a ∧ (∃ xs, SqT K H1 a xs) ∧ R (Itt K a) H1
theorem pi_list {l : Expr} {tl : TE} (hl : PE X l tl) : PI X tg l (iList X.K tl) := by
  intro pins s σ H R I h
  refine thn (hl pins s σ H _ I h) fun v s1 ⟨x, H1, I1, r1, q1⟩ => ?_
  obtain ⟨a, e, ⟨xs, hq⟩, q⟩ := q1
  subst e
  cases r1
  obtain ⟨its, rv, p, hz⟩ := I1.list hq
  refine wpAny_pyIter_list p.isList ?_
  refine ⟨s1.heap.objs.size, [s1.heap.objs.size], _, _, H1, rfl, I1.kept (t' := s1.toks) fun b o e => Heap.get?_push_of_some _ e, turn_list a _, ⟨_, Heap.get?_push_size _ rfl, rfl, rfl⟩, fun b hb => ?_, q⟩
  have e : b = s1.heap.objs.size := by simpa using hb
  subst e
  exact I1.fpOk (Nat.le_refl _) (I1.hok.fresh (Nat.le_refl _))
theorem pi_tup {l : Expr} {tl : TE} (hl : PE X l tl) : PI X tg l (iTup X.K tl) := by
  intro pins s σ H R I h
  refine thn (hl pins s σ H _ I h) fun v s1 ⟨x, H1, I1, r1, q1⟩ => ?_
  obtain ⟨a, e, ⟨xs, hq⟩, q⟩ := q1
  subst e
  cases r1
  obtain ⟨its, rv, p, hz⟩ := I1.tuple hq
  refine wpAny_pyIter_tuple (show s1.heap.IsTuple a its.toArray from p) ?_
  refine ⟨s1.heap.objs.size, [s1.heap.objs.size], _, _, H1, rfl, I1.kept (t' := s1.toks) fun b o e => Heap.get?_push_of_some _ e, turn_tuple a _, ⟨_, Heap.get?_push_size _ rfl, rfl, rfl⟩, fun b hb => ?_, q⟩
  have e : b = s1.heap.objs.size := by simpa using hb
  subst e
  exact I1.fpOk (Nat.le_refl _) (I1.hok.fresh (Nat.le_refl _))
/-- a range object just made, walked -/
theorem range_it {pins : List (Addr × Obj)} {σ : St} {H : Hp} {s : Shared} {R : It → Hp → Prop} {E : Value → Shared → Prop} {lo hi : Int} {t u v : Tok} {tk : Nat} (I : Inv X pins σ H s) (h1 : -(2 ^ 62) ≤ lo) (h2 : lo < 2 ^ 62) (h3 : -(2 ^ 62) ≤ hi) (h4 : hi < 2 ^ 62)
    (q : R (Itr lo (hi - lo).toNat) H) : wpAny (model X.prog X.w) X.A (pyIter (.ref s.heap.objs.size)) (PIE X pins σ tg R) E { s with heap := s.heap.push { cls := .type "range", data := .fields #[.int lo t, .int hi u, .int 1 v] }, toks := tk } := by
  refine wpAny_pyIter_range (IsRange.new ..) (small_one h1 h2 h3 h4) ?_
  have I1 : Inv X pins σ H { s with heap := s.heap.push { cls := .type "range", data := .fields #[.int lo t, .int hi u, .int 1 v] }, toks := tk } := I.kept fun b o e => Heap.get?_push_of_some _ e
  refine ⟨(s.heap.push { cls := .type "range", data := .fields #[.int lo t, .int hi u, .int 1 v] }).objs.size, [(s.heap.push { cls := .type "range", data := .fields #[.int lo t, .int hi u, .int 1 v] }).objs.size], _, _, H, rfl,
    I1.kept (t' := tk) fun b o e => Heap.get?_push_of_some _ e, turn_range _ lo (hi - lo).toNat, ?_, fun b hb => ?_, q⟩
  · have e1 : lo + ((0 : Nat) : Int) * 1 = lo := by simp
    have e2 : (((hi - lo).toNat : Nat) : Int) - ((0 : Nat) : Int) = Builtin.Range.rangeSize lo hi 1 := by rw [rangeSize_one]; split <;> omega
    show IsRangeIter _ _ (lo + ((0 : Nat) : Int) * 1) ((((hi - lo).toNat : Nat) : Int) - ((0 : Nat) : Int)) 1
    rw [e1, e2]
    exact Heap.get?_push_size _ rfl
  · have e : b = (s.heap.push { cls := .type "range", data := .fields #[.int lo t, .int hi u, .int 1 v] }).objs.size := by simpa using hb
    subst e
    exact I1.fpOk (Nat.le_refl _) (I1.hok.fresh (Nat.le_refl _))
def iRng1 (ta : TA) : TI := fun σ H R => ta σ H fun vs H1 => ∃ j : Int, vs = [.int j] ∧ -(2 ^ 62) ≤ j ∧ j < 2 ^ 62 ∧ R (Itr 0 j.toNat) H1
def iRng2 (ta : TA) : TI := fun σ H R => ta σ H fun vs H1 => ∃ i j : Int, vs = [.int i, .int j] ∧ (-(2 ^ 62) ≤ i ∧ i < 2 ^ 62 ∧ -(2 ^ 62) ≤ j ∧ j < 2 ^ 62) ∧ R (Itr i (j - i).toNat) H1
theorem pi_range1 {a : Expr} {ta : TA} {p pos : Pos} (hg : Gl X "range") (hm : X.mg "range" = none) (ha : PA X [a] ta) (hs : starEach [a] X.env = [(false, eval a X.env)] := by rfl) : PI X tg (.Call (.Name "range" p) [a] [] pos) (iRng1 ta) := by
  intro pins s σ H R I h
  refine Call_ (ld_blt I hg hm boot_range (PyProof.Rows.callWith_type1 (thn (ha pos pins s σ H _ I h) fun us s1 ⟨vs, H1, I1, r1, q1⟩ => ?_) hs rfl))
  obtain ⟨j, e, q1, q2, q⟩ := q1
  subst e
  cases r1 with
  | cons r rr =>
    cases rr
    obtain ⟨t, rfl⟩ := r
    exact call_range_1 (range_it I1 (by omega) (by omega) q1 q2 (by simpa using q))
theorem pi_range2 {a b : Expr} {ta : TA} {p pos : Pos} (hg : Gl X "range") (hm : X.mg "range" = none) (ha : PA X [a, b] ta) (hs : starEach [a, b] X.env = [(false, eval a X.env), (false, eval b X.env)] := by rfl) (hs2 : starEach [b] X.env = [(false, eval b X.env)] := by rfl) :
    PI X tg (.Call (.Name "range" p) [a, b] [] pos) (iRng2 ta) := by
  intro pins s σ H R I h
  refine Call_ (ld_blt I hg hm boot_range (PyProof.Rows.callWith_type1 (thn (ha pos pins s σ H _ I h) fun us s1 ⟨vs, H1, I1, r1, q1⟩ => ?_) (by rw [hs, hs2]) (by rw [hs2]; rfl)))
  obtain ⟨i, j, e, ⟨q1, q2, q3, q4⟩, q⟩ := q1
  subst e
  cases r1 with
  | cons r rr =>
    cases rr with
    | cons r' rr =>
      cases rr
      obtain ⟨t, rfl⟩ := r
      obtain ⟨t', rfl⟩ := r'
      exact call_range_2 (range_it I1 q1 q2 q3 q4 q)

/-! ### for -/
/-- W: the invariant by the turn and a measure; N: what the body is to reach -/
def tFor (wi : TI) (g : TG) (tb : TS) : TS := fun D σ H => wi σ H fun J H1 => ∃ W : Nat → Nat → St → Hp → Prop, (∃ m, W 0 m σ H1) ∧ ∀ i m σ H, W i m σ H →
  (J.stop i H ∧ D.nx σ H) ∨ (J.go i H ∧ ∃ N : St → Hp → Prop, (∀ σ' H', N σ' H' → ∃ m', m' < m ∧ W (i + 1) m' σ' H') ∧ ∀ x H', J.yld i H x H' → g x σ H' fun σ2 H2 => tb { D with nx := N, ct := N, bk := D.nx } σ2 H2)
/-- the records at fp as they stand -/
def pinsAt (fp : List Addr) (h : Heap) : List (Addr × Obj) := fp.filterMap fun b => (h.get? b).map fun o => (b, o)
theorem mem_pinsAt {fp : List Addr} {h : Heap} {b : Addr} {o : Obj} (hb : b ∈ fp) (e : h.get? b = some o) : (b, o) ∈ pinsAt fp h := List.mem_filterMap.mpr ⟨b, hb, by rw [e]; rfl⟩
theorem of_pinsAt {fp : List Addr} {h : Heap} {p : Addr × Obj} (hp : p ∈ pinsAt fp h) : p.1 ∈ fp ∧ h.get? p.1 = some p.2 := by
  obtain ⟨b, hb, e⟩ := List.mem_filterMap.mp hp
  cases q : h.get? b with
  | none => rw [q] at e; cases e
  | some o =>
    rw [q] at e
    have e' : (b, o) = p := Option.some.inj e
    subst e'
    exact ⟨hb, q⟩
theorem Inv.pinned {pins : List (Addr × Obj)} {σ : St} {H : Hp} {s : Shared} {fp : List Addr} (I : Inv X pins σ H s) (hf : ∀ b ∈ fp, FpOk X pins H b) (ho : ∀ b ∈ fp, ∃ o, s.heap.get? b = some o ∧ ∀ v, o.data ≠ .cell v) : Inv X (pins ++ pinsAt fp s.heap) σ H s :=
  I.pins_of fun p hp => (List.mem_append.mp hp).elim (fun z => I.pin p (List.mem_append_right _ z)) fun z => by
    obtain ⟨hb, e⟩ := of_pinsAt z
    obtain ⟨f0, f1, f2, _⟩ := hf p.1 hb
    obtain ⟨o, e', d⟩ := ho p.1 hb
    rw [e] at e'; cases e'
    exact ⟨e, f0, f1, f2, d⟩
theorem Inv.unpinned {pins pl : List (Addr × Obj)} {σ : St} {H : Hp} {s : Shared} (I : Inv X (pins ++ pl) σ H s) : Inv X pins σ H s := I.pins_of fun p hp => I.pin p (List.mem_append_right _ (List.mem_append_left _ hp))
theorem ps_for {iter : Expr} {body : List Stmt} {wi : TI} {g : TG} {tb : TS} {pos : Pos} (hp : PassesOwn (model X.prog X.w) X.A X.env X.xe) (hc : X.calm = true) (hi : PI X tg iter wi) (hg : PG X tg g) (hb : PSs X body tb)
    (hs : ∀ x, foldedSetIterable iter X.env x = pure x := by intro _; rfl) : PS X (.For tg iter body [] pos) (tFor wi g tb) := by
  intro pins s σ H D I h
  refine wpAny_For (thn (hi pins s σ H _ I h) fun v s1 h1 => thn h1 fun itv s2 h2 => ?_) hs
  obtain ⟨it, fp, tn, J, H2, e, I2, T, st2, f2, W, ⟨m0, w0⟩, turn⟩ := h2
  subst e
  -- what stays true of the iterator's objects through the loop
  have stat : ∀ {H' : Hp}, (∀ b ∈ fp, H' b = none) → ∀ b ∈ fp, FpOk X pins H' b := fun hn b hb => ⟨hn b hb, (f2 b hb).2⟩
  refine codeAny_forLoop_any (fun n s' => ∃ i σ' H', Inv X pins σ' H' s' ∧ tn i s'.heap ∧ (∀ b ∈ fp, H' b = none) ∧ W i n σ' H') ?_ m0 ⟨0, σ, H2, I2, st2, fun b hb => (f2 b hb).1, w0⟩
  rintro n s3 ⟨i, σ3, H3, I3, st3, fr3, w3⟩
  rcases turn i n σ3 H3 w3 with ⟨stop, qn⟩ | ⟨go, N, hN, step⟩
  · refine wpAny_passesOwn hp (thn (T.done X rfl rfl rfl hc i pins s3 σ3 H3 X.xe I3 (stat fr3) st3 stop) fun r s4 ⟨hr, I4⟩ => ?_)
    subst hr
    exact wpAny_execs_nil ⟨σ3, H3, I4, qn⟩
  · refine wpAny_passesOwn hp (thn (T.item X rfl rfl rfl hc i pins s3 σ3 H3 X.xe I3 (stat fr3) st3 go) fun r s4 ⟨u, hr, h4⟩ => ?_)
    subst hr
    refine wpAny_passesOwn hp (thn h4 fun _ s5 ⟨x, H5, I5, r5, y5, st5, fr5⟩ => ?_)
    have I5' := I5.pinned (stat fr5) (T.obj _ _ st5)
    refine wpAny_passesOwn hp (thn (hg _ s5 σ3 H5 x u _ I5' r5 (step x H5 y5)) fun _ s6 ⟨σ6, H6, I6, q6⟩ => ?_)
    refine wpAny_passesOwn hp (thn (hb _ s6 σ6 H6 _ I6 q6) fun f s7 q7 => ?_)
    have again : ∀ {σ7 : St} {H7 : Hp}, Inv X (pins ++ pinsAt fp s5.heap) σ7 H7 s7 → N σ7 H7 → ∃ m, m < n ∧ ∃ i σ' H', Inv X pins σ' H' s7 ∧ tn i s7.heap ∧ (∀ b ∈ fp, H' b = none) ∧ W i m σ' H' := fun {σ7 H7} I7 n7 => by
      obtain ⟨m', hm, w7⟩ := hN σ7 H7 n7
      refine ⟨m', hm, i + 1, σ7, H7, I7.unpinned, T.keep _ _ _ st5 fun b hb o e => (I7.pin (b, o) (List.mem_append_right _ (List.mem_append_right _ (mem_pinsAt hb e)))).1, fun b hb => ?_, w7⟩
      obtain ⟨o, e, d⟩ := T.obj _ _ st5 b hb
      exact (I7.pin (b, o) (List.mem_append_right _ (List.mem_append_right _ (mem_pinsAt hb e)))).2.1
    cases f with
    | next => obtain ⟨σ7, H7, I7, n7⟩ := q7; exact again I7 n7
    | cont => obtain ⟨σ7, H7, I7, n7⟩ := q7; exact again I7 n7
    | brk => obtain ⟨σ7, H7, I7, q7⟩ := q7; exact ⟨σ7, H7, I7.unpinned, q7⟩
    | ret v => obtain ⟨x7, σ7, H7, I7, r7, q7⟩ := q7; exact ⟨x7, σ7, H7, I7.unpinned, r7, q7⟩
end

/-! ### the forms one uses -/
/-- over a list that the body leaves as it is -/
theorem for_list {K : PySem.W.Frag} {a : Addr} {xs : List V} {g : TG} {tb : TS} {D : Ends} {σ : St} {H : Hp} (Pv : Nat → St → Hp → Prop) (h0 : Pv 0 σ H) (hl : ∀ i σ H, i ≤ xs.length → Pv i σ H → SqL K H a xs)
    (hs : ∀ i x σ H, xs[i]? = some x → Pv i σ H → g x σ H fun σ2 H2 => tb { D with nx := Pv (i + 1), ct := Pv (i + 1), bk := D.nx } σ2 H2) (hd : ∀ σ H, Pv xs.length σ H → D.nx σ H) :
    ∃ W : Nat → Nat → St → Hp → Prop, (∃ m, W 0 m σ H) ∧ ∀ i m σ H, W i m σ H →
      ((Itl K a).stop i H ∧ D.nx σ H) ∨ ((Itl K a).go i H ∧ ∃ N : St → Hp → Prop, (∀ σ' H', N σ' H' → ∃ m', m' < m ∧ W (i + 1) m' σ' H') ∧ ∀ x H', (Itl K a).yld i H x H' → g x σ H' fun σ2 H2 => tb { D with nx := N, ct := N, bk := D.nx } σ2 H2) := by
  refine ⟨fun i m σ H => m = xs.length - i ∧ i ≤ xs.length ∧ Pv i σ H, ⟨xs.length, by simp, Nat.zero_le _, h0⟩, ?_⟩
  rintro i m σ H ⟨rfl, hi, p⟩
  have q := hl i σ H hi p
  by_cases hlt : i < xs.length
  · refine .inr ⟨⟨xs, xs[i], q, by simp [hlt]⟩, Pv (i + 1), fun σ' H' p' => ⟨xs.length - (i + 1), by omega, rfl, hlt, p'⟩, fun x H' y => ?_⟩
    obtain ⟨e, y⟩ := y
    subst e
    exact hs i x σ _ (y xs q) p
  · have e : i = xs.length := by omega
    subst e
    exact .inl ⟨⟨xs, q, Nat.le_refl _⟩, hd σ H p⟩
theorem for_tup {K : PySem.W.Frag} {a : Addr} {xs : List V} {g : TG} {tb : TS} {D : Ends} {σ : St} {H : Hp} (Pv : Nat → St → Hp → Prop) (h0 : Pv 0 σ H) (hl : ∀ i σ H, i ≤ xs.length → Pv i σ H → SqT K H a xs)
    (hs : ∀ i x σ H, xs[i]? = some x → Pv i σ H → g x σ H fun σ2 H2 => tb { D with nx := Pv (i + 1), ct := Pv (i + 1), bk := D.nx } σ2 H2) (hd : ∀ σ H, Pv xs.length σ H → D.nx σ H) :
    ∃ W : Nat → Nat → St → Hp → Prop, (∃ m, W 0 m σ H) ∧ ∀ i m σ H, W i m σ H →
      ((Itt K a).stop i H ∧ D.nx σ H) ∨ ((Itt K a).go i H ∧ ∃ N : St → Hp → Prop, (∀ σ' H', N σ' H' → ∃ m', m' < m ∧ W (i + 1) m' σ' H') ∧ ∀ x H', (Itt K a).yld i H x H' → g x σ H' fun σ2 H2 => tb { D with nx := N, ct := N, bk := D.nx } σ2 H2) := by
  refine ⟨fun i m σ H => m = xs.length - i ∧ i ≤ xs.length ∧ Pv i σ H, ⟨xs.length, by simp, Nat.zero_le _, h0⟩, ?_⟩
  rintro i m σ H ⟨rfl, hi, p⟩
  have q := hl i σ H hi p
  by_cases hlt : i < xs.length
  · refine .inr ⟨⟨xs, xs[i], q, by simp [hlt]⟩, Pv (i + 1), fun σ' H' p' => ⟨xs.length - (i + 1), by omega, rfl, hlt, p'⟩, fun x H' y => ?_⟩
    obtain ⟨e, y⟩ := y
    subst e
    exact hs i x σ _ (y xs q) p
  · have e : i = xs.length := by omega
    subst e
    exact .inl ⟨⟨xs, q, Nat.le_refl _⟩, hd σ H p⟩
theorem for_range {lo : Int} {n : Nat} {g : TG} {tb : TS} {D : Ends} {σ : St} {H : Hp} (Pv : Nat → St → Hp → Prop) (h0 : Pv 0 σ H)
    (hs : ∀ i σ H, i < n → Pv i σ H → g (.int (lo + i)) σ H fun σ2 H2 => tb { D with nx := Pv (i + 1), ct := Pv (i + 1), bk := D.nx } σ2 H2) (hd : ∀ σ H, Pv n σ H → D.nx σ H) :
    ∃ W : Nat → Nat → St → Hp → Prop, (∃ m, W 0 m σ H) ∧ ∀ i m σ H, W i m σ H →
      ((Itr lo n).stop i H ∧ D.nx σ H) ∨ ((Itr lo n).go i H ∧ ∃ N : St → Hp → Prop, (∀ σ' H', N σ' H' → ∃ m', m' < m ∧ W (i + 1) m' σ' H') ∧ ∀ x H', (Itr lo n).yld i H x H' → g x σ H' fun σ2 H2 => tb { D with nx := N, ct := N, bk := D.nx } σ2 H2) := by
  refine ⟨fun i m σ H => m = n - i ∧ i ≤ n ∧ Pv i σ H, ⟨n, by simp, Nat.zero_le _, h0⟩, ?_⟩
  rintro i m σ H ⟨rfl, hi, p⟩
  by_cases hlt : i < n
  · refine .inr ⟨hlt, Pv (i + 1), fun σ' H' p' => ⟨n - (i + 1), by omega, rfl, hlt, p'⟩, fun x H' y => ?_⟩
    obtain ⟨e, y⟩ := y
    subst e y
    exact hs i σ _ hlt p
  · have e : i = n := by omega
    subst e
    exact .inl ⟨Nat.le_refl _, hd σ H p⟩
/-- while, by a word and a measure of the state -/
theorem while_by {c : TT} {tb : TS} {D : Ends} {σ : St} {H : Hp} (Pv : St → Hp → Prop) (μ : St → Hp → Nat) (h0 : Pv σ H)
    (hs : ∀ σ H, Pv σ H → c σ H fun b H1 => if b = true then tb { D with nx := fun σ' H' => Pv σ' H' ∧ μ σ' H' < μ σ H, ct := fun σ' H' => Pv σ' H' ∧ μ σ' H' < μ σ H, bk := D.nx } σ H1 else D.nx σ H1)
    (mono : ∀ σ H Q Q', (∀ b H1, Q b H1 → Q' b H1) → c σ H Q → c σ H Q') : tWhile c tb D σ H := by
  refine ⟨fun m σ H => m = μ σ H ∧ Pv σ H, ⟨_, rfl, h0⟩, ?_⟩
  rintro m σ H ⟨rfl, p⟩
  refine mono σ H _ _ (fun b H1 q => ?_) (hs σ H p)
  cases b with
  | true => exact ⟨_, fun σ' H' ⟨p', l⟩ => ⟨_, l, rfl, p'⟩, q⟩
  | false => exact q
end L2

namespace L2
open PySem PySem.Spec PyProof.Rows

abbrev R2 := V → V → Hp → VK → Prop
/-- a two-place operation on values: f is binaryOp op, inplaceOp op or compareOp op -/
def OpR (X : Cx) (f : Value → Value → Sem Value) (r : R2) : Prop :=
  ∀ (pins : List (Addr × Obj)) (s : Shared) (σ : St) (H : Hp) (x y : V) (v u : Value) (Q : VK), Inv X pins σ H s → RelV x v → RelV y u → r x y H Q →
    wpAny (model X.prog X.w) X.A (f v u) (EP X pins σ Q) X.xe s
/-- a one-place operation -/
def UnR (X : Cx) (f : Value → Sem Value) (r : V → Hp → VK → Prop) : Prop :=
  ∀ (pins : List (Addr × Obj)) (s : Shared) (σ : St) (H : Hp) (x : V) (v : Value) (Q : VK), Inv X pins σ H s → RelV x v → r x H Q →
    wpAny (model X.prog X.w) X.A (f v) (EP X pins σ Q) X.xe s
/-- a call of a value that is known (a builtin, a type) with values -/
def CallR (X : Cx) (f : Value) (r : List V → Hp → VK → Prop) : Prop :=
  ∀ (pins : List (Addr × Obj)) (s : Shared) (σ : St) (H : Hp) (xs : List V) (us : List Value) (Q : VK), Inv X pins σ H s → Vals xs us → r xs H Q →
    wpAny (model X.prog X.w) X.A (call f us) (EP X pins σ Q) X.xe s
/-- a value's truth -/
def TruR (X : Cx) (r : V → Hp → (Bool → Hp → Prop) → Prop) : Prop :=
  ∀ (pins : List (Addr × Obj)) (s : Shared) (σ : St) (H : Hp) (x : V) (v : Value) (Q : Bool → Hp → Prop), Inv X pins σ H s → RelV x v → r x H Q →
    wpAny (model X.prog X.w) X.A (truthy v) (TP X pins σ Q) X.xe s

def tOp (r : R2) (ta tb : TE) : TE := fun σ H Q => ta σ H fun x H1 => tb σ H1 fun y H2 => r x y H2 Q
def tUn (r : V → Hp → VK → Prop) (ta : TE) : TE := fun σ H Q => ta σ H fun x H1 => r x H1 Q
/-- ints in, under C, and a value out -/
def rI (C : Int → Int → Prop) (g : Int → Int → V) : R2 := fun x y H Q => ∃ i j, x = .int i ∧ y = .int j ∧ C i j ∧ Q (g i j) H
def rI0 (g : Int → Int → V) : R2 := fun x y H Q => ∃ i j, x = .int i ∧ y = .int j ∧ Q (g i j) H
def rU (g : Int → V) : V → Hp → VK → Prop := fun x H Q => ∃ i, x = .int i ∧ Q (g i) H

section
variable {X : Cx} {a b c : Expr} {ta tb tc : TE} {pos : Pos}

theorem binT (ha : PE X a ta) (hb : PE X b tb) {pins : List (Addr × Obj)} {s : Shared} {σ : St} {H : Hp} {R : V → V → Hp → Prop} (I : Inv X pins σ H s)
    (h : ta σ H fun x H1 => tb σ H1 fun y H2 => R x y H2) {Q : Value → Shared → Prop} {f : Value → Value → Sem Value}
    (hf : ∀ v u s2 x y H2, Inv X pins σ H2 s2 → RelV x v → RelV y u → R x y H2 → wpAny (model X.prog X.w) X.A (f v u) Q X.xe s2) :
    wpAny (model X.prog X.w) X.A (eval a X.env) (fun v s₁ => wpAny (model X.prog X.w) X.A (eval b X.env) (fun u s₂ => wpAny (model X.prog X.w) X.A (f v u) Q X.xe s₂) X.xe s₁) X.xe s := by
  refine thn (ha pins s σ H _ I h) fun v s1 ⟨x, H1, I1, r1, q1⟩ => ?_
  refine thn (hb pins s1 σ H1 _ I1 q1) fun u s2 ⟨y, H2, I2, r2, q2⟩ => ?_
  exact hf v u s2 x y H2 I2 r1 r2 q2

theorem pe_op {op : Operator} {r : R2} (ho : OpR X (binaryOp op) r) (ha : PE X a ta) (hb : PE X b tb) : PE X (.BinOp a op b pos) (tOp r ta tb) := by
  intro pins s σ H Q I h
  exact wpAny_BinOp (binT ha hb I h fun v u s2 x y H2 I2 rx ry q => ho pins s2 σ H2 x y v u Q I2 rx ry q)
theorem pe_un {op : UnaryOp} {r : V → Hp → VK → Prop} (ho : UnR X (unaryOp op) r) (ha : PE X a ta) : PE X (.UnaryOp op a pos) (tUn r ta) := by
  intro pins s σ H Q I h
  exact UnaryOp_ (thn (ha pins s σ H _ I h) fun v s1 ⟨x, H1, I1, r1, q1⟩ => ho pins s1 σ H1 x v Q I1 r1 q1)
/-- a op= e at a name: the name's slot i -/
theorem augR {op : Operator} {r : R2} (ho : OpR X (inplaceOp op) r) {pins : List (Addr × Obj)} {s : Shared} {σ : St} {H : Hp} {x y : V} {v u : Value} {Q : VK} (I : Inv X pins σ H s)
    (rx : RelV x v) (ry : RelV y u) (q : r x y H Q) : wpAny (model X.prog X.w) X.A (inplaceOp op v u) (EP X pins σ Q) X.xe s := ho pins s σ H x y v u Q I rx ry q

/-! ### ints -/
theorem opI {f : Value → Value → Sem Value} {C : Int → Int → Prop} {g : Int → Int → Int}
    (rule : ∀ (i j : Int) (t u : Tok) (s : Shared) (Q : Value → Shared → Prop) (E : Value → Shared → Prop), C i j → Q (.int (g i j) s.toks) { s with toks := s.toks + 1 } → wpAny (model X.prog X.w) X.A (f (.int i t) (.int j u)) Q E s) :
    OpR X f (rI C fun i j => .int (g i j)) := by
  intro pins s σ H x y v u Q I rx ry h
  obtain ⟨i, j, rfl, rfl, hc, q⟩ := h
  obtain ⟨t, rfl⟩ := rx
  obtain ⟨t', rfl⟩ := ry
  exact rule i j t t' s _ _ hc ⟨.int (g i j), H, I.tok _, ⟨_, rfl⟩, q⟩
theorem opI0 {f : Value → Value → Sem Value} {g : Int → Int → Int}
    (rule : ∀ (i j : Int) (t u : Tok) (s : Shared) (Q : Value → Shared → Prop) (E : Value → Shared → Prop), Q (.int (g i j) s.toks) { s with toks := s.toks + 1 } → wpAny (model X.prog X.w) X.A (f (.int i t) (.int j u)) Q E s) :
    OpR X f (rI0 fun i j => .int (g i j)) := by
  intro pins s σ H x y v u Q I rx ry h
  obtain ⟨i, j, rfl, rfl, q⟩ := h
  obtain ⟨t, rfl⟩ := rx
  obtain ⟨t', rfl⟩ := ry
  exact rule i j t t' s _ _ ⟨.int (g i j), H, I.tok _, ⟨_, rfl⟩, q⟩
theorem opB0 {f : Value → Value → Sem Value} {g : Int → Int → Bool}
    (rule : ∀ (i j : Int) (t u : Tok) (s : Shared) (Q : Value → Shared → Prop) (E : Value → Shared → Prop), Q (.bool (g i j)) s → wpAny (model X.prog X.w) X.A (f (.int i t) (.int j u)) Q E s) :
    OpR X f (rI0 fun i j => .bl (g i j)) := by
  intro pins s σ H x y v u Q I rx ry h
  obtain ⟨i, j, rfl, rfl, q⟩ := h
  obtain ⟨t, rfl⟩ := rx
  obtain ⟨t', rfl⟩ := ry
  exact rule i j t t' s _ _ ⟨.bl (g i j), H, I, rfl, q⟩

def CDiv (i j : Int) : Prop := 0 < j ∧ j < 1073741824
def CDivN (i j : Int) : Prop := j ≠ 0 ∧ j.natAbs < 1073741824
def CPow (i j : Int) : Prop := 0 ≤ j ∧ j ≤ 1000000 ∧ i.natAbs < 2 ^ 64
def CMul (i j : Int) : Prop := (-(2 ^ 64) < i ∧ i < 2 ^ 64) ∨ (-(2 ^ 64) < j ∧ j < 2 ^ 64)
theorem CMul.ok {i j : Int} (h : CMul i j) : IntMulOk i j := by
  rcases h with ⟨h1, h2⟩ | ⟨h1, h2⟩
  · exact .of_left (intBits_le_64 h1 h2)
  · exact .of_right (intBits_le_64 h1 h2)
theorem two_pow_nn (k : Nat) : (0 : Int) ≤ 2 ^ k := by
  rw [two_pow_cast]
  exact Int.natCast_nonneg _

theorem op_add : OpR X (binaryOp .Add) (rI0 fun i j => .int (i + j)) := opI0 fun _ _ _ _ _ _ _ q => add_int q
theorem op_sub : OpR X (binaryOp .Sub) (rI0 fun i j => .int (i - j)) := opI0 fun _ _ _ _ _ _ _ q => sub_int q
theorem op_mul : OpR X (binaryOp .Mult) (rI CMul fun i j => .int (i * j)) := opI fun _ _ _ _ _ _ _ hc q => mul_int q hc.ok
/-- // by a positive divisor -/
theorem op_fdiv : OpR X (binaryOp .FloorDiv) (rI CDiv fun i j => .int (i / j)) := opI fun i j _ _ _ _ _ hc q => by
  have h1 : (0 : Int) < j := hc.1
  have h2 : j < 1073741824 := hc.2
  exact floordiv_int (by omega) (by rw [Int.fdiv_eq_ediv_of_nonneg i (by omega)]; exact q) (.inl (PyProof.noPylong_small (by omega)))
theorem op_fdivN : OpR X (binaryOp .FloorDiv) (rI CDivN fun i j => .int (i.fdiv j)) := opI fun _ _ _ _ _ _ _ hc q => floordiv_int hc.1 q (.inl (PyProof.noPylong_small hc.2))
/-- % by a positive divisor of any size -/
theorem op_mod : OpR X (binaryOp .Mod) (rI (fun _ j => 0 < j) fun i j => .int (i % j)) := opI fun i j _ _ _ _ _ hc q => by
  have h1 : (0 : Int) < j := hc
  exact mod_int' (by omega) (by rw [Int.fmod_eq_emod_of_nonneg i (by omega)]; exact q)
theorem op_modN : OpR X (binaryOp .Mod) (rI (fun _ j => j ≠ 0) fun i j => .int (i.fmod j)) := opI fun _ _ _ _ _ _ _ hc q => mod_int' hc q
theorem op_pow : OpR X (binaryOp .Pow) (rI CPow fun i j => .int (i ^ j.toNat)) := opI fun _ _ _ _ _ _ _ hc q => pow_int_small hc.1 hc.2.1 hc.2.2 q
theorem op_shl : OpR X (binaryOp .LShift) (rI CPow fun i j => .int (i * 2 ^ j.toNat)) := opI fun _ _ _ _ _ _ _ hc q => lshift_int_small hc.1 hc.2.1 hc.2.2 q
theorem op_shr : OpR X (binaryOp .RShift) (rI (fun _ j => 0 ≤ j) fun i j => .int (i / 2 ^ j.toNat)) := opI fun i j _ _ _ _ _ hc q =>
  rshift_int hc (by rw [Int.fdiv_eq_ediv_of_nonneg i (two_pow_nn _)]; exact q)
theorem op_and : OpR X (binaryOp .BitAnd) (rI0 fun i j => .int (Builtin.bitAnd i j)) := opI0 fun _ _ _ _ _ _ _ q => and_int q
theorem op_or : OpR X (binaryOp .BitOr) (rI0 fun i j => .int (Builtin.bitOr i j)) := opI0 fun _ _ _ _ _ _ _ q => or_int q
theorem op_xor : OpR X (binaryOp .BitXor) (rI0 fun i j => .int (Builtin.bitXor i j)) := opI0 fun _ _ _ _ _ _ _ q => xor_int q

theorem iop_add : OpR X (inplaceOp .Add) (rI0 fun i j => .int (i + j)) := opI0 fun _ _ _ _ _ _ _ q => iadd_int q
theorem iop_sub : OpR X (inplaceOp .Sub) (rI0 fun i j => .int (i - j)) := opI0 fun _ _ _ _ _ _ _ q => isub_int q
theorem iop_mul : OpR X (inplaceOp .Mult) (rI CMul fun i j => .int (i * j)) := opI fun _ _ _ _ _ _ _ hc q => imul_int q hc.ok
theorem iop_fdiv : OpR X (inplaceOp .FloorDiv) (rI CDiv fun i j => .int (i / j)) := opI fun i j _ _ _ _ _ hc q => by
  have h1 : (0 : Int) < j := hc.1
  have h2 : j < 1073741824 := hc.2
  exact ifloordiv_int (by omega) (by rw [Int.fdiv_eq_ediv_of_nonneg i (by omega)]; exact q) (.inl (PyProof.noPylong_small (by omega)))
theorem iop_mod : OpR X (inplaceOp .Mod) (rI (fun _ j => 0 < j) fun i j => .int (i % j)) := opI fun i j _ _ _ _ _ hc q => by
  have h1 : (0 : Int) < j := hc
  exact imod_int (by omega) (by rw [Int.fmod_eq_emod_of_nonneg i (by omega)]; exact q)
theorem iop_shl : OpR X (inplaceOp .LShift) (rI CPow fun i j => .int (i * 2 ^ j.toNat)) := opI fun _ _ _ _ _ _ _ hc q => ilshift_int_small hc.1 hc.2.1 hc.2.2 q
theorem iop_shr : OpR X (inplaceOp .RShift) (rI (fun _ j => 0 ≤ j) fun i j => .int (i / 2 ^ j.toNat)) := opI fun i j _ _ _ _ _ hc q =>
  irshift_int hc (by rw [Int.fdiv_eq_ediv_of_nonneg i (two_pow_nn _)]; exact q)
theorem iop_and : OpR X (inplaceOp .BitAnd) (rI0 fun i j => .int (Builtin.bitAnd i j)) := opI0 fun _ _ _ _ _ _ _ q => iand_int q
theorem iop_or : OpR X (inplaceOp .BitOr) (rI0 fun i j => .int (Builtin.bitOr i j)) := opI0 fun _ _ _ _ _ _ _ q => ior_int q
theorem iop_xor : OpR X (inplaceOp .BitXor) (rI0 fun i j => .int (Builtin.bitXor i j)) := opI0 fun _ _ _ _ _ _ _ q => ixor_int q

theorem unI {f : Value → Sem Value} {g : Int → Int}
    (rule : ∀ (i : Int) (t : Tok) (s : Shared) (Q : Value → Shared → Prop) (E : Value → Shared → Prop), Q (.int (g i) s.toks) { s with toks := s.toks + 1 } → wpAny (model X.prog X.w) X.A (f (.int i t)) Q E s) :
    UnR X f (rU fun i => .int (g i)) := by
  intro pins s σ H x v Q I rx h
  obtain ⟨i, rfl, q⟩ := h
  obtain ⟨t, rfl⟩ := rx
  exact rule i t s _ _ ⟨.int (g i), H, I.tok _, ⟨_, rfl⟩, q⟩
theorem un_neg : UnR X (unaryOp .USub) (rU fun i => .int (-i)) := unI fun _ _ _ _ _ q => neg_int q
theorem un_inv : UnR X (unaryOp .Invert) (rU fun i => .int (Builtin.bitNot i)) := unI fun _ _ _ _ _ q => invert_int q

/-! ### bools among ints: n += (a < b) -/
theorem op_add_ib : OpR X (binaryOp .Add) (fun x y H Q => ∃ i k, x = .int i ∧ y = .bl k ∧ Q (.int (i + b2i k)) H) := by
  intro pins s σ H x y v u Q I rx ry h
  obtain ⟨i, k, rfl, rfl, q⟩ := h
  obtain ⟨t, rfl⟩ := rx
  cases ry
  exact add_int_bool ⟨.int (i + b2i k), H, I.tok _, ⟨_, rfl⟩, q⟩
end

/-! ### comparisons -/
/-- the scalars that == tells apart as data does -/
def scal : V → V → Bool
  | .non, .non => true | .non, .int _ => true | .int _, .non => true | .non, .bl _ => true | .bl _, .non => true | .non, .str _ => true | .str _, .non => true
  | .int _, .int _ => true | .bl _, .bl _ => true | .str _, .str _ => true | .byt _, .byt _ => true
  | .int _, .str _ => true | .str _, .int _ => true | .bl _, .str _ => true | .str _, .bl _ => true
  | _, _ => false
def rEq : R2 := fun x y H Q => scal x y = true ∧ Q (.bl (decide (x = y))) H
def rNe : R2 := fun x y H Q => scal x y = true ∧ Q (.bl (!decide (x = y))) H

theorem dec_int {i j : Int} : decide (V.int i = V.int j) = (i == j) := by
  rw [Bool.eq_iff_iff]
  simp
theorem dec_bl {i j : Bool} : decide (V.bl i = V.bl j) = (i == j) := by
  rw [Bool.eq_iff_iff]
  simp
theorem dec_str {i j : Str} : decide (V.str i = V.str j) = (i == j) := by
  rw [Bool.eq_iff_iff]
  simp
theorem dec_byt {i j : Array UInt8} : decide (V.byt i = V.byt j) = (i.toList == j.toList) := by
  rw [Bool.eq_iff_iff]
  cases i
  cases j
  simp

section
variable {X : Cx} {a b c : Expr} {ta tb tc : TE} {pos : Pos}
theorem fin_bl {pins : List (Addr × Obj)} {σ : St} {H : Hp} {s : Shared} {Q : VK} {k k' : Bool} (I : Inv X pins σ H s) (q : Q (.bl k) H) (e : k = k') : EP X pins σ Q (.bool k') s := by
  subst e
  exact ⟨.bl k, H, I, rfl, q⟩
theorem op_eq : OpR X (compareOp .Eq) rEq := by
  intro pins s σ H x y v u Q I rx ry h
  obtain ⟨hs, q⟩ := h
  cases x with
  | non =>
    cases rx
    cases y with
    | non => cases ry; exact PySem.EqNone.eq_none_none (fin_bl I q (by simp))
    | bl j => cases ry; exact PySem.EqNone.eq_none_bool (fin_bl I q (by simp))
    | int j => obtain ⟨t', rfl⟩ := ry; exact PySem.EqNone.eq_none_int (fin_bl I q (by simp))
    | str j => obtain ⟨t', rfl⟩ := ry; exact PySem.EqNone.eq_none_str (fin_bl I q (by simp))
    | _ => exact absurd (show false = true from hs) Bool.false_ne_true
  | bl i =>
    cases rx
    cases y with
    | non => cases ry; exact PySem.EqNone.eq_bool_none (fin_bl I q (by simp))
    | bl j => cases ry; exact eq_bool (fin_bl I q dec_bl)
    | str j => obtain ⟨t', rfl⟩ := ry; exact PySem.EqMixed.eq_bool_str (fin_bl I q (by simp))
    | _ => exact absurd (show false = true from hs) Bool.false_ne_true
  | int i =>
    obtain ⟨t, rfl⟩ := rx
    cases y with
    | non => cases ry; exact PySem.EqNone.eq_int_none (fin_bl I q (by simp))
    | int j => obtain ⟨t', rfl⟩ := ry; exact eq_int (fin_bl I q dec_int)
    | str j => obtain ⟨t', rfl⟩ := ry; exact PySem.EqMixed.eq_int_str (fin_bl I q (by simp))
    | _ => exact absurd (show false = true from hs) Bool.false_ne_true
  | str i =>
    obtain ⟨t, rfl⟩ := rx
    cases y with
    | non => cases ry; exact PySem.EqNone.eq_str_none (fin_bl I q (by simp))
    | bl j => cases ry; exact PySem.EqMixed.eq_str_bool (fin_bl I q (by simp))
    | int j => obtain ⟨t', rfl⟩ := ry; exact PySem.EqMixed.eq_str_int (fin_bl I q (by simp))
    | str j => obtain ⟨t', rfl⟩ := ry; exact eq_str (fin_bl I q dec_str)
    | _ => exact absurd (show false = true from hs) Bool.false_ne_true
  | byt i =>
    obtain ⟨t, rfl⟩ := rx
    cases y with
    | byt j => obtain ⟨t', rfl⟩ := ry; exact PySem.W.eq_bytes (fin_bl I q dec_byt)
    | _ => exact absurd (show false = true from hs) Bool.false_ne_true
  | _ => cases y <;> exact absurd (show false = true from hs) Bool.false_ne_true
theorem op_ne : OpR X (compareOp .NotEq) rNe := by
  intro pins s σ H x y v u Q I rx ry h
  obtain ⟨hs, q⟩ := h
  cases x with
  | non =>
    cases rx
    cases y with
    | non => cases ry; exact PySem.EqNone.ne_none_none (fin_bl I q (by simp))
    | bl j => cases ry; exact PySem.EqNone.ne_none_bool (fin_bl I q (by simp))
    | int j => obtain ⟨t', rfl⟩ := ry; exact PySem.EqNone.ne_none_int (fin_bl I q (by simp))
    | str j => obtain ⟨t', rfl⟩ := ry; exact PySem.EqNone.ne_none_str (fin_bl I q (by simp))
    | _ => exact absurd (show false = true from hs) Bool.false_ne_true
  | bl i =>
    cases rx
    cases y with
    | non => cases ry; exact PySem.EqNone.ne_bool_none (fin_bl I q (by simp))
    | bl j => cases ry; exact ne_bool (fin_bl I q (congrArg not dec_bl))
    | str j => obtain ⟨t', rfl⟩ := ry; exact PySem.EqMixed.ne_bool_str (fin_bl I q (by simp))
    | _ => exact absurd (show false = true from hs) Bool.false_ne_true
  | int i =>
    obtain ⟨t, rfl⟩ := rx
    cases y with
    | non => cases ry; exact PySem.EqNone.ne_int_none (fin_bl I q (by simp))
    | int j => obtain ⟨t', rfl⟩ := ry; exact ne_int (fin_bl I q (congrArg not dec_int))
    | str j => obtain ⟨t', rfl⟩ := ry; exact PySem.EqMixed.ne_int_str (fin_bl I q (by simp))
    | _ => exact absurd (show false = true from hs) Bool.false_ne_true
  | str i =>
    obtain ⟨t, rfl⟩ := rx
    cases y with
    | non => cases ry; exact PySem.EqNone.ne_str_none (fin_bl I q (by simp))
    | bl j => cases ry; exact PySem.EqMixed.ne_str_bool (fin_bl I q (by simp))
    | int j => obtain ⟨t', rfl⟩ := ry; exact PySem.EqMixed.ne_str_int (fin_bl I q (by simp))
    | str j => obtain ⟨t', rfl⟩ := ry; exact ne_str (fin_bl I q (congrArg not dec_str))
    | _ => exact absurd (show false = true from hs) Bool.false_ne_true
  | byt i =>
    obtain ⟨t, rfl⟩ := rx
    cases y with
    | byt j => obtain ⟨t', rfl⟩ := ry; exact PySem.W.ne_bytes (fin_bl I q (congrArg not dec_byt))
    | _ => exact absurd (show false = true from hs) Bool.false_ne_true
  | _ => cases y <;> exact absurd (show false = true from hs) Bool.false_ne_true

theorem op_lt : OpR X (compareOp .Lt) (rI0 fun i j => .bl (decide (i < j))) := opB0 fun _ _ _ _ _ _ _ q => lt_int q
theorem op_le : OpR X (compareOp .LtE) (rI0 fun i j => .bl (decide (i ≤ j))) := opB0 fun _ _ _ _ _ _ _ q => le_int q
theorem op_gt : OpR X (compareOp .Gt) (rI0 fun i j => .bl (decide (j < i))) := opB0 fun _ _ _ _ _ _ _ q => gt_int q
theorem op_ge : OpR X (compareOp .GtE) (rI0 fun i j => .bl (decide (j ≤ i))) := opB0 fun _ _ _ _ _ _ _ q => ge_int q
theorem op_lt_str : OpR X (compareOp .Lt) (fun x y H Q => ∃ i j, x = .str i ∧ y = .str j ∧ Q (.bl (decide (i.cps.toList < j.cps.toList))) H) := by
  intro pins s σ H x y v u Q I rx ry h
  obtain ⟨i, j, rfl, rfl, q⟩ := h
  obtain ⟨t, rfl⟩ := rx
  obtain ⟨t', rfl⟩ := ry
  exact lt_str (fin_bl I q rfl)
/-- the one string within the other -/
theorem op_in_str : OpR X (compareOp .In) (fun x y H Q => ∃ i j, x = .str i ∧ y = .str j ∧ Q (.bl (!(Builtin.Str.occurrences j i 0 j.length 1).isEmpty)) H) := by
  intro pins s σ H x y v u Q I rx ry h
  obtain ⟨i, j, rfl, rfl, q⟩ := h
  obtain ⟨t, rfl⟩ := rx
  obtain ⟨t', rfl⟩ := ry
  exact in_str (fin_bl I q rfl)

/-- is None, is not None: the right side a value none -/
theorem op_isN : OpR X (compareOp .Is) (fun x y H Q => y = .non ∧ Q (.bl (decide (x = .non))) H) := by
  intro pins s σ H x y v u Q I rx ry h
  obtain ⟨rfl, q⟩ := h
  cases ry
  refine is_none_gen (fin_bl I q ?_)
  cases x <;> first
    | (cases rx; rfl)
    | (obtain ⟨t, rfl⟩ := rx; rfl)
theorem op_notN : OpR X (compareOp .IsNot) (fun x y H Q => y = .non ∧ Q (.bl (!decide (x = .non))) H) := by
  intro pins s σ H x y v u Q I rx ry h
  obtain ⟨rfl, q⟩ := h
  cases ry
  refine isnot_none_gen (fin_bl I q ?_)
  cases x <;> first
    | (cases rx; rfl)
    | (obtain ⟨t, rfl⟩ := rx; rfl)

theorem op_notin_str : OpR X (compareOp .NotIn) (fun x y H Q => ∃ i j, x = .str i ∧ y = .str j ∧ Q (.bl (!(!(Builtin.Str.occurrences j i 0 j.length 1).isEmpty))) H) := by
  intro pins s σ H x y v u Q I rx ry h
  obtain ⟨i, j, rfl, rfl, q⟩ := h
  obtain ⟨t, rfl⟩ := rx
  obtain ⟨t', rfl⟩ := ry
  exact notIn_str (fin_bl I q rfl)
/-- is, is not of two objects that are tracked lists or instances -/
def isObj : HO → Bool
  | .lst _ => true
  | .ins _ _ _ => true
  | _ => false
theorem obj_there {pins : List (Addr × Obj)} {s : Shared} {σ : St} {H : Hp} {a : Addr} {o : HO} (I : Inv X pins σ H s) (h : H a = some o) (p : isObj o = true) : ∃ ob, s.heap.get? a = some ob ∧ ob.cls ≠ .type "tuple" := by
  cases o with
  | lst xs =>
    obtain ⟨_, its, n, _, e⟩ : xs.length ≤ sizeLine ∧ ∃ (its : List Value) (n : Nat), Vals xs its ∧ s.heap.get? a = some { cls := .type "list", data := .seq its.toArray n } := I.hok a _ h
    exact ⟨_, e, (by show Value.type "list" ≠ .type "tuple"; decide +kernel)⟩
  | ins C dx fs =>
    have x := I.hok a _ h
    obtain ⟨_, _, _, e, _⟩ := x
    exact ⟨_, e, (by show Value.ref C ≠ .type "tuple"; exact fun z => by cases z)⟩
  | _ => exact absurd (show false = true from p) Bool.false_ne_true
theorem op_is_ref : OpR X (compareOp .Is) (fun x y H Q => ∃ a b oa ob, x = .ref a ∧ y = .ref b ∧ H a = some oa ∧ isObj oa = true ∧ H b = some ob ∧ isObj ob = true ∧ Q (.bl (decide (a = b))) H) := by
  intro pins s σ H x y v u Q I rx ry h
  obtain ⟨a, b, oa, ob, rfl, rfl, ha, pa, hb, pb, q⟩ := h
  cases rx
  cases ry
  obtain ⟨o1, e1, n1⟩ := obj_there I ha pa
  obtain ⟨o2, e2, _⟩ := obj_there I hb pb
  by_cases z : a = b
  · subst z
    exact wpAny_is_ref_self (fin_bl I q (by simp))
  · exact wpAny_is_ref_other z e1 e2 n1 (fin_bl I q (by simp [z]))
theorem op_isnot_ref : OpR X (compareOp .IsNot) (fun x y H Q => ∃ a b oa ob, x = .ref a ∧ y = .ref b ∧ H a = some oa ∧ isObj oa = true ∧ H b = some ob ∧ isObj ob = true ∧ Q (.bl (!decide (a = b))) H) := by
  intro pins s σ H x y v u Q I rx ry h
  obtain ⟨a, b, oa, ob, rfl, rfl, ha, pa, hb, pb, q⟩ := h
  cases rx
  cases ry
  obtain ⟨o1, e1, n1⟩ := obj_there I ha pa
  obtain ⟨o2, e2, _⟩ := obj_there I hb pb
  by_cases z : a = b
  · subst z
    exact wpAny_isNot_ref_self (fin_bl I q (by simp))
  · exact wpAny_isNot_ref_other z e1 e2 n1 (fin_bl I q (by simp [z]))

/-- two rules for one operation: by cases -/
theorem OpR.or {f : Value → Value → Sem Value} {r r' : R2} (h : OpR X f r) (h' : OpR X f r') : OpR X f (fun x y H Q => r x y H Q ∨ r' x y H Q) := by
  intro pins s σ H x y v u Q I rx ry q
  rcases q with q | q
  · exact h pins s σ H x y v u Q I rx ry q
  · exact h' pins s σ H x y v u Q I rx ry q

theorem nomark (b : Expr) {op : CmpOp} (h : op ≠ .In := by decide) (h2 : op ≠ .NotIn := by decide) : behindInMarks op b = false := by
  have e1 : (op == CmpOp.In) = false := by cases op <;> first | rfl | exact absurd rfl h
  have e2 : (op == CmpOp.NotIn) = false := by cases op <;> first | rfl | exact absurd rfl h2
  cases b <;> simp [behindInMarks, e1, e2]
/-- a comparison as a value; hm: nomark b, or (for in, not in) by with_unfolding_all rfl -/
theorem pe_cmpR {op : CmpOp} {r : R2} (ho : OpR X (compareOp op) r) (ha : PE X a ta) (hb : PE X b tb) (hm : behindInMarks op b = false) : PE X (.Compare a [op] [b] pos) (tOp r ta tb) := by
  intro pins s σ H Q I h
  exact wpAny_Compare1 (binT ha hb I h fun v u s2 x y H2 I2 rx ry q => ho pins s2 σ H2 x y v u Q I2 rx ry q) hm
/-- a reading of a value as a test -/
def tTest (t : TE) : TT := fun σ H Q => t σ H fun x H' => ∃ k, x = .bl k ∧ Q k H'
theorem pt_cmpR {op : CmpOp} {r : R2} (ho : OpR X (compareOp op) r) (ha : PE X a ta) (hb : PE X b tb) (hm : behindInMarks op b = false) : PT X (.Compare a [op] [b] pos) (tTest (tOp r ta tb)) := by
  intro pins s σ H Q I h
  refine wpAny_isTrue_Compare1 (thn (ha pins s σ H _ I h) fun v s1 ⟨x, H1, I1, r1, q1⟩ => thn (hb pins s1 σ H1 _ I1 q1) fun u s2 ⟨y, H2, I2, r2, q2⟩ =>
    thn (ho pins s2 σ H2 x y v u _ I2 r1 r2 q2) fun c s3 ⟨z, H3, I3, r3, k, e, q3⟩ => ?_) hm
  subst e
  cases r3
  exact wpAny_truthy_bool ⟨H3, I3, q3⟩
/-- a op1 b op2 c -/
def tChain (r r' : R2) (ta tb tc : TE) : TE := fun σ H Q => ta σ H fun x H1 => tb σ H1 fun y H2 => r x y H2 fun z H3 => ∃ k, z = .bl k ∧
  (if k = true then tc σ H3 fun w' H4 => r' y w' H4 Q else Q (.bl false) H3)
theorem pe_chain {op op' : CmpOp} {r r' : R2} (ho : OpR X (compareOp op) r) (ho' : OpR X (compareOp op') r') (ha : PE X a ta) (hb : PE X b tb) (hc : PE X c tc)
    (hm : lastMarks [op, op'] [b, c] = false := by with_unfolding_all rfl) : PE X (.Compare a [op, op'] [b, c] pos) (tChain r r' ta tb tc) := by
  intro pins s σ H Q I h
  refine Compare_chain (thn (ha pins s σ H _ I h) fun v s1 ⟨x, H1, I1, r1, q1⟩ => chain_link (thn (hb pins s1 σ H1 _ I1 q1) fun u s2 ⟨y, H2, I2, r2, q2⟩ =>
    thn (ho pins s2 σ H2 x y v u _ I2 r1 r2 q2) fun d s3 ⟨z, H3, I3, r3, k, e, q3⟩ => ?_)) hm
  subst e
  cases r3
  refine wpAny_truthy_bool ?_
  cases k with
  | false => exact ite_ff ⟨.bl false, H3, I3, rfl, q3⟩
  | true => exact ite_tt (chain_last (thn (hc pins s3 σ H3 _ I3 q3) fun w' s4 ⟨z', H4, I4, r4, q4⟩ => ho' pins s4 σ H4 y z' u w' Q I4 r2 r4 q4))
theorem pt_chain {op op' : CmpOp} {r r' : R2} (ho : OpR X (compareOp op) r) (ho' : OpR X (compareOp op') r') (ha : PE X a ta) (hb : PE X b tb) (hc : PE X c tc)
    (hm : lastMarks [op, op'] [b, c] = false := by with_unfolding_all rfl) : PT X (.Compare a [op, op'] [b, c] pos) (tTest (tChain r r' ta tb tc)) := by
  intro pins s σ H Q I h
  refine isTrue_chain (thn (ha pins s σ H _ I h) fun v s1 ⟨x, H1, I1, r1, q1⟩ => test_link (thn (hb pins s1 σ H1 _ I1 q1) fun u s2 ⟨y, H2, I2, r2, q2⟩ =>
    thn (ho pins s2 σ H2 x y v u _ I2 r1 r2 q2) fun d s3 ⟨z, H3, I3, r3, k, e, q3⟩ => ?_)) hm
  subst e
  cases r3
  refine wpAny_truthy_bool ?_
  cases k with
  | false =>
    obtain ⟨k', e', q'⟩ := q3
    cases e'
    exact ite_ff ⟨H3, I3, q'⟩
  | true =>
    refine ite_tt (test_last (thn (hc pins s3 σ H3 _ I3 q3) fun w' s4 ⟨z', H4, I4, r4, q4⟩ => thn (ho' pins s4 σ H4 y z' u w' _ I4 r2 r4 q4) fun d' s5 ⟨z2, H5, I5, r5, k2, e2, q5⟩ => ?_))
    subst e2
    cases r5
    exact wpAny_truthy_bool ⟨H5, I5, q5⟩

/-! ### truth -/
/-- a value's truth by the abstract heap -/
def TruV (K : PySem.W.Frag) (x : V) (H : Hp) (k : Bool) : Prop :=
  match x with
  | .non => k = false
  | .bl b => k = b
  | .int i => k = (i != 0)
  | .str y => y.length ≤ sizeLine ∧ k = ((y.length : Int) != 0)
  | .byt y => y.size ≤ sizeLine ∧ k = ((y.size : Int) != 0)
  | .ref p => (∃ xs, SqL K H p xs ∧ k = !xs.isEmpty) ∨ (∃ xs, SqT K H p xs ∧ k = !xs.isEmpty) ∨ ∃ kvs, H p = some (.dK kvs) ∧ k = !kvs.isEmpty
  | _ => False
theorem isEmpty_kv {κ : Type} {kvs : List (κ × V)} {vs : List (κ × Value)} (r : KV kvs vs) : (!vs.isEmpty) = !kvs.isEmpty := by
  cases r <;> rfl
theorem isEmpty_of {xs : List V} {its : List Value} (r : Vals xs its) : (!its.toArray.isEmpty) = !xs.isEmpty := by
  cases r <;> simp
theorem line63 : (sizeLine : Nat) < 2 ^ 63 := by rw [sizeLine_eq]; decide
theorem tru_ok : TruR X (fun x H Q => ∃ k, TruV X.K x H k ∧ Q k H) := by
  intro pins s σ H x v Q I rx h
  obtain ⟨k, e, q⟩ := h
  have hl := line63
  have hs : sizeLine = 16777216 := sizeLine_eq
  cases x with
  | non =>
    cases rx
    have e' : k = false := e
    subst e'
    exact truthy_none ⟨H, I, q⟩
  | bl b =>
    cases rx
    have e' : k = b := e
    subst e'
    exact wpAny_truthy_bool ⟨H, I, q⟩
  | int i =>
    obtain ⟨t, rfl⟩ := rx
    have e' : k = (i != 0) := e
    subst e'
    exact PySem.P.truthy_int ⟨H, I, q⟩
  | str y =>
    obtain ⟨t, rfl⟩ := rx
    obtain ⟨hy, e'⟩ : y.length ≤ sizeLine ∧ k = ((y.length : Int) != 0) := e
    subst e'
    exact PySem.P.truthy_str (by omega) ⟨H, I.tok _, q⟩
  | byt y =>
    obtain ⟨t, rfl⟩ := rx
    obtain ⟨hy, e'⟩ : y.size ≤ sizeLine ∧ k = ((y.size : Int) != 0) := e
    subst e'
    exact PySem.W.truthy_bytes (by omega) ⟨H, I.tok _, q⟩
  | ref p =>
    cases rx
    have e' : (∃ xs, SqL X.K H p xs ∧ k = !xs.isEmpty) ∨ (∃ xs, SqT X.K H p xs ∧ k = !xs.isEmpty) ∨ ∃ kvs, H p = some (.dK kvs) ∧ k = !kvs.isEmpty := e
    rcases e' with ⟨xs, hx, e'⟩ | ⟨xs, hx, e'⟩ | ⟨kvs, hx, e'⟩
    · subst e'
      obtain ⟨its, r, pl, hz⟩ := I.list hx
      have hlen := r.length
      exact wpAny_truthy_list pl.isList (by simp only [List.size_toArray]; omega) ⟨H, I.tok _, by rw [isEmpty_of r]; exact q⟩
    · subst e'
      obtain ⟨its, r, pl, hz⟩ := I.tuple hx
      have hlen := r.length
      exact truthy_tuple pl (by simp only [List.size_toArray]; omega) ⟨H, I.tok _, by rw [isEmpty_of r]; exact q⟩
    · subst e'
      obtain ⟨hz, hS, vs, r, m⟩ : kvs.length ≤ sizeLine ∧ (p == sysModules) = false ∧ ∃ vs, KV kvs vs ∧ s.heap.DictOf (mixKind X.prog X.w) p vs := I.hok p _ hx
      have hlen : kvs.length = vs.length := Paired.length r
      exact wpAny_truthy_dict hS m (by omega) ⟨H, I.tok _, by rw [isEmpty_kv r]; exact q⟩
  | _ => exact (show False from e).elim
/-- any expression whose test is its value's truth (a name, a call, a subscript, a field ..: he by fun _ => rfl) -/
theorem pt_truth (ha : PE X a ta) (he : ∀ whole, isTrue a X.env whole = (do let v ← whole; standAt a.pos; holding [v] (truthy v))) :
    PT X a (fun σ H Q => ta σ H fun x H' => ∃ k, TruV X.K x H' k ∧ Q k H') := by
  intro pins s σ H Q I h
  exact isTrue_plain (thn (ha pins s σ H _ I h) fun v s1 ⟨x, H1, I1, r1, q1⟩ => tru_ok pins s1 σ H1 x v Q I1 r1 q1) (he _)

/-! ### strs and bytes -/
theorem pe_byt {x : List UInt8} {k : Nat} : PE X (.Constant (.bytes x) k pos) (fun _ H Q => Q (.byt x.toArray) H) := fun _ _ _ H _ I h => PySem.W.Constant_bytes ⟨.byt x.toArray, H, I.tok _, ⟨_, rfl⟩, h⟩
theorem op_add_str : OpR X (binaryOp .Add) (fun x y H Q => ∃ i j, x = .str i ∧ y = .str j ∧ i.length + j.length ≤ sizeLine ∧ Q (.str (i ++ j)) H) := by
  intro pins s σ H x y v u Q I rx ry h
  obtain ⟨i, j, rfl, rfl, hz, q⟩ := h
  obtain ⟨t, rfl⟩ := rx
  obtain ⟨t', rfl⟩ := ry
  exact add_str (fun t' tk => ⟨.str (i ++ j), H, I.tok _, ⟨_, rfl⟩, q⟩) hz
theorem iop_add_str : OpR X (inplaceOp .Add) (fun x y H Q => ∃ i j, x = .str i ∧ y = .str j ∧ i.length + j.length ≤ sizeLine ∧ Q (.str (i ++ j)) H) := by
  intro pins s σ H x y v u Q I rx ry h
  obtain ⟨i, j, rfl, rfl, hz, q⟩ := h
  obtain ⟨t, rfl⟩ := rx
  obtain ⟨t', rfl⟩ := ry
  exact iadd_str (fun t' tk => ⟨.str (i ++ j), H, I.tok _, ⟨_, rfl⟩, q⟩) hz
theorem op_add_byt : OpR X (binaryOp .Add) (fun x y H Q => ∃ i j, x = .byt i ∧ y = .byt j ∧ i.size + j.size ≤ 16777216 ∧ Q (.byt (i ++ j)) H) := by
  intro pins s σ H x y v u Q I rx ry h
  obtain ⟨i, j, rfl, rfl, hz, q⟩ := h
  obtain ⟨t, rfl⟩ := rx
  obtain ⟨t', rfl⟩ := ry
  exact PySem.W.KBy.add_bytes hz (fun t' tk => ⟨.byt (i ++ j), H, I.tok _, ⟨_, rfl⟩, q⟩)

def PlainIxT (b : Expr) : Prop := ∀ o i, subscripted b false o i = operate [o, i] (getItem o i)
/-- s[i], 0 ≤ i < len -/
theorem pe_item_str (ha : PE X a ta) (hb : PE X b tb) (hs : PlainIxT b) :
    PE X (.Subscript a b pos) (tOp (fun x y H Q => ∃ z i c, x = .str z ∧ y = .int i ∧ 0 ≤ i ∧ i < 2 ^ 63 ∧ i < z.length ∧ z.cps[i.toNat]? = some c ∧ Q (.str ⟨#[c]⟩) H) ta tb) := by
  intro pins s σ H Q I h
  refine Subscript_ (binT ha hb I h fun v u s2 x y H2 I2 rx ry q => ?_)
  obtain ⟨z, i, c, rfl, rfl, h0, h63, h1, hc, q⟩ := q
  obtain ⟨t, rfl⟩ := rx
  obtain ⟨t', rfl⟩ := ry
  have e : seqIndex? i z.length = some i.toNat := PySem.StrLaws.seqIndex_nonneg h0 h1
  exact tail_any (typeIs_str s2 z t) slot_str_getitem.lookup (getItem_str (c := c) (by
    have e1 : decide (i < -(2 ^ 63 : Int)) = false := decide_eq_false (by omega)
    have e2 : decide (i ≥ 2 ^ 63) = false := decide_eq_false (by omega)
    rw [e1, e2] <;> rfl) (by rw [e]; exact hc) ⟨.str ⟨#[c]⟩, H2, I2.tok _, ⟨_, rfl⟩, q⟩) (hs _ _)
/-- b[i], 0 ≤ i < len -/
theorem pe_item_byt (ha : PE X a ta) (hb : PE X b tb) (hs : PlainIxT b) :
    PE X (.Subscript a b pos) (tOp (fun x y H Q => ∃ (z : List UInt8) (i : Int), x = .byt z.toArray ∧ y = .int i ∧ z.length ≤ sizeLine ∧ 0 ≤ i ∧ i < z.length ∧ Q (.int ((z.getD i.toNat 0).toNat : Nat)) H) ta tb) := by
  intro pins s σ H Q I h
  refine Subscript_ (binT ha hb I h fun v u s2 x y H2 I2 rx ry q => ?_)
  obtain ⟨z, i, rfl, rfl, hz, h0, h1, q⟩ := q
  obtain ⟨t, rfl⟩ := rx
  obtain ⟨t', rfl⟩ := ry
  have hl : sizeLine = 16777216 := sizeLine_eq
  exact tail_any (PySem.W.typeIs_bytes s2 z.toArray t) PySem.W.FB.slot_bytes_getitem.lookup (PySem.W.getItem_bytes (by omega) h0 h1 ⟨.int ((z.getD i.toNat 0).toNat : Nat), H2, I2.tok _, ⟨_, rfl⟩, q⟩) (hs _ _)

/-! ### scalar builtins, by CallR -/
theorem vals1 {x : V} {us : List Value} (r : Vals [x] us) : ∃ u, us = [u] ∧ RelV x u := by
  cases r with
  | cons r1 r2 => cases r2; exact ⟨_, rfl, r1⟩
theorem vals2 {x y : V} {us : List Value} (r : Vals [x, y] us) : ∃ u w', us = [u, w'] ∧ RelV x u ∧ RelV y w' := by
  cases r with
  | cons r1 r2 =>
    cases r2 with
    | cons r3 r4 => cases r4; exact ⟨_, _, rfl, r1, r3⟩
theorem call_abs : CallR X (.builtin "abs") (fun xs H Q => ∃ i, xs = [.int i] ∧ Q (.int (if i < 0 then -i else i)) H) := by
  intro pins s σ H xs us Q I r h
  obtain ⟨i, rfl, q⟩ := h
  obtain ⟨u, rfl, t, rfl⟩ := vals1 r
  exact call_abs_int fun u tk => ⟨.int (if i < 0 then -i else i), H, I.tok _, ⟨_, rfl⟩, q⟩
theorem call_max2 (hc : X.calm = true) : CallR X (.builtin "max") (fun xs H Q => ∃ i j, xs = [.int i, .int j] ∧ Q (.int (if j > i then j else i)) H) := by
  intro pins s σ H xs us Q I r h
  obtain ⟨i, j, rfl, q⟩ := h
  obtain ⟨u, w', rfl, ⟨t, rfl⟩, ⟨t', rfl⟩⟩ := vals2 r
  refine max_two_ints (I.ok.hd hc) fun h' tk k => ⟨_, H, I.kept k, ?_, q⟩
  by_cases hj : j > i
  · rw [if_pos hj, if_pos hj]; exact ⟨_, rfl⟩
  · rw [if_neg hj, if_neg hj]; exact ⟨_, rfl⟩
theorem call_min2 (hc : X.calm = true) : CallR X (.builtin "min") (fun xs H Q => ∃ i j, xs = [.int i, .int j] ∧ Q (.int (if j < i then j else i)) H) := by
  intro pins s σ H xs us Q I r h
  obtain ⟨i, j, rfl, q⟩ := h
  obtain ⟨u, w', rfl, ⟨t, rfl⟩, ⟨t', rfl⟩⟩ := vals2 r
  refine min_two_ints (I.ok.hd hc) fun h' tk k => ⟨_, H, I.kept k, ?_, q⟩
  by_cases hj : j < i
  · rw [if_pos hj, if_pos hj]; exact ⟨_, rfl⟩
  · rw [if_neg hj, if_neg hj]; exact ⟨_, rfl⟩
theorem call_int1 : CallR X (.type "int") (fun xs H Q => (∃ i, xs = [.int i] ∧ Q (.int i) H) ∨ ∃ k, xs = [.bl k] ∧ Q (.int (if k then 1 else 0)) H) := by
  intro pins s σ H xs us Q I r h
  rcases h with ⟨i, rfl, q⟩ | ⟨k, rfl, q⟩
  · obtain ⟨u, rfl, t, rfl⟩ := vals1 r
    exact call_int_int ⟨.int i, H, I, ⟨_, rfl⟩, q⟩
  · obtain ⟨u, rfl, r1⟩ := vals1 r
    cases r1
    exact call_int_bool ⟨.int (if k then 1 else 0), H, I.tok _, ⟨_, rfl⟩, q⟩
theorem call_bool1 : CallR X (.type "bool") (fun xs H Q => (∃ i, xs = [.int i] ∧ Q (.bl (i != 0)) H) ∨ ∃ k, xs = [.bl k] ∧ Q (.bl k) H) := by
  intro pins s σ H xs us Q I r h
  rcases h with ⟨i, rfl, q⟩ | ⟨k, rfl, q⟩
  · obtain ⟨u, rfl, t, rfl⟩ := vals1 r
    exact call_bool_int ⟨.bl (i != 0), H, I, rfl, q⟩
  · obtain ⟨u, rfl, r1⟩ := vals1 r
    cases r1
    exact call_bool_bool ⟨.bl k, H, I, rfl, q⟩
theorem call_str_int : CallR X (.type "str") (fun xs H Q => ∃ i, xs = [.int i] ∧ i.natAbs.log2 < 1920 ∧ Q (.str (toString i)) H) := by
  intro pins s σ H xs us Q I r h
  obtain ⟨i, rfl, hz, q⟩ := h
  obtain ⟨u, rfl, t, rfl⟩ := vals1 r
  exact PySem.P.str_of_int hz ⟨.str _, H, I.tok _, ⟨_, rfl⟩, q⟩
theorem call_ord : CallR X (.builtin "ord") (fun xs H Q => ∃ x, xs = [.str x] ∧ x.length = 1 ∧ Q (.int (x.cps.getD 0 0 : Nat)) H) := by
  intro pins s σ H xs us Q I r h
  obtain ⟨x, rfl, hz, q⟩ := h
  obtain ⟨u, rfl, t, rfl⟩ := vals1 r
  exact ord_of_one hz ⟨.int _, H, I.tok _, ⟨_, rfl⟩, q⟩
theorem call_chr : CallR X (.builtin "chr") (fun xs H Q => ∃ i, xs = [.int i] ∧ 0 ≤ i ∧ i ≤ 1114111 ∧ Q (.str ⟨#[i.toNat]⟩) H) := by
  intro pins s σ H xs us Q I r h
  obtain ⟨i, rfl, h0, h1, q⟩ := h
  obtain ⟨u, rfl, t, rfl⟩ := vals1 r
  exact chr_of_range h0 h1 ⟨.str _, H, I.tok _, ⟨_, rfl⟩, q⟩
/-- len of a str, a bytes, a list, a tuple -/
def LenV (K : PySem.W.Frag) (x : V) (H : Hp) (n : Nat) : Prop :=
  match x with
  | .str y => y.length ≤ sizeLine ∧ n = y.length
  | .byt y => y.size ≤ sizeLine ∧ n = y.size
  | .ref p => (∃ xs, SqL K H p xs ∧ n = xs.length) ∨ ∃ xs, SqT K H p xs ∧ n = xs.length
  | _ => False
theorem call_len : CallR X (.builtin "len") (fun xs H Q => ∃ x n, xs = [x] ∧ LenV X.K x H n ∧ Q (.int n) H) := by
  intro pins s σ H xs us Q I r h
  obtain ⟨x, n, rfl, e, q⟩ := h
  obtain ⟨u, rfl, rx⟩ := vals1 r
  have hl := line63
  have hs : sizeLine = 16777216 := sizeLine_eq
  cases x with
  | str y =>
    obtain ⟨t, rfl⟩ := rx
    obtain ⟨hy, e'⟩ : y.length ≤ sizeLine ∧ n = y.length := e
    subst e'
    exact len_str (by omega) ⟨.int _, H, I.tok _, ⟨_, rfl⟩, q⟩
  | byt y =>
    obtain ⟨t, rfl⟩ := rx
    obtain ⟨hy, e'⟩ : y.size ≤ sizeLine ∧ n = y.size := e
    subst e'
    exact PySem.W.len_bytes (by omega) ⟨.int _, H, I.tok _, ⟨_, rfl⟩, q⟩
  | ref p =>
    cases rx
    have e' : (∃ xs, SqL X.K H p xs ∧ n = xs.length) ∨ ∃ xs, SqT X.K H p xs ∧ n = xs.length := e
    rcases e' with ⟨xs, hx, e'⟩ | ⟨xs, hx, e'⟩
    · subst e'
      obtain ⟨its, r', pl, hz⟩ := I.list hx
      have hlen := r'.length
      exact Calls.call_len_list pl.isList (by simp only [List.size_toArray]; omega) ⟨.int xs.length, H, I.tok _, ⟨_, by simp only [List.size_toArray]; rw [hlen]⟩, q⟩
    · subst e'
      obtain ⟨its, r', pl, hz⟩ := I.tuple hx
      have hlen := r'.length
      exact len_tuple pl (by simp only [List.size_toArray]; omega) ⟨.int xs.length, H, I.tok _, ⟨_, by simp only [List.size_toArray]; rw [hlen]⟩, q⟩
  | _ => exact (show False from e).elim
/-- divmod: a new tuple -/
theorem call_divmod : CallR X (.builtin "divmod") (fun xs H Q => ∃ i j, xs = [.int i, .int j] ∧ CDiv i j ∧ ∀ p, H p = none → Q (.ref p) (upd H p (.tup [.int (i / j), .int (i % j)]))) := by
  intro pins s σ H xs us Q I r h
  obtain ⟨i, j, rfl, ⟨h1, h2⟩, q⟩ := h
  obtain ⟨u, w', rfl, ⟨t, rfl⟩, ⟨t', rfl⟩⟩ := vals2 r
  refine divmod_int (by omega) ?_ (.inl (PyProof.noPylong_small (by omega)))
  rw [Int.fdiv_eq_ediv_of_nonneg i (by omega), Int.fmod_eq_emod_of_nonneg i (by omega)]
  have hn : H s.heap.objs.size = none := I.hok.fresh (Nat.le_refl _)
  refine ⟨.ref s.heap.objs.size, _, ?_, rfl, q _ hn⟩
  refine I.laid (fun b o e => Heap.get?_push_of_some _ e) (Nat.le_refl _) ⟨by simp only [List.length_cons, List.length_nil]; rw [sizeLine_eq]; decide, [.int (i / j) s.toks, .int (i % j) (s.toks + 1)], .cons ⟨_, rfl⟩ (.cons ⟨_, rfl⟩ .nil), ?_⟩
  exact ⟨_, Heap.get?_push_size s.heap rfl, rfl, 0, rfl⟩
end
end L2

namespace L2
open PySem PySem.Spec PyProof.Rows

/-! ### an instance, its attributes a map -/
structure ObjM (h : Heap) (x dx C : Addr) (mA : Str → Option Value) : Prop where
  obj : h.get? x = some (PySem.W.instObj C dx)
  ns : h.Ns1 dx mA
  ne : dx ≠ x

theorem lookIn_ns {h : Heap} {dx : Addr} {mA : Str → Option Value} (n : h.Ns1 dx mA) : ∃ od, h.get? dx = some od ∧ ∀ name, PySem.W.lookIn name od = some (mA name) := by
  obtain ⟨o, es, ep, ho, hd, hk, _, hm⟩ := n
  refine ⟨o, ho, fun name => ?_⟩
  have e := hm name
  unfold nsFind findBy at e
  rw [← Array.find?_toList] at e
  unfold PySem.W.lookIn
  rw [hd]
  dsimp only
  split
  · rename_i y q
    rw [q] at e
    exact congrArg some e
  · rename_i q
    rw [q] at e
    have a : es.toList.any (·.refKey) = false := by
      rw [List.any_eq_false]
      intro y hy
      obtain ⟨z, t, hkey⟩ := hk y (Array.mem_toList_iff.mp hy)
      simp [DictEntry.refKey, hkey]
    have a' : ¬ es.toList.any (·.refKey) = true := by rw [a]; exact Bool.false_ne_true
    rw [if_neg a']
    exact congrArg some e

theorem ObjM.look {h : Heap} {x dx C : Addr} {mA : Str → Option Value} (I : ObjM h x dx C mA) : ∃ od, PySem.W.InstAt h x (PySem.W.instObj C dx) C (some od) ∧ ∀ name, PySem.W.lookIn name od = some (mA name) :=
  let ⟨od, ho, hl⟩ := lookIn_ns I.ns
  ⟨od, ⟨I.obj, rfl, rfl, ho⟩, hl⟩

section
variable {prog : Program} {w : World} {A : Around} {E : Value → Shared → Prop} {s : Shared} {K : PySem.W.Frag} {x dx C f : Addr} {mA : Str → Option Value} {name : Str} {v : Value}

theorem get_map {expr : Bool} {Q : Value → Shared → Prop} (X : K.In s.heap) (I : ObjM s.heap x dx C mA) (hg : PySem.W.plainGet K C name = true) (hh : PySem.W.hasDictIn K C = true)
    (ha : PySem.W.findIn K (.ref C) name = some none) (hv : mA name = some v) (hv' : PySem.W.handedIn v = true) (h : Q v { s with toks := s.toks + 1 }) :
    wpAny (model prog w) A (getAttr (.ref x) name expr) Q E s := by
  obtain ⟨od, J, hl⟩ := I.look
  exact PySem.W.get_value X J (PySem.W.plainGet_of hg).1 (PySem.W.findObj_own hh ha rfl (by rw [hl, hv])) hv' h

theorem get_const {expr : Bool} {a : Value} {Q : Value → Shared → Prop} (X : K.In s.heap) (I : ObjM s.heap x dx C mA) (hg : PySem.W.plainGet K C name = true) (hh : PySem.W.hasDictIn K C = true)
    (ha : PySem.W.findIn K (.ref C) name = some (some a)) (hn : PySem.W.specialIn K a "__get__" = some none) (hc : PySem.W.copiedNames.contains name = false) (hv : mA name = none) (hv' : PySem.W.handedIn a = true)
    (h : Q a { s with toks := s.toks + 1 }) : wpAny (model prog w) A (getAttr (.ref x) name expr) Q E s := by
  obtain ⟨od, J, hl⟩ := I.look
  exact PySem.W.get_value X J (PySem.W.plainGet_of hg).1 (PySem.W.findObj_cls hh ha hn hv' hc (by rw [hl, hv])) hv' h

theorem get_meth {pl : Sem Bool} {Q : Value × List Value → Shared → Prop} (X : K.In s.heap) (I : ObjM s.heap x dx C mA) (hg : PySem.W.plainGet K C name = true)
    (hf : PySem.W.findIn K (.ref C) name = some (some (.ref f))) (ht : PySem.W.isFn K (.ref f) = true) (hv : mA name = none) (h : Q (.ref f, [.ref x]) s) :
    wpAny (model prog w) A (getMethod (.ref x) name pl) Q E s := by
  obtain ⟨od, J, hl⟩ := I.look
  exact PySem.W.method_fn X J (PySem.W.plainGet_of hg).1 (PySem.W.plainGet_of hg).2 hf (beq_iff_eq.mp ht) (by show (PySem.W.lookIn name od).map (·.isSome) = some false; rw [hl, hv]; rfl) h

theorem set_map {ns : List Str} {Q : Unit → Shared → Prop} (X : K.In s.heap) (I : ObjM s.heap x dx C mA)
    (hs : PySem.W.findIn K (.ref C) "__setattr__" = some (some (.builtin "object.__setattr__"))) (hp : PySem.W.plainOver K C = true) (ht : PySem.W.takerIn K C name = some none) (hh : PySem.W.hasDictIn K C = true)
    (hw : PySem.Within mA ns) (hsz : ns.length ≤ sizeLine)
    (h : ∀ h', ObjM h' x dx C (fun y => if y = name then some v else mA y) → Heap.SameBut dx s.heap h' → Q () { s with heap := h', toks := s.toks + 2 }) :
    wpAny (model prog w) A (setAttr (.ref x) name v) Q E s := by
  obtain ⟨od, J, hl⟩ := I.look
  refine PySem.W.set_plain X J hs (PySem.W.osa_open (s := { s with toks := s.toks + 1 }) (r := none) X J hp ht fun b => ?_)
  obtain ⟨cd, hc, hd'⟩ := PySem.W.any_some hh
  have hx : s.heap.get? x = some ⟨.ref C, some dx, .plain, #[]⟩ := I.obj
  refine wpAny_bind (wpAny_pure (wpAny_bind (wpAny_bind (wpAny_loadPart hx (wpAny_bind (PySem.W.Looks.here (s := { s with toks := s.toks + 1 }) (PySem.W.looks_clsIn X hc) ?_))))))
  rw [hd']
  refine wpAny_pure (a := some dx) (wpAny_bind (wpAny_pure (wpAny_bind ?_)))
  refine wpAny_nsSet1 (s := { s with toks := s.toks + 1 }) I.ns fun h' hn2 hs2 => ?_
  obtain ⟨oD, esD, epD, hoD, hdD, hcD⟩ := hn2.count (PySem.Within.cons name v hw)
  refine wpAny_bind (wpAny_lookBehind hoD (by rw [hdD]; exact pastItsLine_dict (Nat.le_trans hcD (by rw [List.length_cons]; omega))) ?_)
  exact wpAny_pure (h _ ⟨(hs2.2 _ (Ne.symm I.ne)).trans I.obj, hn2, I.ne⟩ hs2)

/-- C(..): the dict at the heap's end, the instance behind it; then its __init__ -/
theorem make_map {R : Result → Shared → Prop} {vs : List Value} {kw : List (Str × Value)} (X : K.In s.heap) (hm : PySem.W.makesIn K C = true)
    (hi : PySem.W.findIn K (.ref C) "__init__" = some (some (.ref f))) (hf : PySem.W.typeIn K (.ref f) = some (.type "function"))
    (h : codeAny (model prog w) (A.under (.builtin "type.__call__" ⟨.ref C :: vs, kw⟩)) (.call (.ref f) ⟨.ref (s.heap.objs.size + 1) :: vs, kw⟩) (PySem.W.InitBack (s.heap.objs.size + 1) R)
      { s with heap := (s.heap.push PySem.W.emptyDict).push (PySem.W.instObj C s.heap.objs.size) }) :
    codeAny (model prog w) A (.call (.ref C) ⟨vs, kw⟩) R s := by
  obtain ⟨hh, g, d, t, os⟩ := s
  exact PySem.W.make_core (PySem.W.makes_of X hm) (PySem.W.looks_findIn X hi) (fun self => PySem.W.bind_fn X self hf) (.inl rfl) h
/-- C() where there is no __init__ but object's -/
theorem make_map0 {R : Result → Shared → Prop} (X : K.In s.heap) (hm : PySem.W.makesIn K C = true)
    (hi : PySem.W.findIn K (.ref C) "__init__" = some (some (.builtin "object.__init__")))
    (hb : ∀ self, PySem.W.Looks (model prog w) s.heap (bindSpecial (.builtin "object.__init__") self) (.builtin "object.__init__", [self]))
    (h : codeAny (model prog w) (A.under (.builtin "type.__call__" ⟨[.ref C], []⟩)) (.call (.builtin "object.__init__") ⟨[.ref (s.heap.objs.size + 1)], []⟩) (PySem.W.InitBack (s.heap.objs.size + 1) R)
      { s with heap := (s.heap.push PySem.W.emptyDict).push (PySem.W.instObj C s.heap.objs.size) }) :
    codeAny (model prog w) A (.call (.ref C) ⟨[], []⟩) R s := by
  obtain ⟨hh, g, d, t, os⟩ := s
  exact PySem.W.make_core (PySem.W.makes_of X hm) (PySem.W.looks_findIn X hi) hb (.inr ⟨rfl, rfl⟩) h
end

/-! ### the attributes as a list of pairs -/
def putF (f : Str) (v : V) : List (Str × V) → List (Str × V)
  | [] => [(f, v)]
  | (g, x) :: r => if g = f then (g, v) :: r else (g, x) :: putF f v r
theorem lookup_putF (f g : Str) (v : V) : ∀ fs : List (Str × V), (putF f v fs).lookup g = if g = f then some v else fs.lookup g
  | [] => by
    show List.lookup g [(f, v)] = _
    by_cases h : g = f
    · have hb : (g == f) = true := beq_iff_eq.mpr h
      simp only [List.lookup, hb, if_pos h]
    · have hb : (g == f) = false := beq_eq_false_iff_ne.mpr h
      simp only [List.lookup, hb, if_neg h]
  | (k, x) :: r => by
    have ih := lookup_putF f g v r
    rw [show putF f v ((k, x) :: r) = (if k = f then (k, v) :: r else (k, x) :: putF f v r) from rfl]
    by_cases hk : k = f
    · rw [if_pos hk]
      by_cases h : g = k
      · have hb : (g == k) = true := beq_iff_eq.mpr h
        simp only [List.lookup, hb, if_pos (h.trans hk)]
      · have hb : (g == k) = false := beq_eq_false_iff_ne.mpr h
        simp only [List.lookup, hb, if_neg (fun e : g = f => h (e.trans hk.symm))]
    · rw [if_neg hk]
      by_cases h : g = k
      · have hb : (g == k) = true := beq_iff_eq.mpr h
        simp only [List.lookup, hb, if_neg (fun e : g = f => hk (h.symm.trans e))]
      · have hb : (g == k) = false := beq_eq_false_iff_ne.mpr h
        simp only [List.lookup, hb]
        exact ih
theorem keys_putF (f : Str) (v : V) : ∀ fs : List (Str × V), f ∈ (putF f v fs).map (·.1) ∧ ∀ g, g ∈ fs.map (·.1) → g ∈ (putF f v fs).map (·.1)
  | [] => ⟨by simp [putF], fun g h => by simp at h⟩
  | (k, x) :: r => by
    obtain ⟨i1, i2⟩ := keys_putF f v r
    rw [show putF f v ((k, x) :: r) = (if k = f then (k, v) :: r else (k, x) :: putF f v r) from rfl]
    by_cases hk : k = f
    · rw [if_pos hk]
      subst hk
      exact ⟨by simp, fun g h => by simpa using h⟩
    · rw [if_neg hk]
      refine ⟨?_, fun g h => ?_⟩
      · rw [List.map_cons]
        exact List.mem_cons_of_mem _ i1
      · rw [List.map_cons] at h ⊢
        rcases List.mem_cons.mp h with e | e
        · exact List.mem_cons.mpr (.inl e)
        · exact List.mem_cons_of_mem _ (i2 g e)
theorem length_putF (f : Str) (v : V) : ∀ fs : List (Str × V), (putF f v fs).length ≤ fs.length + 1
  | [] => by simp [putF]
  | (k, x) :: r => by
    have ih := length_putF f v r
    rw [show putF f v ((k, x) :: r) = (if k = f then (k, v) :: r else (k, x) :: putF f v r) from rfl]
    by_cases hk : k = f
    · rw [if_pos hk, List.length_cons, List.length_cons]; omega
    · rw [if_neg hk, List.length_cons, List.length_cons]; omega

theorem RelO.some_of {v : V} {o : Option Value} (r : RelO (some v) o) : ∃ u, o = some u ∧ RelV v u := by
  cases o with
  | none => exact (show False from r).elim
  | some u => exact ⟨u, rfl, r⟩
theorem RelO.none_of {o : Option Value} (r : RelO none o) : o = none := by
  cases o with
  | none => rfl
  | some u => exact (show False from r).elim
theorem handed_of {v : V} {u : Value} (r : RelV v u) : PySem.W.handedIn u = true := by
  cases v with
  | non => cases (show u = Value.none from r); rfl
  | bl b => cases (show u = Value.bool b from r); rfl
  | int i => obtain ⟨t, e⟩ := (show ∃ t, u = Value.int i t from r); cases e; rfl
  | str x => obtain ⟨t, e⟩ := (show ∃ t, u = Value.str x t from r); cases e; rfl
  | byt b => obtain ⟨t, e⟩ := (show ∃ t, u = Value.bytes b t from r); cases e; rfl
  | flt b => obtain ⟨t, e⟩ := (show ∃ t, u = Value.float b t from r); cases e; rfl
  | ref a => cases (show u = Value.ref a from r); rfl
  | ty n => cases (show u = Value.type n from r); rfl

section
variable {P : Program} {w : World} {H H' : Hp} {h h' : Heap} {a C dx : Addr} {fs fs' : List (Str × V)}
theorem ins_get (hok : HOk P w H h) (e : H a = some (.ins C dx fs)) : ∃ mA, ObjM h a dx C mA ∧ (∀ f, RelO (fs.lookup f) (mA f)) ∧ PySem.Within mA (fs.map (·.1)) ∧ fs.length ≤ 1000 ∧ H dx = some (.own a) := by
  obtain ⟨d, z, ne, ob, mA, n, r, q⟩ := (show ObjOk P w H h a (.ins C dx fs) from hok a _ e)
  exact ⟨mA, ⟨ob, n, ne⟩, r, q, z, d⟩
end

/-! ### what of the text a class must have -/
structure Cls (K : PySem.W.Frag) (C : Addr) : Prop where
  pg : PySem.W.plainGet K C Str.empty = true
  hd : PySem.W.hasDictIn K C = true
  po : PySem.W.plainOver K C = true
  sa : PySem.W.findIn K (.ref C) "__setattr__" = some (some (.builtin "object.__setattr__"))
theorem Cls.get {K : PySem.W.Frag} {C : Addr} (c : Cls K C) (f : Str) : PySem.W.plainGet K C f = true := c.pg
/-- no class of it has the name -/
def NoAttr (K : PySem.W.Frag) (C : Addr) (f : Str) : Prop := PySem.W.findIn K (.ref C) f = some none
theorem NoAttr.taker {K : PySem.W.Frag} {C : Addr} {f : Str} (n : NoAttr K C f) : PySem.W.takerIn K C f = some none := by
  unfold PySem.W.takerIn
  rw [show PySem.W.findIn K (.ref C) f = some none from n]
  rfl
/-- a constant of the class -/
structure Con (K : PySem.W.Frag) (C : Addr) (f : Str) (v : V) (u : Value) : Prop where
  at_ : PySem.W.findIn K (.ref C) f = some (some u)
  rel : RelV v u
  get : PySem.W.specialIn K u "__get__" = some none
  cp : PySem.W.copiedNames.contains f = false
/-- a method: a plain def of the class or of one above it -/
structure Meth (K : PySem.W.Frag) (C : Addr) (m : Str) (f : Addr) : Prop where
  at_ : PySem.W.findIn K (.ref C) m = some (some (.ref f))
  fn : PySem.W.isFn K (.ref f) = true
  kp : PySem.W.keepIn K (.ref f) = true

section
variable {X : Cx} {pins : List (Addr × Obj)} {σ : St} {H : Hp} {s : Shared} {a C dx : Addr} {fs : List (Str × V)} {f : Str} {v : V} {A : Around} {E : Value → Shared → Prop}

theorem getattr_ok {b : Bool} {Q : Value → Shared → Prop} (I : Inv X pins σ H s) (e : H a = some (.ins C dx fs)) (c : Cls X.K C) (n : NoAttr X.K C f) (l : fs.lookup f = some v)
    (h : ∀ u s', Inv X pins σ H s' → RelV v u → Q u s') : wpAny (model X.prog X.w) A (getAttr (.ref a) f b) Q E s := by
  obtain ⟨mA, O, r, _, _, _⟩ := ins_get I.hok e
  obtain ⟨u, hu, ru⟩ := RelO.some_of (v := v) (o := mA f) (by rw [← l]; exact r f)
  exact get_map I.kIn O (c.get f) c.hd n hu (handed_of ru) (h u _ (I.tok _) ru)

theorem getcon_ok {b : Bool} {u : Value} {Q : Value → Shared → Prop} (I : Inv X pins σ H s) (e : H a = some (.ins C dx fs)) (c : Cls X.K C) (k : Con X.K C f v u) (l : fs.lookup f = none)
    (h : ∀ s', Inv X pins σ H s' → Q u s') : wpAny (model X.prog X.w) A (getAttr (.ref a) f b) Q E s := by
  obtain ⟨mA, O, r, _, _, _⟩ := ins_get I.hok e
  have hn : mA f = none := RelO.none_of (by rw [← l]; exact r f)
  exact get_const I.kIn O (c.get f) c.hd k.at_ k.get k.cp hn (handed_of k.rel) (h _ (I.tok _))

theorem getmeth_ok {m : Str} {g : Addr} {pl : Sem Bool} {Q : Value × List Value → Shared → Prop} (I : Inv X pins σ H s) (e : H a = some (.ins C dx fs)) (c : Cls X.K C) (k : Meth X.K C m g) (l : fs.lookup m = none)
    (h : Q (.ref g, [.ref a]) s) : wpAny (model X.prog X.w) A (getMethod (.ref a) m pl) Q E s := by
  obtain ⟨mA, O, r, _, _, _⟩ := ins_get I.hok e
  have hn : mA m = none := RelO.none_of (by rw [← l]; exact r m)
  exact get_meth I.kIn O (c.get m) k.at_ k.fn hn h

theorem setattr_ok {y : V} {u : Value} {Q : Unit → Shared → Prop} (I : Inv X pins σ H s) (e : H a = some (.ins C dx fs)) (c : Cls X.K C) (n : NoAttr X.K C f) (hl : fs.length < 1000) (ry : RelV y u)
    (h : ∀ s', Inv X pins σ (upd H a (.ins C dx (putF f y fs))) s' → Q () s') : wpAny (model X.prog X.w) A (setAttr (.ref a) f u) Q E s := by
  obtain ⟨mA, O, r, wi, _, ho⟩ := ins_get I.hok e
  have hz : (fs.map (·.1)).length ≤ sizeLine := by rw [List.length_map, sizeLine_eq]; omega
  refine set_map I.kIn O c.sa c.po n.taker c.hd wi hz fun h' O' sb => h _ ?_
  have hd : ∃ o, h'.get? dx = some o := let ⟨o, _, _, e', _⟩ := O'.ns; ⟨o, e'⟩
  refine I.write (x := a) (e := dx) (by rw [e]; exact True.intro) (.inr ho) (fun b q hb z => (sb.2 b hb).trans z) hd ?_
  refine ⟨by rw [upd_ne O.ne]; exact ho, ?_, O.ne, O'.obj, _, O'.ns, fun g => ?_, fun g hg => ?_⟩
  · have := length_putF f y fs; omega
  · show RelO ((putF f y fs).lookup g) (if g = f then some u else mA g)
    rw [lookup_putF]
    by_cases q : g = f
    · rw [if_pos q, if_pos q]; exact ry
    · rw [if_neg q, if_neg q]; exact r g
  · by_cases q : g = f
    · rw [q]; exact (keys_putF f y fs).1
    · refine (keys_putF f y fs).2 g (wi g fun z => hg ?_)
      show (if g = f then some u else mA g) = none
      rw [if_neg q]; exact z

/-- a new instance, tracked, without attributes -/
theorem Inv.made (I : Inv X pins σ H s) : Inv X pins σ (upd (upd H s.heap.objs.size (.own (s.heap.objs.size + 1))) (s.heap.objs.size + 1) (.ins C s.heap.objs.size []))
    { s with heap := (s.heap.push PySem.W.emptyDict).push (PySem.W.instObj C s.heap.objs.size) } := by
  have e1 : (s.heap.push PySem.W.emptyDict).get? s.heap.objs.size = some PySem.W.emptyDict := Heap.get?_push_size s.heap rfl
  have e2 : ((s.heap.push PySem.W.emptyDict).push (PySem.W.instObj C s.heap.objs.size)).get? (s.heap.objs.size + 1) = some (PySem.W.instObj C s.heap.objs.size) := by
    have := Heap.get?_push_size (s.heap.push PySem.W.emptyDict) (o := PySem.W.instObj C s.heap.objs.size) rfl
    rwa [Heap.size_push] at this
  have e3 : (s.heap.push PySem.W.emptyDict).Ns s.heap.objs.size (fun _ => none) := ⟨PySem.W.emptyDict, #[], _, e1, rfl, (fun e he => absurd he (by simp)), fun _ => rfl⟩
  have I1 := I.laid (a := s.heap.objs.size) (o := .own (s.heap.objs.size + 1)) (h' := s.heap.push PySem.W.emptyDict) (t' := s.toks) (fun b u q => Heap.get?_push_of_some _ q) (Nat.le_refl _) ⟨_, e1⟩
  refine I1.laid (a := s.heap.objs.size + 1) (o := .ins C s.heap.objs.size []) (t' := s.toks) (fun b u q => Heap.get?_push_of_some _ q) (Nat.le_of_eq (Heap.size_push _ _)) ?_
  have ne : s.heap.objs.size ≠ s.heap.objs.size + 1 := Nat.ne_of_lt (Nat.lt_succ_self _)
  refine ⟨by rw [upd_ne ne, upd_same], Nat.zero_le _, ne, e2, fun _ => none, (Heap.Ns1.of_empty e3).at fun o q => Heap.get?_push_of_some _ q, fun _ => True.intro, fun y hy => absurd rfl hy⟩

/-- e.f where nothing but the object is asked: through attributeBase (super) and the last hold -/
theorem attr_of {prog : Program} {w : World} {env : Env} {e : Expr} {f : Str} {pos : Pos} {s : Shared} {Q : Value → Shared → Prop} (hb : attributeBase e f env (eval e env) = eval e env)
    (h : wpAny (model prog w) A (eval e env) (fun o s₁ => wpAny (model prog w) A (getAttr o f true) Q E s₁) E s) : wpAny (model prog w) A (eval (.Attribute e f pos) env) Q E s :=
  Attribute_any_ h (by rw [arm_eval_Attribute, hb])
end

/-! ### readings and rules -/
/-- e.f, an attribute of the instance -/
def tFld (K : PySem.W.Frag) (ta : TE) (f : Str) : TE := fun σ H Q => ta σ H fun x H1 => ∃ a C dx fs v, x = .ref a ∧ H1 a = some (.ins C dx fs) ∧ Cls K C ∧ NoAttr K C f ∧ fs.lookup f = some v ∧ Q v H1
/-- e.f, a constant of the class -/
def tCon (K : PySem.W.Frag) (ta : TE) (f : Str) : TE := fun σ H Q => ta σ H fun x H1 => ∃ a C dx fs v u, x = .ref a ∧ H1 a = some (.ins C dx fs) ∧ Cls K C ∧ Con K C f v u ∧ fs.lookup f = none ∧ Q v H1
/-- e.f = value -/
def sFld (K : PySem.W.Frag) (ta tv : TE) (f : Str) : TS := fun D σ H => tv σ H fun y H1 => ta σ H1 fun x H2 => ∃ a C dx fs, x = .ref a ∧ H2 a = some (.ins C dx fs) ∧ Cls K C ∧ NoAttr K C f ∧ fs.length < 1000 ∧
  D.nx σ (upd H2 a (.ins C dx (putF f y fs)))
/-- an augmented operator on two values -/
def InOp (X : Cx) (op : Operator) (rd : V → V → Hp → VK → Prop) : Prop :=
  ∀ (pins : List (Addr × Obj)) (s : Shared) (σ : St) (H : Hp) (x y : V) (u v : Value) (Q : VK), Inv X pins σ H s → RelV x u → RelV y v → rd x y H Q → wpAny (model X.prog X.w) X.A (inplaceOp op u v) (EP X pins σ Q) X.xe s
/-- e.f op= value -/
def sFldAug (K : PySem.W.Frag) (ta tv : TE) (rd : V → V → Hp → VK → Prop) (f : Str) : TS := fun D σ H => ta σ H fun x H1 => ∃ a C dx fs v, x = .ref a ∧ H1 a = some (.ins C dx fs) ∧ Cls K C ∧ NoAttr K C f ∧ fs.lookup f = some v ∧
  tv σ H1 fun y H2 => rd v y H2 fun z H3 => ∃ dx' fs', H3 a = some (.ins C dx' fs') ∧ fs'.length < 1000 ∧ D.nx σ (upd H3 a (.ins C dx' (putF f z fs')))

section
variable {X : Cx} {o e value : Expr} {f : Str} {pos pos' tpos : Pos} {ta tv : TE}
theorem pe_fld (he : PE X e ta) (hb : attributeBase e f X.env (eval e X.env) = eval e X.env) : PE X (.Attribute e f pos) (tFld X.K ta f) := by
  intro pins s σ H Q I h
  refine attr_of hb (thn (he pins s σ H _ I h) fun u s1 ⟨x, H1, I1, rx, a, C, dx, fs, v, ex, ea, c, n, l, q⟩ => ?_)
  subst ex
  obtain rfl : u = Value.ref a := rx
  exact getattr_ok I1 ea c n l fun u' s2 I2 ru => ⟨v, H1, I2, ru, q⟩
theorem pe_con (he : PE X e ta) (hb : attributeBase e f X.env (eval e X.env) = eval e X.env) : PE X (.Attribute e f pos) (tCon X.K ta f) := by
  intro pins s σ H Q I h
  refine attr_of hb (thn (he pins s σ H _ I h) fun u s1 ⟨x, H1, I1, rx, a, C, dx, fs, v, u0, ex, ea, c, k, l, q⟩ => ?_)
  subst ex
  obtain rfl : u = Value.ref a := rx
  exact getcon_ok I1 ea c k l fun s2 I2 => ⟨v, H1, I2, k.rel, q⟩
theorem ps_fld (ha : PE X o ta) (hv : PE X value tv) (hs : swapsWith value (some (.Attribute o f pos')) pos.line X.env = pure false) : PS X (.Assign [.Attribute o f pos'] value pos) (sFld X.K ta tv f) := by
  intro pins s σ H D I h
  refine plainObj_wpAny_Assign_Attribute (thn (hv pins s σ H _ I h) fun u s1 ⟨y, H1, I1, ry, q⟩ => thn (ha pins s1 σ H1 _ I1 q) fun ov s2 ⟨x, H2, I2, rx, a, C, dx, fs, ex, ea, c, n, l, q2⟩ => ?_) hs
  subst ex
  obtain rfl : ov = Value.ref a := rx
  exact setattr_ok I2 ea c n l ry fun s3 I3 => ⟨σ, _, I3, q2⟩
theorem ps_fldaug {op : Operator} {rd : V → V → Hp → VK → Prop} (ha : PE X o ta) (hv : PE X value tv) (hop : InOp X op rd) : PS X (.AugAssign (.Attribute o f tpos) op value pos) (sFldAug X.K ta tv rd f) := by
  intro pins s σ H D I h
  refine wpAny_AugAssign_AttributeAny (thn (ha pins s σ H _ I h) fun ov s1 ⟨x, H1, I1, rx, a, C, dx, fs, v, ex, ea, c, n, l, q⟩ => ?_)
  subst ex
  obtain rfl : ov = Value.ref a := rx
  refine getattr_ok I1 ea c n l fun u s2 I2 ru => thn (hv pins s2 σ H1 _ I2 q) fun w3 s3 ⟨y, H2, I3, ry, q3⟩ => thn (hop pins s3 σ H2 v y u w3 _ I3 ru ry q3) fun w4 s4 ⟨z, H3, I4, rz, dx', fs', ea', l', q4⟩ => ?_
  exact setattr_ok I4 ea' c n l' rz fun s5 I5 => ⟨σ, _, I5, q4⟩
def rAdd : V → V → Hp → VK → Prop := fun x y H Q => ∃ i j, x = .int i ∧ y = .int j ∧ Q (.int (i + j)) H
def rSub : V → V → Hp → VK → Prop := fun x y H Q => ∃ i j, x = .int i ∧ y = .int j ∧ Q (.int (i - j)) H
theorem in_add : InOp X .Add rAdd := by
  rintro pins s σ H x y u v Q I rx ry ⟨i, j, rfl, rfl, q⟩
  obtain ⟨t, rfl⟩ := (show ∃ t, u = Value.int i t from rx)
  obtain ⟨t', rfl⟩ := (show ∃ t', v = Value.int j t' from ry)
  exact PyProof.Rows.iadd_int ⟨.int (i + j), H, I.tok _, ⟨_, rfl⟩, q⟩
theorem in_sub : InOp X .Sub rSub := by
  rintro pins s σ H x y u v Q I rx ry ⟨i, j, rfl, rfl, q⟩
  obtain ⟨t, rfl⟩ := (show ∃ t, u = Value.int i t from rx)
  obtain ⟨t', rfl⟩ := (show ∃ t', v = Value.int j t' from ry)
  exact PyProof.Rows.isub_int ⟨.int (i - j), H, I.tok _, ⟨_, rfl⟩, q⟩

/-- what is between an instance and its method: the tree of a method call -/
theorem methcall_of {pl : Sem Bool} {m : Str} {apos : Pos} {args : List Expr} {pins : List (Addr × Obj)} {s : Shared} {σ : St} {H : Hp} {Q : Value → Shared → Prop} {te : TE} (he : PE X e te) (I : Inv X pins σ H s)
    (h : te σ H fun x H1 => ∃ a C dx fs g, x = .ref a ∧ H1 a = some (.ins C dx fs) ∧ Cls X.K C ∧ Meth X.K C m g ∧ fs.lookup m = none ∧
      ∀ s1, Inv X pins σ H1 s1 → wpAny (model X.prog X.w) X.A (callWith pos (.ref g) [.ref a] (backTo pos (starEach args X.env)) (backToKw pos (keywordEach [] X.env))) Q X.xe s1)
    (ht : eval (.Call (.Attribute e m apos) args [] pos) X.env = (do
      let ov ← eval e X.env
      standAt apos.atName
      let (f, first) ← holding [ov] (getMethod ov m pl)
      callWith pos f first (backTo pos (starEach args X.env)) (backToKw pos (keywordEach [] X.env)))) :
    wpAny (model X.prog X.w) X.A (eval (.Call (.Attribute e m apos) args [] pos) X.env) Q X.xe s := by
  refine PySem.W.methodCall_KW (pl := pl) (thn (he pins s σ H _ I h) fun u s1 ⟨x, H1, I1, rx, a, C, dx, fs, g, ex, ea, c, k, l, q⟩ => ?_) ht
  subst ex
  obtain rfl : u = Value.ref a := rx
  exact getmeth_ok I1 ea c k l (q s1 I1)
end

/-! ### isinstance -/
section
variable {X : Cx} {pins : List (Addr × Obj)} {σ : St} {H : Hp} {s : Shared} {A : Around} {E : Value → Shared → Prop} {Q : Value → Shared → Prop} {c : Value} {b : Bool}
/-- the type of a value, as the fragment's deciders take it; for an instance its class -/
inductive TyOf (K : PySem.W.Frag) (H : Hp) : V → Value → Prop where
  | non : TyOf K H .non (.type "NoneType")
  | bl (x : Bool) : TyOf K H (.bl x) (.type "bool")
  | int (i : Int) : TyOf K H (.int i) (.type "int")
  | str (x : Str) : TyOf K H (.str x) (.type "str")
  | flt (x : UInt64) : TyOf K H (.flt x) (.type "float")
  | lst {a : Addr} {xs : List V} (e : H a = some (.lst xs)) : TyOf K H (.ref a) (.type "list")
  | frz {a : Addr} {o : Obj} {xs : List V} (e : H a = some (.frz o (.lst xs))) : TyOf K H (.ref a) (.type "list")
  | tup {a : Addr} {xs : List V} (e : H a = some (.tup xs)) : TyOf K H (.ref a) (.type "tuple")
  | dK {a : Addr} {kvs : List (Key × V)} (e : H a = some (.dK kvs)) : TyOf K H (.ref a) (.type "dict")
  | dT {a : Addr} {kvs : List (List Key × V)} (e : H a = some (.dT kvs)) : TyOf K H (.ref a) (.type "dict")
  | ins {a C dx : Addr} {fs : List (Str × V)} (e : H a = some (.ins C dx fs)) (cl : Cls K C) (ha : PySem.W.findIn K (.ref C) "__class__" = some (some (.builtin "object.__class__")))
      (hn : PySem.W.specialIn K (.builtin "object.__class__") "__get__" = some (some (.builtin "getset_descriptor.__get__"))) (htk : PySem.W.takesIn K (.builtin "object.__class__") = some true)
      (hm : PySem.W.mroIn K C (.type "object") = some true) : TyOf K H (.ref a) (.ref C)
/-- isinstance(x, c) for one class c, a built-in or an own one: kitOne's answer -/
theorem isinst_ok {x : V} {u t : Value} (I : Inv X pins σ H s) (rx : RelV x u) (ty : TyOf X.K H x t) (e : PySem.W.kitOne X.K t c = some b) (h : ∀ tk, Q (.bool b) { s with toks := tk }) :
    wpAny (model X.prog X.w) A (call (.builtin "isinstance") [u, c]) Q E s := by
  cases ty with
  | non => cases (show u = Value.none from rx); exact PySem.W.kia_one PySem.W.kitx_none I.kIn True.intro e (fun z => nomatch z) h
  | bl y => cases (show u = Value.bool y from rx); exact PySem.W.kia_one PySem.W.kitx_bool I.kIn True.intro e (fun z => nomatch z) h
  | int i => obtain ⟨t, q⟩ := (show ∃ t, u = Value.int i t from rx); cases q; exact PySem.W.kia_one PySem.W.kitx_int I.kIn True.intro e (fun z => nomatch z) h
  | str y => obtain ⟨t, q⟩ := (show ∃ t, u = Value.str y t from rx); cases q; exact PySem.W.kia_one PySem.W.kitx_str I.kIn True.intro e (fun z => nomatch z) h
  | flt y => obtain ⟨t, q⟩ := (show ∃ t, u = Value.float y t from rx); cases q; exact PySem.W.kia_one PySem.W.kitx_float I.kIn True.intro e (fun z => nomatch z) h
  | @lst a xs ea =>
    cases (show u = Value.ref a from rx)
    obtain ⟨_, _, n, _, h1⟩ := (show ObjOk X.prog X.w H s.heap a (.lst xs) from I.hok a _ ea)
    exact PySem.W.kia_one PySem.W.kitx_list I.kIn ⟨_, h1, rfl⟩ e (fun z => nomatch z) h
  | @frz a ob xs ea =>
    cases (show u = Value.ref a from rx)
    obtain ⟨_, _, _, n, _, h1⟩ := (show ObjOk X.prog X.w H s.heap a (.frz ob (.lst xs)) from I.hok a _ ea)
    exact PySem.W.kia_one PySem.W.kitx_list I.kIn ⟨_, h1, rfl⟩ e (fun z => nomatch z) h
  | @tup a xs ea =>
    cases (show u = Value.ref a from rx)
    obtain ⟨_, _, _, p⟩ := (show ObjOk X.prog X.w H s.heap a (.tup xs) from I.hok a _ ea)
    obtain ⟨o, h1, h2, _⟩ := p
    exact PySem.W.kia_one PySem.W.kitx_tuple I.kIn ⟨o, h1, h2⟩ e (fun z => nomatch z) h
  | @dK a kvs ea =>
    cases (show u = Value.ref a from rx)
    obtain ⟨_, _, vs, _, p⟩ := (show ObjOk X.prog X.w H s.heap a (.dK kvs) from I.hok a _ ea)
    obtain ⟨o, es, ep, h1, h2, _⟩ := p
    exact PySem.W.kia_one PySem.W.kitx_dict I.kIn ⟨o, h1, h2.1⟩ e (fun z => nomatch z) h
  | @dT a kvs ea =>
    cases (show u = Value.ref a from rx)
    obtain ⟨_, _, xs, _, o, es, ep, h1, h2, _⟩ := (show ObjOk X.prog X.w H s.heap a (.dT kvs) from I.hok a _ ea)
    exact PySem.W.kia_one PySem.W.kitx_dict I.kIn ⟨o, h1, h2.1⟩ e (fun z => nomatch z) h
  | @ins a C dx fs ea cl ha hn htk hm =>
    cases (show u = Value.ref a from rx)
    obtain ⟨mA, O, _⟩ := ins_get I.hok ea
    obtain ⟨od, J, _⟩ := O.look
    exact PySem.W.kia_one (PySem.W.kitx_own (cl.get _) cl.hd ha hn htk hm) I.kIn J e (fun z => nomatch z) h
end
end L2

namespace L2
open PySem PySem.Spec PyProof.Rows

/-! ### room -/
structure Room (k : Nat) (A : Around) : Prop where
  hd : A.handled = none
  dp : A.depth + 3 * k + 5 < recursionLimit
  un : A.units + 16 * k + 200 < cLine
theorem Room.mono {j k : Nat} {A : Around} (r : Room k A) (h : j ≤ k) : Room j A := ⟨r.hd, by have := r.dp; omega, by have := r.un; omega⟩
theorem Room.deeper {k : Nat} {A : Around} (r : Room (k + 1) A) (env : Env) : Room k (A.deeper env) :=
  ⟨r.hd, by have := r.dp; show A.depth + 1 + 3 * k + 5 < _; omega, by have := r.un; show A.units + 3 + 16 * k + 200 < _; omega⟩
theorem Room.in1 {k : Nat} {A : Around} (r : Room (k + 1) A) : Room k A.in1 :=
  ⟨r.hd, by have := r.dp; show A.depth + 3 * k + 5 < _; omega, by have := r.un; show A.units + 1 + 16 * k + 200 < _; omega⟩
theorem make_depth {A : Around} {C : Addr} {us : List Value} {kw : List (Str × Value)} : (A.under (.builtin "type.__call__" ⟨.ref C :: us, kw⟩)).depth = A.depth + 1 := by
  first | rfl | simp [Around.under, Code.weight, Code.isCreation, Code.isGuard, Code.isCaller, Code.frames, Code.isFrame, guardIds]
theorem make_units {A : Around} {C : Addr} {us : List Value} {kw : List (Str × Value)} : (A.under (.builtin "type.__call__" ⟨.ref C :: us, kw⟩)).units = A.units + 1 := by
  first | rfl | simp [Around.under, Code.cUnits, Code.frames, Code.isFrame]
theorem Room.make {k : Nat} {A : Around} (r : Room (k + 1) A) (C : Addr) (us : List Value) (kw : List (Str × Value)) : Room k (A.under (.builtin "type.__call__" ⟨.ref C :: us, kw⟩)) :=
  ⟨r.hd, by have := r.dp; rw [make_depth]; omega, by have := r.un; rw [make_units]; omega⟩
theorem Room.depth {k : Nat} {A : Around} (r : Room k A) : A.depth < recursionLimit := by have := r.dp; omega
theorem Room.units {k : Nat} {A : Around} (r : Room k A) : A.units + 64 < cLine := by have := r.un; omega
theorem Room.units0 {k : Nat} {A : Around} (r : Room k A) : A.units < cLine := by have := r.un; omega

/-! ### argument lists and displays -/
def tNil : TA := fun _ H Q => Q [] H
def tCons (ta : TE) (tr : TA) : TA := fun σ H Q => ta σ H fun x H1 => tr σ H1 fun xs H2 => Q (x :: xs) H2
section
variable {X : Cx} {e : Expr} {es : List Expr} {te : TE} {t : TA} {pos : Pos}
theorem pa_nil : PA X [] tNil := fun _ _ _ _ H Q I h => Calls.spliced_nil ⟨[], H, I, .nil, h⟩
theorem pa_cons (ha : PE X e te) (hr : PA X es t) (hs : starEach (e :: es) X.env = (false, eval e X.env) :: starEach es X.env := by rfl) : PA X (e :: es) (tCons te t) := by
  intro pos pins s σ H Q I h
  rw [hs]
  show wpAny _ _ (spliced ((false, eval e X.env) :: backTo pos (starEach es X.env))) _ _ s
  refine Calls.spliced_cons (thn (ha pins s σ H _ I h) fun u s1 ⟨x, H1, I1, r1, q1⟩ => ?_)
  exact thn (hr pos pins s1 σ H1 _ I1 q1) fun us s2 ⟨xs, H2, I2, r2, q2⟩ => ⟨x :: xs, H2, I2, .cons r1 r2, q2⟩

/-- a tuple, a list of written items -/
def tTup (t : TA) : TE := fun σ H Q => t σ H fun xs H1 => xs.length ≤ sizeLine ∧ ∀ p, H1 p = none → Q (.ref p) (upd H1 p (.tup xs))
def tLst (t : TA) : TE := fun σ H Q => t σ H fun xs H1 => xs.length ≤ sizeLine ∧ ∀ p, H1 p = none → Q (.ref p) (upd H1 p (.lst xs))
theorem pe_tup {x1} (h : PA X es t) : PE X (.Tuple es x1 pos) (tTup t) := by
  intro pins s σ H Q I hq
  refine wpAny_Tuple_spliced (thn (h pos pins s σ H _ I hq) fun us s1 ⟨xs, H1, I1, r, z, q⟩ => ⟨by rw [← r.length]; exact z, ?_⟩)
  have hf : H1 s1.heap.objs.size = none := I1.hok.fresh (Nat.le_refl _)
  refine ⟨.ref s1.heap.objs.size, upd H1 s1.heap.objs.size (.tup xs), I1.laid (t' := s1.toks) (fun b u e => Heap.get?_push_of_some _ e) (Nat.le_refl _) ?_, rfl, q _ hf⟩
  exact ⟨z, us, r, ⟨_, Heap.get?_push_size _ rfl, rfl, _, rfl⟩⟩
theorem pe_lst (h : PA X es t) : PE X (.List es pos) (tLst t) := by
  intro pins s σ H Q I hq
  refine wpAny_List_spliced (thn (h pos pins s σ H _ I hq) fun us s1 ⟨xs, H1, I1, r, z, q⟩ => ⟨by rw [← r.length]; exact z, ?_⟩)
  have hf : H1 s1.heap.objs.size = none := I1.hok.fresh (Nat.le_refl _)
  refine ⟨.ref s1.heap.objs.size, upd H1 s1.heap.objs.size (.lst xs), I1.laid (t' := s1.toks) (fun b u e => Heap.get?_push_of_some _ e) (Nat.le_refl _) ?_, rfl, q _ hf⟩
  exact ⟨z, us, 0, r, Heap.get?_push_size _ rfl⟩
end

/-! ### what a def promises -/
/-- a def's promise: the bound arguments in the parameters' order, the heap, the wanted end, the wanted exception -/
abbrev Sp := List V → Hp → VK → XK → Prop
/-- how an exception lies behind a call (file 08 gives it): the callers' frames, abstract heap and state ahead of the call, the wish, the exception, the state -/
abbrev CXT := List Env → Hp → Shared → XK → Value → Shared → Prop

/-- the state at a call -/
structure Env0 (P : Program) (w : World) (K : PySem.W.Frag) (mg : Str → Option Value) (base : Heap) (A : Around) (outer : List Env) (s : Shared) (H : Hp) : Prop where
  frames : A.frames = some outer
  mod : Mod K mg base
  bs : ∀ b o, base.get? b = some o → s.heap.get? b = some o ∧ H b = none
  bsz : base.objs.size ≤ s.heap.objs.size
  funs : s.heap.FunFrames base outer
  frf : ∀ b ∈ frs outer, H b = none
  hok : HOk P w H s.heap
  bare : AllBare s.gens
/-- a call's end -/
def CE (outer : List Env) (P : Program) (w : World) (H : Hp) (s : Shared) (Q : VK) (u : Value) (s' : Shared) : Prop :=
  ∃ v H', s'.os = s.os ∧ AllBare s'.gens ∧ Un (frs outer) [] H H' s.heap s'.heap ∧ HOk P w H' s'.heap ∧ RelV v u ∧ Q v H'
def CR (CX : CXT) (outer : List Env) (P : Program) (w : World) (H : Hp) (s : Shared) (Q : VK) (E : XK) (r : Result) (s' : Shared) : Prop :=
  match r with
  | .ok (.ret u) => CE outer P w H s Q u s'
  | .ok _ => False
  | .error e => CX outer H s E e s'
structure FnOk (P : Program) (w : World) (K : PySem.W.Frag) (mg : Str → Option Value) (base : Heap) (CX : CXT) (k : Nat) (f : Addr) (fd : FuncData) (ps : List Str) (sp : Sp) : Prop where
  len : ∀ vs H Q E, sp vs H Q E → vs.length = ps.length
  run : ∀ (A : Around) (outer : List Env) (s : Shared) (H : Hp) (args : Args) (us : List Value) (vs : List V) (Q : VK) (E : XK), Room k A → Env0 P w K mg base A outer s H → BindsTo s fd args (ps.zip us) → Vals vs us → sp vs H Q E →
    codeAny (model P w) A (.call (.ref f) args) (CR CX outer P w H s Q E) s
theorem FnOk.mono {P : Program} {w : World} {K : PySem.W.Frag} {mg : Str → Option Value} {base : Heap} {CX : CXT} {j k : Nat} {f : Addr} {fd : FuncData} {ps : List Str} {sp : Sp} (F : FnOk P w K mg base CX j f fd ps sp) (h : j ≤ k) :
    FnOk P w K mg base CX k f fd ps sp := ⟨F.len, fun A outer s H args us vs Q E hr => F.run A outer s H args us vs Q E (hr.mono h)⟩
/-- a weaker promise -/
theorem FnOk.imp {P : Program} {w : World} {K : PySem.W.Frag} {mg : Str → Option Value} {base : Heap} {CX : CXT} {k : Nat} {f : Addr} {fd : FuncData} {ps : List Str} {sp sp' : Sp} (F : FnOk P w K mg base CX k f fd ps sp)
    (h : ∀ vs H Q E, sp' vs H Q E → sp vs H Q E) : FnOk P w K mg base CX k f fd ps sp' :=
  ⟨fun vs H Q E q => F.len vs H Q E (h _ _ _ _ q), fun A outer s H args us vs Q E hr he hb hv hs => F.run A outer s H args us vs Q E hr he hb hv (h _ _ _ _ hs)⟩

theorem Env0.make {P : Program} {w : World} {K : PySem.W.Frag} {mg : Str → Option Value} {base : Heap} {A : Around} {outer : List Env} {s : Shared} {H : Hp} (e : Env0 P w K mg base A outer s H) (C : Addr) (us : List Value) (kw : List (Str × Value)) :
    Env0 P w K mg base (A.under (.builtin "type.__call__" ⟨.ref C :: us, kw⟩)) outer s H := ⟨by first | exact e.frames | (simpa [Around.under, Code.envs, Code.isFrame, pushEnvs] using e.frames), e.mod, e.bs, e.bsz, e.funs, e.frf, e.hok, e.bare⟩
theorem Env0.in1 {P : Program} {w : World} {K : PySem.W.Frag} {mg : Str → Option Value} {base : Heap} {A : Around} {outer : List Env} {s : Shared} {H : Hp} (e : Env0 P w K mg base A outer s H) :
    Env0 P w K mg base A.in1 outer s H := ⟨e.frames, e.mod, e.bs, e.bsz, e.funs, e.frf, e.hok, e.bare⟩

section
variable {X : Cx} {pins : List (Addr × Obj)} {σ : St} {H : Hp} {s s' : Shared}
/-- from a body: what a callee wants -/
theorem Inv.env0 (I : Inv X pins σ H s) : Env0 X.prog X.w X.K X.mg X.base X.A X.stack s H :=
  ⟨I.ok.frames, I.ok.mod, I.bs, Nat.le_trans I.ok.bsz I.sz, I.stack, I.stkFree, I.hok, I.bare⟩
/-- behind a call -/
theorem Inv.after {Q : VK} {u : Value} (I : Inv X pins σ H s) (h : CE X.stack X.prog X.w H s Q u s') : EP X pins σ Q u s' := by
  obtain ⟨v, H', os, bare, un, hok, r, q⟩ := h
  obtain ⟨hh, g, d, t, os'⟩ := s'
  obtain rfl : os' = s.os := os
  exact ⟨v, H', I.call (h' := hh) (g' := g) (d' := d) (t' := t) (ch := []) un hok bare (fun b z => absurd z (by simp)), r, q⟩
end

/-! ### calls -/
/-- f(..): the written arguments, then the defaults dvs; E: what is wanted of an exception -/
def tCall (sp : Sp) (dvs : List V) (E : XK) (t : TA) : TE := fun σ H Q => t σ H fun vs H1 => sp (vs ++ dvs) H1 Q E
/-- o.m(..) of an instance of the class at C -/
def tMeth (C : Addr) (m : Str) (sp : Sp) (dvs : List V) (E : XK) (ta : TE) (t : TA) : TE := fun σ H Q => ta σ H fun x H1 => ∃ a dx fs, x = .ref a ∧ H1 a = some (.ins C dx fs) ∧ fs.lookup m = none ∧
  t σ H1 fun vs H2 => sp (x :: (vs ++ dvs)) H2 Q E
/-- C(..): a new instance and its dict, then __init__ -/
def tMake (C : Addr) (sp : Sp) (dvs : List V) (E : XK) (t : TA) : TE := fun σ H Q => t σ H fun vs H1 => ∀ x dx, H1 x = none → H1 dx = none → dx ≠ x →
  sp (.ref x :: (vs ++ dvs)) (upd (upd H1 dx (.own x)) x (.ins C dx [])) (fun v H2 => v = .non ∧ Q (.ref x) H2) E

/-- how the parameters are bound: us the positional arguments, kw the keywords' values by name, ds the defaults that fill up -/
def Binds (K : PySem.W.Frag) (fd : FuncData) (ps : List Str) (ds : List Value) : Prop :=
  ∀ (s : Shared) (us : List Value), K.In s.heap → (us ++ ds).length = ps.length → BindsTo s fd ⟨us, []⟩ (ps.zip (us ++ ds))
/-- every parameter is given -/
theorem Binds.all {K : PySem.W.Frag} {fd : FuncData} {ps : List Str} (h : ∀ us : List Value, us.length = ps.length → bindArgs fd ⟨us, []⟩ = pure (ps.zip us)) : Binds K fd ps [] := fun s us _ hl => by
  rw [List.append_nil] at hl ⊢
  exact .of_eq (h us hl)

/-- an exception of a callee reaches what this body wants of exceptions -/
def Passes (CX : CXT) (X : Cx) (E : XK) : Prop := ∀ (pins : List (Addr × Obj)) (σ : St) (H : Hp) (s : Shared) (e : Value) (s' : Shared), Inv X pins σ H s → CX X.stack H s E e s' → X.xe e s'

section
variable {X : Cx} {CX : CXT} {k : Nat} {f C : Addr} {fd : FuncData} {ps : List Str} {sp : Sp} {dvs : List V} {ds : List Value} {E : XK} {x m : Str} {p pos apos : Pos} {e o : Expr} {es : List Expr} {ta : TE} {t : TA}

/-- the callee runs -/
theorem run_fn {pins : List (Addr × Obj)} {σ : St} {H : Hp} {s : Shared} {Q : VK} {us : List Value} {vs : List V} (F : FnOk X.prog X.w X.K X.mg X.base CX k f fd ps sp) (hr : Room k X.A) (hb : Binds X.K fd ps ds) (hd : Vals dvs ds) (hx : Passes CX X E)
    (I : Inv X pins σ H s) (r : Vals vs us) (h : sp (vs ++ dvs) H Q E) : wpAny (model X.prog X.w) X.A (call (.ref f) us) (EP X pins σ Q) X.xe s := by
  have r2 : Vals (vs ++ dvs) (us ++ ds) := r.append hd
  have hl : (us ++ ds).length = ps.length := by rw [← r2.length]; exact F.len _ _ _ _ h
  refine wpAny_call (codeAny_mono (F.run X.A X.stack s H ⟨us, []⟩ (us ++ ds) (vs ++ dvs) Q E hr I.env0 (hb s us I.kIn hl) r2 h) fun r s' hq => ?_)
  cases r with
  | error e => exact hx pins σ H s e s' I hq
  | ok fl =>
    cases fl with
    | ret u => exact I.after hq
    | next => exact False.elim hq
    | brk => exact False.elim hq
    | cont => exact False.elim hq

theorem pe_call (F : FnOk X.prog X.w X.K X.mg X.base CX k f fd ps sp) (hr : Room k X.A) (hg : Gl X x) (hm : X.mg x = some (.ref f)) (hk : PySem.W.keepIn X.K (.ref f) = true) (hb : Binds X.K fd ps ds) (hd : Vals dvs ds) (hx : Passes CX X E)
    (ha : PA X (e :: es) t) (hdb : (x == ("__debug__" : Str)) = false := by decide) (he : starEach (e :: es) X.env = (false, eval e X.env) :: starEach es X.env := by rfl) (hpl : (backTo pos (starEach es X.env)).any (·.1) = false := by rfl) :
    PE X (.Call (.Name x p) (e :: es) [] pos) (tCall sp dvs E t) := by
  intro pins s σ H Q I h
  refine wpAny_Call_Name_kw (ld_glob I hg hm ?_ hdb)
  refine PySem.W.callWith_K (h₀ := X.base) I.ok.mod.kin hk (thn (ha pos pins s σ H _ I h) fun us s1 ⟨vs, H1, I1, r, q⟩ => ⟨I1.kIn, ?_⟩) he hpl
  exact run_fn F hr hb hd hx I1 r q
theorem pe_call0 (F : FnOk X.prog X.w X.K X.mg X.base CX k f fd ps sp) (hr : Room k X.A) (hg : Gl X x) (hm : X.mg x = some (.ref f)) (hk : PySem.W.keepIn X.K (.ref f) = true) (hb : Binds X.K fd ps ds) (hd : Vals dvs ds) (hx : Passes CX X E)
    (hdb : (x == ("__debug__" : Str)) = false := by decide) : PE X (.Call (.Name x p) [] [] pos) (tCall sp dvs E tNil) := by
  intro pins s σ H Q I h
  refine wpAny_Call_Name_kw (ld_glob I hg hm ?_ hdb)
  exact PySem.W.callWith_K0 I.kIn hk (run_fn (us := []) F hr hb hd hx I .nil h)

/-- o.m(e, ..) -/
theorem pe_meth {pl : Sem Bool} (he : PE X o ta) (c : Cls X.K C) (hm : Meth X.K C m f) (F : FnOk X.prog X.w X.K X.mg X.base CX k f fd ps sp) (hr : Room k X.A) (hb : Binds X.K fd ps ds) (hd : Vals dvs ds) (hx : Passes CX X E) (ha : PA X (e :: es) t)
    (hst : starEach (e :: es) X.env = (false, eval e X.env) :: starEach es X.env := by rfl) (hpl : (backTo pos (starEach es X.env)).any (·.1) = false := by rfl)
    (ht : eval (.Call (.Attribute o m apos) (e :: es) [] pos) X.env = (do
      let ov ← eval o X.env
      standAt apos.atName
      let (f, first) ← holding [ov] (getMethod ov m pl)
      callWith pos f first (backTo pos (starEach (e :: es) X.env)) (backToKw pos (keywordEach [] X.env))) := by rfl) :
    PE X (.Call (.Attribute o m apos) (e :: es) [] pos) (tMeth C m sp dvs E ta t) := by
  intro pins s σ H Q I h
  refine PySem.W.methodCall_KW (pl := pl) (thn (he pins s σ H _ I h) fun u s1 ⟨x, H1, I1, rx, a, dx, fs, ex, ea, l, q⟩ => ?_) ht
  subst ex
  obtain rfl : u = Value.ref a := rx
  refine getmeth_ok I1 ea c hm l ?_
  refine PySem.W.callWith_K (first := [.ref a]) (h₀ := X.base) I.ok.mod.kin hm.kp (thn (ha pos pins s1 σ H1 _ I1 q) fun us s2 ⟨vs, H2, I2, r, q2⟩ => ⟨I2.kIn, ?_⟩) hst hpl
  exact run_fn (us := .ref a :: us) (vs := .ref a :: vs) F hr hb hd hx I2 (.cons rfl r) q2
/-- o.m() -/
theorem pe_meth0 {pl : Sem Bool} (he : PE X o ta) (c : Cls X.K C) (hm : Meth X.K C m f) (F : FnOk X.prog X.w X.K X.mg X.base CX k f fd ps sp) (hr : Room k X.A) (hb : Binds X.K fd ps ds) (hd : Vals dvs ds) (hx : Passes CX X E)
    (ht : eval (.Call (.Attribute o m apos) [] [] pos) X.env = (do
      let ov ← eval o X.env
      standAt apos.atName
      let (f, first) ← holding [ov] (getMethod ov m pl)
      callWith pos f first (backTo pos (starEach [] X.env)) (backToKw pos (keywordEach [] X.env))) := by rfl) :
    PE X (.Call (.Attribute o m apos) [] [] pos) (tMeth C m sp dvs E ta tNil) := by
  intro pins s σ H Q I h
  refine PySem.W.methodCall_KW (pl := pl) (thn (he pins s σ H _ I h) fun u s1 ⟨x, H1, I1, rx, a, dx, fs, ex, ea, l, q⟩ => ?_) ht
  subst ex
  obtain rfl : u = Value.ref a := rx
  refine getmeth_ok I1 ea c hm l ?_
  exact PySem.W.callWith_K0 (first := [.ref a]) I1.kIn hm.kp (run_fn (us := [.ref a]) (vs := [.ref a]) F hr hb hd hx I1 (.cons rfl .nil) q)

/-- what a class must have to be made -/
structure Mk (K : PySem.W.Frag) (C f : Addr) : Prop where
  makes : PySem.W.makesIn K C = true
  init : PySem.W.findIn K (.ref C) "__init__" = some (some (.ref f))
  fn : PySem.W.isFn K (.ref f) = true
  kp : PySem.W.keepIn K (.ref C) = true

theorem run_make {pins : List (Addr × Obj)} {σ : St} {H : Hp} {s : Shared} {Q : VK} {us : List Value} {vs : List V} (M : Mk X.K C f) (F : FnOk X.prog X.w X.K X.mg X.base CX k f fd ps sp) (hr : Room (k + 1) X.A) (hb : Binds X.K fd ps ds) (hd : Vals dvs ds)
    (hx : Passes CX X E) (I : Inv X pins σ H s) (r : Vals vs us)
    (h : ∀ x dx, H x = none → H dx = none → dx ≠ x → sp (.ref x :: (vs ++ dvs)) (upd (upd H dx (.own x)) x (.ins C dx [])) (fun v H2 => v = .non ∧ Q (.ref x) H2) E) :
    wpAny (model X.prog X.w) X.A (call (.ref C) us) (EP X pins σ Q) X.xe s := by
  have hq := h (s.heap.objs.size + 1) s.heap.objs.size (I.hok.fresh (Nat.le_succ _)) (I.hok.fresh (Nat.le_refl _)) (Nat.ne_of_lt (Nat.lt_succ_self _))
  have I2 := Inv.made (C := C) I
  have r2 : Vals (V.ref (s.heap.objs.size + 1) :: (vs ++ dvs)) (Value.ref (s.heap.objs.size + 1) :: (us ++ ds)) := .cons rfl (r.append hd)
  have hl : (Value.ref (s.heap.objs.size + 1) :: us ++ ds).length = ps.length := by
    have e := r2.length
    rw [F.len _ _ _ _ hq] at e
    exact e.symm
  refine wpAny_call (make_map (f := f) I.kIn M.makes M.init (beq_iff_eq.mp M.fn) (codeAny_mono (F.run _ X.stack _ _ ⟨Value.ref (s.heap.objs.size + 1) :: us, []⟩ (Value.ref (s.heap.objs.size + 1) :: (us ++ ds)) _ _ E (hr.make C us [])
    (I2.env0.make C us []) (hb _ (Value.ref (s.heap.objs.size + 1) :: us) I2.kIn hl) r2 hq) fun r s' hq' => ?_))
  cases r with
  | error e => exact hx pins σ _ _ e s' I2 hq'
  | ok fl =>
    cases fl with
    | ret u =>
      obtain ⟨v, H', I3, rv, ev, q3⟩ := I2.after hq'
      subst ev
      exact ⟨rv, ⟨V.ref (s.heap.objs.size + 1), H', I3, rfl, q3⟩⟩
    | next => exact False.elim hq'
    | brk => exact False.elim hq'
    | cont => exact False.elim hq'
theorem pe_make (M : Mk X.K C f) (F : FnOk X.prog X.w X.K X.mg X.base CX k f fd ps sp) (hr : Room (k + 1) X.A) (hg : Gl X x) (hm : X.mg x = some (.ref C)) (hb : Binds X.K fd ps ds) (hd : Vals dvs ds) (hx : Passes CX X E)
    (ha : PA X (e :: es) t) (hdb : (x == ("__debug__" : Str)) = false := by decide) (he : starEach (e :: es) X.env = (false, eval e X.env) :: starEach es X.env := by rfl) (hpl : (backTo pos (starEach es X.env)).any (·.1) = false := by rfl) :
    PE X (.Call (.Name x p) (e :: es) [] pos) (tMake C sp dvs E t) := by
  intro pins s σ H Q I h
  refine wpAny_Call_Name_kw (ld_glob I hg hm ?_ hdb)
  refine PySem.W.callWith_K (h₀ := X.base) I.ok.mod.kin M.kp (thn (ha pos pins s σ H _ I h) fun us s1 ⟨vs, H1, I1, r, q⟩ => ⟨I1.kIn, ?_⟩) he hpl
  exact run_make M F hr hb hd hx I1 r q
theorem pe_make0 (M : Mk X.K C f) (F : FnOk X.prog X.w X.K X.mg X.base CX k f fd ps sp) (hr : Room (k + 1) X.A) (hg : Gl X x) (hm : X.mg x = some (.ref C)) (hb : Binds X.K fd ps ds) (hd : Vals dvs ds) (hx : Passes CX X E)
    (hdb : (x == ("__debug__" : Str)) = false := by decide) : PE X (.Call (.Name x p) [] [] pos) (tMake C sp dvs E tNil) := by
  intro pins s σ H Q I h
  refine wpAny_Call_Name_kw (ld_glob I hg hm ?_ hdb)
  exact PySem.W.callWith_K0 I.kIn M.kp (run_make (us := []) M F hr hb hd hx I .nil h)
end

/-! ### keywords -/
/-- the values of the keywords, from the left -/
def PK (X : Cx) (kws : List Keyword) (t : TA) : Prop :=
  ∀ (pos : Pos) (pins : List (Addr × Obj)) (s : Shared) (σ : St) (H : Hp) (Q : List V → Hp → Prop), Inv X pins σ H s → t σ H Q → wpAny (model X.prog X.w) X.A (evalAll ((backToKw pos (keywordEach kws X.env)).map (·.2))) (AP X pins σ Q) X.xe s
section
variable {X : Cx} {CX : CXT} {k : Nat} {f C : Addr} {fd : FuncData} {ps ks : List Str} {sp : Sp} {E : XK} {x m : Str} {p pos apos kpos : Pos} {e o : Expr} {es : List Expr} {kws : List Keyword} {te ta : TE} {t tk : TA} {nm : Option Str}
theorem pk_nil : PK X [] tNil := fun _ _ _ _ H Q I h => wpAny_evalAll_nil ⟨[], H, I, .nil, h⟩
theorem pk_cons (ha : PE X e te) (hr : PK X kws t) : PK X (⟨nm, e, kpos⟩ :: kws) (tCons te t) := by
  intro pos pins s σ H Q I h
  show wpAny _ _ (evalAll ((do let v ← eval e X.env; standAt pos; pure v) :: (backToKw pos (keywordEach kws X.env)).map (·.2))) _ _ s
  refine wpAny_evalAll_cons (wpAny_bind (thn (ha pins s σ H _ I h) fun u s1 ⟨x, H1, I1, r1, q1⟩ => wpAny_bind (wpAny_standAt (wpAny_pure ?_))))
  exact thn (hr pos pins s1 σ H1 _ I1 q1) fun us s2 ⟨xs, H2, I2, r2, q2⟩ => ⟨x :: xs, H2, I2, .cons r1 r2, q2⟩

/-- how a call with keywords binds: g puts the positional values us and the keywords' values ws (names ks) in the parameters' order, defaults among them -/
structure KBinds (K : PySem.W.Frag) (fd : FuncData) (ps ks : List Str) (g : List Value → List Value → List Value) (gV : List V → List V → List V) : Prop where
  to : ∀ (s : Shared) (us ws : List Value), K.In s.heap → (g us ws).length = ps.length → BindsTo s fd ⟨us, ks.zip ws⟩ (ps.zip (g us ws))
  rel : ∀ {vs : List V} {us : List Value} {zs : List V} {ws : List Value}, Vals vs us → Vals zs ws → Vals (gV vs zs) (g us ws)
def tCallK (sp : Sp) (gV : List V → List V → List V) (E : XK) (t tk : TA) : TE := fun σ H Q => t σ H fun vs H1 => tk σ H1 fun zs H2 => sp (gV vs zs) H2 Q E
variable {g : List Value → List Value → List Value} {gV : List V → List V → List V}
theorem run_fnk {pins : List (Addr × Obj)} {σ : St} {H : Hp} {s : Shared} {Q : VK} {us ws : List Value} {vs zs : List V} (F : FnOk X.prog X.w X.K X.mg X.base CX k f fd ps sp) (hr : Room k X.A) (hb : KBinds X.K fd ps ks g gV) (hx : Passes CX X E)
    (I : Inv X pins σ H s) (r : Vals vs us) (rz : Vals zs ws) (h : sp (gV vs zs) H Q E) : wpAny (model X.prog X.w) X.A (call (.ref f) us (ks.zip ws)) (EP X pins σ Q) X.xe s := by
  have r2 := hb.rel r rz
  have hl : (g us ws).length = ps.length := by rw [← r2.length]; exact F.len _ _ _ _ h
  refine wpAny_call (codeAny_mono (F.run X.A X.stack s H ⟨us, ks.zip ws⟩ (g us ws) (gV vs zs) Q E hr I.env0 (hb.to s us ws I.kIn hl) r2 h) fun r s' hq => ?_)
  cases r with
  | error e => exact hx pins σ H s e s' I hq
  | ok fl =>
    cases fl with
    | ret u => exact I.after hq
    | next => exact False.elim hq
    | brk => exact False.elim hq
    | cont => exact False.elim hq
/-- f(e, .., k = v, ..) -/
theorem pe_callK (F : FnOk X.prog X.w X.K X.mg X.base CX k f fd ps sp) (hr : Room k X.A) (hg : Gl X x) (hm : X.mg x = some (.ref f)) (hk : PySem.W.keepIn X.K (.ref f) = true) (hb : KBinds X.K fd ps ks g gV) (hx : Passes CX X E)
    (ha : PA X (e :: es) t) (hkw : PK X kws tk) (hall : (backToKw pos (keywordEach kws X.env)).all (·.1.isSome) = true := by rfl) (hks : (backToKw pos (keywordEach kws X.env)).filterMap (·.1) = ks := by rfl)
    (hdb : (x == ("__debug__" : Str)) = false := by decide) (he : starEach (e :: es) X.env = (false, eval e X.env) :: starEach es X.env := by rfl)
    (hpl : ((backTo pos (starEach (e :: es) X.env)).any (·.1) || (backToKw pos (keywordEach kws X.env)).any (·.1.isNone)) = false := by rfl) :
    PE X (.Call (.Name x p) (e :: es) kws pos) (tCallK sp gV E t tk) := by
  intro pins s σ H Q I h
  refine wpAny_Call_Name_kw (ld_glob I hg hm ?_ hdb)
  refine PySem.W.callWith_KW (h₀ := X.base) I.ok.mod.kin hk hall (thn (ha pos pins s σ H _ I h) fun us s1 ⟨vs, H1, I1, r, q⟩ => ?_) hpl he
  refine thn (hkw pos pins s1 σ H1 _ I1 q) fun ws s2 ⟨zs, H2, I2, rz, q2⟩ => ⟨I2.kIn, ?_⟩
  rw [hks]
  exact run_fnk F hr hb hx I2 r rz q2
end

/-! ### a def's body keeps its promise -/
/-- names: the parameters first -/
structure FnScope (N P : List Str) (sc : Scope) : Prop where
  kind : sc.kind = .function
  co : sc.isCoroutine = false
  gen : sc.isGenerator = false
  nd : N.Nodup
  pre : N.take P.length = P
  par : ∀ x ∈ P, sc.names.lookup x = some .local ∨ sc.names.lookup x = some .cell
  nofree : ∀ y ∈ sc.names, y.2 ≠ .free

theorem bindL_out {kindOf : Str → Option NameKind} {x : Str} : ∀ {binds : List (Str × Value)} {m : Str → Option Value}, (∀ v, (x, v) ∉ binds) → bindL kindOf binds m x = m x
  | [], _, _ => rfl
  | (n, v) :: r, m, h => by
    unfold bindL
    rw [bindL_out fun w hw => h w (List.mem_cons_of_mem _ hw)]
    split
    · have : x ≠ n := by rintro rfl; exact h v List.mem_cons_self
      simp [this]
    · rfl
theorem bindC_out {kindOf : Str → Option NameKind} {x : Str} : ∀ {binds : List (Str × Value)} {m : Str → Option Value}, (∀ v, (x, v) ∉ binds) → bindC kindOf binds m x = m x
  | [], _, _ => rfl
  | (n, v) :: r, m, h => by
    unfold bindC
    rw [bindC_out fun w hw => h w (List.mem_cons_of_mem _ hw)]
    split
    · rfl
    · have : x ≠ n := by rintro rfl; exact h v List.mem_cons_self
      simp [this]
theorem bindL_get {kindOf : Str → Option NameKind} {x : Str} {v : Value} : ∀ {P : List Str} {vs : List Value} {i : Nat} {m : Str → Option Value}, P.Nodup → P[i]? = some x → vs[i]? = some v → kindOf x = some .local →
    bindL kindOf (P.zip vs) m x = some v
  | [], _, _, _, _, h, _, _ => by simp at h
  | _ :: _, [], _, _, _, _, h, _ => by simp at h
  | p :: P, w :: vs, 0, m, nd, h1, h2, hk => by
    simp at h1 h2; subst h1; subst h2
    show bindL kindOf ((p, w) :: P.zip vs) m p = _
    unfold bindL
    rw [bindL_out fun v hv => (List.nodup_cons.mp nd).1 (List.of_mem_zip hv).1, if_pos hk]
    simp
  | p :: P, w :: vs, i + 1, m, nd, h1, h2, hk => by
    show bindL kindOf ((p, w) :: P.zip vs) m x = _
    unfold bindL
    exact bindL_get (i := i) (List.nodup_cons.mp nd).2 (by simpa using h1) (by simpa using h2) hk
theorem bindC_get {kindOf : Str → Option NameKind} {x : Str} {v : Value} : ∀ {P : List Str} {vs : List Value} {i : Nat} {m : Str → Option Value}, P.Nodup → P[i]? = some x → vs[i]? = some v → kindOf x ≠ some .local →
    bindC kindOf (P.zip vs) m x = some v
  | [], _, _, _, _, h, _, _ => by simp at h
  | _ :: _, [], _, _, _, _, h, _ => by simp at h
  | p :: P, w :: vs, 0, m, nd, h1, h2, hk => by
    simp at h1 h2; subst h1; subst h2
    show bindC kindOf ((p, w) :: P.zip vs) m p = _
    unfold bindC
    rw [bindC_out fun v hv => (List.nodup_cons.mp nd).1 (List.of_mem_zip hv).1, if_neg hk]
    simp
  | p :: P, w :: vs, i + 1, m, nd, h1, h2, hk => by
    show bindC kindOf ((p, w) :: P.zip vs) m x = _
    unfold bindC
    exact bindC_get (i := i) (List.nodup_cons.mp nd).2 (by simpa using h1) (by simpa using h2) hk

/-- the names' values at the entry -/
def start (N : List Str) (vs : List V) : St := vs.map some ++ List.replicate (N.length - vs.length) none

/-- the context of a def's body, at its entry; an exception leaves the frame, then lies as CX says -/
def cxOf (CX : CXT) (P : Program) (w : World) (K : PySem.W.Frag) (mg : Str → Option Value) (base : Heap) (N : List Str) (qual : Str) (scope : Scope) (f : Addr) (cd : Value) (A : Around) (outer : List Env) (s : Shared) (H : Hp) (E : XK) : Cx where
  prog := P
  w := w
  K := K
  mg := mg
  base := base
  A := A.deeper (envOfC qual scope s.heap.objs.size f cd)
  N := N
  s₀ := s
  H₀ := H
  env := envOfC qual scope s.heap.objs.size f cd
  outer := outer
  stack := envOfC qual scope s.heap.objs.size f cd :: outer
  ex := []
  calm := true
  fn := fun _ => true
  pn := []
  xe := fun e s' => wpAny (model P w) (A.deeper (envOfC qual scope s.heap.objs.size f cd)) (leaving (envOfC qual scope s.heap.objs.size f cd) e) (fun _ s'' => CX outer H s E e s'') (fun e' s'' => CX outer H s E e' s'') s'

theorem cell_has {sc : Scope} {n : Nat} {x : Str} (h : sc.names.lookup x = some .cell) : ∃ c, (cellsFrom n sc.names []).lookup x = some c := by
  have q := PySem.W.cellsFrom_some sc.names n [] (.inl h)
  exact Option.isSome_iff_exists.mp q

theorem inv_start {CX : CXT} {P : Program} {w : World} {K : PySem.W.Frag} {mg : Str → Option Value} {base : Heap} {N ps : List Str} {qual : Str} {scope : Scope} {f : Addr} {cd : Value} {A : Around} {outer : List Env} {s s1 : Shared} {H : Hp} {E : XK} {us : List Value} {vs : List V}
    (S : FnScope N ps scope) (hd : A.handled = none) (e0 : Env0 P w K mg base A outer s H) (hl : vs.length = ps.length) (r : Vals vs us)
    (x : InCallC s s.heap.objs.size (bindL (envOfC qual scope s.heap.objs.size f cd).kindOf (ps.zip us) fun _ => none) (cellsFrom (s.heap.objs.size + 1) scope.names []) (bindC (envOfC qual scope s.heap.objs.size f cd).kindOf (ps.zip us) fun _ => none) s1) :
    Inv (cxOf CX P w K mg base N qual scope f cd A outer s H E) [] (start N vs) H s1 := by
  have hpl : ps.length ≤ N.length := by have := congrArg List.length S.pre; rw [List.length_take] at this; omega
  obtain ⟨h1, tk, rfl, hk⟩ := x.done
  have noA : ∀ b : Addr, b ∉ (cxOf CX P w K mg base N qual scope f cd A outer s H E).ex := fun b z => absurd (show b ∈ ([] : List Addr) from z) (by simp)
  refine ⟨⟨e0.mod, S.kind, rfl, rfl, Nat.le_refl _, fun y z c h1 h2 => ?_, fun y hy => ?_, fun y c _ h => ?_, fun _ => hd, Around.frames_deeper e0.frames, .inr ⟨rfl, rfl⟩, fun b z => absurd z (noA b), e0.bs, e0.bsz, fun b _ _ => noA b, fun b z => absurd z (noA b), e0.funs, e0.frf⟩,
    rfl, e0.bare, Un.kept hk, ⟨_, x.toInCall.ns, fun i y v h1 h2 h3 => ?_⟩, fun y c h => ⟨_, x.cell y c h⟩, e0.hok.fresh (Nat.le_refl _), fun y c h => ?_, fun p hp => absurd (show p ∈ ([] : List (Addr × Obj)) from hp) (by simp), e0.hok.kept hk, ?_⟩
  · exact name_of_addr x.apart (PySem.mem_of_lookup h1) (PySem.mem_of_lookup h2)
  · have hy : scope.names.lookup y = some .cell ∨ scope.names.lookup y = some .free := hy
    rcases hy with hy | hy
    · exact cell_has hy
    · exact absurd rfl (S.nofree _ (PySem.mem_of_lookup hy))
  · exact Nat.le_of_lt (x.above y c (PySem.mem_of_lookup h))
  · have hi : i < vs.length := by
      unfold start at h2
      by_cases hi : i < vs.length
      · exact hi
      · rw [List.getElem?_append_right (by simpa using hi)] at h2
        rw [List.getElem?_replicate] at h2
        split at h2 <;> cases h2
    have ha : vs[i]? = some v := by
      unfold start at h2
      rw [List.getElem?_append_left (by simpa using hi), List.getElem?_map] at h2
      cases e : vs[i]? with
      | none => rw [e] at h2; cases h2
      | some a => rw [e] at h2; cases h2; rfl
    obtain ⟨u, hu, rv⟩ := r.get ha
    have hp : ps[i]? = some y := by
      rw [← S.pre, List.getElem?_take_of_lt (by omega)]; exact h1
    have ndP : ps.Nodup := by rw [← S.pre]; exact S.nd.sublist (List.take_sublist _ _)
    refine ⟨u, rv, ?_⟩
    rcases S.par y (List.mem_of_getElem? hp) with k | k
    · exact .inl ⟨k, bindL_get ndP hp hu k⟩
    · obtain ⟨c, e⟩ := cell_has (n := s.heap.objs.size + 1) k
      refine .inr ⟨.inl k, c, e, ?_⟩
      have q := x.cell y c e
      rw [bindC_get ndP hp hu (by show scope.names.lookup y ≠ _; rw [k]; decide)] at q
      exact q
  · exact e0.hok.fresh (Nat.le_of_lt (x.above y c (PySem.mem_of_lookup h)))
  · unfold start
    show _ = N.length
    rw [List.length_append, List.length_map, List.length_replicate]
    omega

/-- THE RULE: a def (or a method) of the text, by its body. The body's reading t is chosen for each entry; it is run at the parameters' values -/
theorem fn_of {CX : CXT} {P : Program} {w : World} {K : PySem.W.Frag} {mg : Str → Option Value} {base : Heap} {k : Nat} {f : Addr} {name qual : Str} {params : Arguments} {body : List Stmt} {scope : Scope} {dV kV doc pm cdv ct oc : Value} {an od : Option Addr}
    {osl : Array (Option Value)} {N ps : List Str} {sp : Sp} (lk : K.lookup f = some ⟨oc, od, .func (PySem.W.fnOf name qual params body scope dV kV doc pm an cdv ct), osl⟩) (hcd : PySem.W.codeIn K cdv qual = true) (S : FnScope N ps scope)
    (len : ∀ vs H Q E, sp vs H Q E → vs.length = ps.length)
    (hbody : ∀ (A : Around) (outer : List Env) (s : Shared) (H : Hp) (vs : List V) (Q : VK) (E : XK), Room k (A.deeper (envOfC qual scope s.heap.objs.size f cdv)) → sp vs H Q E →
      ∃ t, PSs (cxOf CX P w K mg base N qual scope f cdv A outer s H E) body t ∧ t { nx := fun _ H' => Q .non H', rt := Q } (start N vs) H) :
    FnOk P w K mg base CX (k + 1) f (PySem.W.fnOf name qual params body scope dV kV doc pm an cdv ct) ps sp := by
  refine ⟨len, fun A outer s H args us vs Q E hr e0 hb r hsp => ?_⟩
  have hl := len _ _ _ _ hsp
  have KX : K.In s.heap := e0.mod.kin.keeps fun b o e => (e0.bs b o e).1
  have lim : s.heap.NoLimit := e0.mod.nolimit.keeps fun b o e => (e0.bs b o e).1
  have hkind : ∀ y ∈ ps.zip us, scope.names.lookup y.1 = some .local ∨ (scope.names.lookup y.1 = some .cell ∧ ((cellsFrom (s.heap.objs.size + 1) scope.names []).lookup y.1).isSome = true) := fun ⟨n, v⟩ hy => by
    rcases S.par n (List.of_mem_zip hy).1 with q | q
    · exact .inl q
    · exact .inr ⟨q, PySem.W.cellsFrom_some _ _ _ (.inl q)⟩
  refine codeAny_call_function hr.depth (KX _ _ lk) rfl S.co S.gen rfl (PySem.W.codeRec_of KX hcd) (hb _ _ _ _ ?_)
  refine wpAny_newFunctionEnv_cells S.kind hkind fun env he s1 x => ?_
  subst he
  refine ⟨lim.keeps x.toInCall.keep, codeAny_func ?_⟩
  obtain ⟨t, ht, hq⟩ := hbody A outer s H vs Q E (hr.deeper _) hsp
  have I : Inv (cxOf CX P w K mg base N qual scope f cdv A outer s H E) [] (start N vs) H s1 := inv_start S hr.hd e0 hl r x
  refine wpAny_mono (ht [] s1 (start N vs) H _ I hq) (fun fl s' hs => ?_) fun e s' hs => hs
  have fin : ∀ {σ' : St} {H' : Hp} {v : V} {u : Value}, Inv (cxOf CX P w K mg base N qual scope f cdv A outer s H E) [] σ' H' s' → RelV v u → Q v H' → CE outer P w H s Q u s' :=
    fun {σ' H' v u} J rv q => ⟨v, H', J.os, J.bare, J.base, J.hok, rv, q⟩
  cases fl with
  | ret u =>
    obtain ⟨v, σ', H', J, rv, q⟩ := hs
    exact fin J rv q
  | next =>
    obtain ⟨σ', H', J, q⟩ := hs
    exact fin (v := V.non) (u := Value.none) J rfl q
  | brk =>
    obtain ⟨_, _, _, q⟩ := hs
    exact False.elim q
  | cont =>
    obtain ⟨_, _, _, q⟩ := hs
    exact False.elim q
end L2

namespace L2
open PySem PySem.Spec PyProof.Rows
section
variable {X : Cx} {x : Str} {p pos : Pos} {e : Expr} {es : List Expr} {t : TA} {id T : String} {r : List V → Hp → VK → Prop}

def tCB (r : List V → Hp → VK → Prop) (t : TA) : TE := fun σ H Q => t σ H fun vs H1 => r vs H1 Q
/-- f(e, ..), f a built-in function -/
theorem pe_callB (hc : CallR X (.builtin id) r) (hg : Gl X x) (hm : X.mg x = none) (hv : bootBuiltins x = some (.builtin id)) (ha : PA X (e :: es) t) (hn : x ≠ "__name__" := by decide) (hdb : (x == ("__debug__" : Str)) = false := by decide)
    (he : starEach (e :: es) X.env = (false, eval e X.env) :: starEach es X.env := by rfl) (hpl : (backTo pos (starEach es X.env)).any (·.1) = false := by rfl) : PE X (.Call (.Name x p) (e :: es) [] pos) (tCB r t) := by
  intro pins s σ H Q I h
  refine wpAny_Call_Name_kw (ld_blt I hg hm hv ?_ hn hdb)
  exact PyProof.Rows.callWith_builtin1 (thn (ha pos pins s σ H _ I h) fun us s1 ⟨vs, H1, I1, r1, q1⟩ => hc pins s1 σ H1 vs us Q I1 r1 q1) he hpl
/-- T(e, ..), T a built-in type -/
theorem pe_callTy (hc : CallR X (.type T) r) (hg : Gl X x) (hm : X.mg x = none) (hv : bootBuiltins x = some (.type T)) (ha : PA X (e :: es) t) (hn : x ≠ "__name__" := by decide) (hdb : (x == ("__debug__" : Str)) = false := by decide)
    (he : starEach (e :: es) X.env = (false, eval e X.env) :: starEach es X.env := by rfl) (hpl : (backTo pos (starEach es X.env)).any (·.1) = false := by rfl) : PE X (.Call (.Name x p) (e :: es) [] pos) (tCB r t) := by
  intro pins s σ H Q I h
  refine wpAny_Call_Name_kw (ld_blt I hg hm hv ?_ hn hdb)
  exact PyProof.Rows.callWith_type1 (thn (ha pos pins s σ H _ I h) fun us s1 ⟨vs, H1, I1, r1, q1⟩ => hc pins s1 σ H1 vs us Q I1 r1 q1) he hpl
/-- T() -/
theorem pe_callTy0 (hc : CallR X (.type T) r) (hg : Gl X x) (hm : X.mg x = none) (hv : bootBuiltins x = some (.type T)) (hn : x ≠ "__name__" := by decide) (hdb : (x == ("__debug__" : Str)) = false := by decide) :
    PE X (.Call (.Name x p) [] [] pos) (tCB r tNil) := by
  intro pins s σ H Q I h
  refine wpAny_Call_Name_kw (ld_blt I hg hm hv ?_ hn hdb)
  exact PyProof.Rows.callWith_type0 (hc pins s σ H [] [] Q I .nil h)
end
end L2

namespace HT
open PySem PyProof.Rows

/-- t < u of tuples of ints -/
def lexLt : List Int → List Int → Bool
  | [], [] => false
  | [], _ :: _ => true
  | _ :: _, [] => false
  | x :: xs, y :: ys => if x = y then lexLt xs ys else decide (x < y)
theorem lexLt_cons (x y : Int) (xs ys : List Int) : lexLt (x :: xs) (y :: ys) = if x = y then lexLt xs ys else decide (x < y) := rfl
theorem lexLt_nil_nil : lexLt [] [] = false := rfl
theorem lexLt_nil_cons (y : Int) (ys : List Int) : lexLt [] (y :: ys) = true := rfl
theorem lexLt_cons_nil (x : Int) (xs : List Int) : lexLt (x :: xs) [] = false := rfl

theorem eqAt_int (A : Around) (s : Shared) (a : Int) (t : Tok) (c : Int) (u : Tok) : ∃ e, SeqAt.EqAt A s (.int a t) (.int c u) e ∧ (e = true ↔ a = c) :=
  ⟨(a == c), SeqAt.EqAt.int_int a t c u, by simp⟩
theorem rcLt_int (A : Around) (s : Shared) (a : Int) (t : Tok) (c : Int) (u : Tok) (prog : Program) (w : World) (E : Value → Shared → Prop) (Q : Value → Shared → Prop) (h : Q (.bool (decide (a < c))) s) :
    wpAny (model prog w) A (richCompare .Lt (.int a t) (.int c u)) Q E s :=
  (PyProof.Rows.lt_int h : wpAny (model prog w) A (compareOp .Lt (.int a t) (.int c u)) Q E s)

section
open PySem.SeqAt
open PySem.AutoSeq1 (wpAny_loadPart')
open PySem.MeetsSeq PySem.MeetsSeq2 PySem.MeetsSeq3

theorem tuple_lt_ints (l b : Addr) (items items2 : Array Value) (n n2 : Nat) (dd dd2 : Option Addr) (sl sl2 : Array (Option Value)) (ns ms : List Int) (hi : IntsAre items.toList ns) (hj : IntsAre items2.toList ms) :
    Meets (Builtin.«tuple.__lt__» ⟨[.ref l, .ref b], []⟩)
      (fun _ R s => s.heap.get? l = some { cls := .type "tuple", dict := dd, data := .seq items n, slots := sl } ∧ s.heap.get? b = some { cls := .type "tuple", dict := dd2, data := .seq items2 n2, slots := sl2 } ∧
        R (.ok (.ret (.bool (lexLt ns ms)))) s) :=
  .of_wp fun prog w A R s h => by
    obtain ⟨hp, g, d, tk, os⟩ := s; obtain ⟨hl, hb, h⟩ := h
    have f2 := AutoSeq1.sub_tuple_tuple
    have z1 : items.size = ns.length := by rw [← hi.length]; simp
    have z2 : items2.size = ms.length := by rw [← hj.length]; simp
    wp_walk using wpAny_loadPart' hl, wpAny_loadPart' hb, wpAny_forIn_list _ (fun rest b s' => b.1 = none ∧ s' = ⟨hp, g, d, tk, os⟩ ∧ ∃ (vs ws : List Value) (ns' ms' : List Int), rest = vs.zip ws ∧
      IntsAre vs ns' ∧ IntsAre ws ms' ∧ ns'.length + items2.size = ms'.length + items.size ∧ R (.ok (.ret (.bool (lexLt ns' ms')))) ⟨hp, g, d, tk, os⟩) _
    case turn =>
      rintro ⟨y, x⟩ rest b s' ⟨hb', rfl, vs, ws, ns', ms', hz, hvi, hwi, hlen, hR⟩
      cases hvi with
      | nil => rw [List.zip_nil_left] at hz; cases hz
      | cons a t hvi' =>
        cases hwi with
        | nil => rw [List.zip_nil_right] at hz; cases hz
        | cons c u hwi' =>
          rw [List.zip_cons_cons] at hz
          injection hz with hyx hrest
          injection hyx with hy hx
          subst hy hx
          rw [lexLt_cons] at hR
          simp only [List.length_cons] at hlen
          obtain ⟨e, he, hiff⟩ := eqAt_int A.in1 ⟨hp, g, d, tk, os⟩ a t c u
          refine wpAny_bind (he prog w _ _ ?_)
          cases e with
          | true =>
            rw [if_pos (hiff.mp rfl)] at hR
            wp_walk
            exact ⟨rfl, rfl, _, _, _, _, hrest, hvi', hwi', by omega, hR⟩
          | false =>
            rw [if_neg (fun q => absurd (hiff.mpr q) Bool.false_ne_true)] at hR
            have hri := rcLt_int A.in1 ⟨hp, g, d, tk, os⟩ a t c u prog w
            wp_walk using hri
            exact ⟨_, rfl, by simpa using hR⟩
    case fin =>
      rintro ⟨b1, b2⟩ s' ⟨hb', rfl, vs, ws, ns', ms', hz, hvi, hwi, hlen, hR⟩
      simp only at hb'
      subst hb'
      have hv : lexLt ns' ms' = decide (items.size < items2.size) := by
        cases hvi with
        | nil =>
          cases hwi with
          | nil =>
            simp only [List.length_nil] at hlen
            rw [lexLt_nil_nil]
            exact (decide_eq_false (by omega)).symm
          | cons c u hw =>
            simp only [List.length_nil, List.length_cons] at hlen
            rw [lexLt_nil_cons]
            exact (decide_eq_true (by omega)).symm
        | cons a t hv =>
          cases hwi with
          | nil =>
            simp only [List.length_nil, List.length_cons] at hlen
            rw [lexLt_cons_nil]
            exact (decide_eq_false (by omega)).symm
          | cons c u hw =>
            rw [List.zip_cons_cons] at hz
            cases hz
      rw [hv] at hR
      wp_walk
      exact ⟨_, rfl, by simpa [Builtin.Tuple.tupleCompareSizes] using hR⟩
    case h =>
      exact ⟨rfl, rfl, items.toList, items2.toList, ns, ms, rfl, hi, hj, by omega, h⟩
end

section
variable {prog : Program} {w : World} {A : Around} {E : Value → Shared → Prop} {s : Shared}

theorem lt_tupInts {l b : Addr} {items items2 : Array Value} {ns ms : List Int} {Q : Value → Shared → Prop} (hl : IsTup s.heap l items) (hb : IsTup s.heap b items2) (hi : IntsAre items.toList ns) (hj : IntsAre items2.toList ms)
    (hu : A.units < cLine) (h : Q (.bool (lexLt ns ms)) s) : wpAny (model prog w) A (compareOp .Lt (.ref l) (.ref b)) Q E s := by
  obtain ⟨⟨cls, dd, data, sl⟩, ho, hc, n, hd⟩ := id hl
  obtain ⟨⟨cls2, dd2, data2, sl2⟩, ho2, hc2, n2, hd2⟩ := id hb
  simp only at hc hd hc2 hd2
  subst hc hd hc2 hd2
  exact richCompare_meets_room (op := .Lt) ⟨_, ho, rfl⟩ ⟨_, ho2, rfl⟩ PySem.F.slot_tuple_lt PySem.F.entry_tuple_lt (PySem.F.args_tuple_lt_2 _ _) (tuple_lt_ints l b items items2 n n2 dd dd2 sl sl2 ns ms hi hj)
    ⟨ho, ho2, show Value.bool (lexLt ns ms) ≠ Value.notImplemented ∧ Q (.bool (lexLt ns ms)) s from ⟨(fun x => nomatch x), h⟩⟩ hu

/-- t + u, t not empty -/
theorem cat_tup {t b : Addr} {vs ws : List Value} {Q : Value → Shared → Prop} (ht : IsTup s.heap t vs.toArray) (hb : IsTup s.heap b ws.toArray) (hv : vs ≠ [])
    (h1 : ws = [] → Q (.ref t) s) (h2 : ws ≠ [] → Q (.ref s.heap.objs.size) { s with heap := s.heap.push { cls := .type "tuple", data := .seq (vs ++ ws).toArray } })
    (hsz : vs.length + ws.length ≤ sizeLine) : wpAny (model prog w) A (binaryOp .Add (.ref t) (.ref b)) Q E s := by
  obtain ⟨⟨cls, dd, data, sl⟩, ho, hc, n, hd⟩ := id ht
  obtain ⟨⟨cls2, dd2, data2, sl2⟩, ho2, hc2, n2, hd2⟩ := id hb
  simp only at hc hd hc2 hd2
  subst hc hd hc2 hd2
  have e : vs.toArray ++ ws.toArray = (vs ++ ws).toArray := by simp
  by_cases hw : ws = []
  · exact concat_meets ⟨_, ho, rfl⟩ ⟨_, ho2, rfl⟩ noFill_tuple_add seq_tuple_add PySem.F.slot_tuple_add PySem.F.entry_tuple_add (PySem.F.args_tuple_add_2 _ _)
      (tuple_addW1 t b vs.toArray ws.toArray n n2 dd dd2 sl sl2 (by simpa using hv) (by simp [hw])) ⟨ho, ho2, h1 hw⟩
  · refine concat_meets ⟨_, ho, rfl⟩ ⟨_, ho2, rfl⟩ noFill_tuple_add seq_tuple_add PySem.F.slot_tuple_add PySem.F.entry_tuple_add (PySem.F.args_tuple_add_2 _ _)
      (tuple_addW2 t b vs.toArray ws.toArray n n2 dd dd2 sl sl2 (by simpa using hv) (by simpa using hw) (by rw [List.size_toArray, List.size_toArray]; exact hsz)) ⟨ho, ho2, ?_⟩
    rw [e]
    exact h2 hw

/-! ### t[a:b], not the whole -/
/-- a slice's bound as a place among n (d where it is left out) -/
def sIx (n d : Nat) : Option Int → Nat
  | none => d
  | some v => if v < 0 then (v + (n : Int)).toNat else min v.toNat n
theorem sIx_none (n d : Nat) : sIx n d none = d := rfl
theorem sIx_nat (n d k : Nat) : sIx n d (some (k : Int)) = min k n := by
  show (if (k : Int) < 0 then ((k : Int) + (n : Int)).toNat else min (k : Int).toNat n) = min k n
  rw [if_neg (by omega), Int.toNat_natCast]
theorem sIx_le (n d : Nat) (hd : d ≤ n) (o : Option Int) : sIx n d o ≤ n := by
  cases o with
  | none => exact hd
  | some v =>
    show (if v < 0 then (v + (n : Int)).toNat else min v.toNat n) ≤ n
    by_cases hv : v < 0
    · rw [if_pos hv]; omega
    · rw [if_neg hv]; exact Nat.min_le_right _ _
theorem clip_eq (v : Int) (n d : Nat) : (if v < 0 then max (v + (n : Int)) 0 else min v (n : Int)) = ((sIx n d (some v) : Nat) : Int) := by
  show (if v < 0 then max (v + (n : Int)) 0 else min v (n : Int)) = (((if v < 0 then (v + (n : Int)).toNat else min v.toNat n) : Nat) : Int)
  by_cases hv : v < 0
  · simp only [if_pos hv]; omega
  · simp only [if_neg hv]; omega
theorem adjust_gen (lo hi : Option Int) (n : Nat) : Builtin.Slice.sliceAdjust lo hi 1 (n : Int) = (((sIx n 0 lo : Nat) : Int), ((sIx n n hi : Nat) : Int)) := by
  have h1 : ¬ ((1 : Int) < 0) := by omega
  unfold Builtin.Slice.sliceAdjust
  simp only [h1, if_false]
  refine Prod.ext ?_ ?_
  · cases lo with
    | none => rfl
    | some v => exact clip_eq v n 0
  · cases hi with
    | none => rfl
    | some v => exact clip_eq v n n
theorem places_gen (i j : Nat) : Builtin.Slice.slicePlaces (i : Int) (j : Int) 1 = j - i := by
  unfold Builtin.Slice.slicePlaces
  have h1 : (1 : Int) > 0 := by omega
  simp only [h1, if_true, Int.ediv_one]
  split <;> omega
theorem slicePart_ {v : Value} {o : Option Int} {Q : Option Int → Shared → Prop} (p : IsPart v o) (h : Q o s) : wpAny (model prog w) A (Builtin.Slice.slicePartIndex v) Q E s := by
  cases p with
  | none => exact slicePart_none h
  | int i t => exact slicePart_int h
theorem sliceApplied_gen {sl : Addr} {vl vu : Value} {lo hi : Option Int} {n : Nat} {Q : Int × Int × Nat → Shared → Prop} (hs : s.heap.IsSliceOf sl vl vu .none) (pl : IsPart vl lo) (pu : IsPart vu hi)
    (h : Q (((sIx n 0 lo : Nat) : Int), 1, sIx n n hi - sIx n 0 lo) s) : wpAny (model prog w) A (Builtin.Slice.sliceApplied (.ref sl) (pure (n : Int))) Q E s := by
  obtain ⟨os, hos, hcs, hds⟩ := id hs
  unfold Builtin.Slice.sliceApplied Builtin.Slice.sliceFields
  refine wpAny_bind (wpAny_bind (wpAny_field hos hds (x := vl) rfl (wpAny_bind (wpAny_field hos hds (x := vu) rfl (wpAny_bind (wpAny_field hos hds (x := .none) rfl (wpAny_pure ?_)))))))
  refine wpAny_bind (slicePart_none ?_)
  show wpAny _ _ (if ((1 : Int) == 0) = true then _ else _) _ _ s
  rw [if_neg (by decide)]
  refine wpAny_bind (slicePart_ pl (wpAny_bind (slicePart_ pu (wpAny_bind (wpAny_pure ?_)))))
  show wpAny _ _ (match Builtin.Slice.sliceAdjust lo hi 1 (n : Int) with | (lo, hi) => pure (lo, (1 : Int), Builtin.Slice.slicePlaces lo hi 1)) _ _ s
  rw [adjust_gen lo hi n]
  show wpAny _ _ (pure (((sIx n 0 lo : Nat) : Int), (1 : Int), Builtin.Slice.slicePlaces ((sIx n 0 lo : Nat) : Int) ((sIx n n hi : Nat) : Int) 1)) _ _ s
  rw [places_gen]
  exact wpAny_pure h
theorem pick_gen (xs : Array Value) (i k : Nat) : ((List.range k).filterMap fun (m : Nat) => xs[((i : Int) + (m : Int) * 1).toNat]?).toArray = ((xs.toList.drop i).take k).toArray := by
  have e : (fun (m : Nat) => xs[((i : Int) + (m : Int) * 1).toNat]?) = fun m => xs[i + m]? := by
    funext m
    have : ((i : Int) + (m : Int) * 1).toNat = i + m := by omega
    rw [this]
  rw [e]
  have := pick_run xs i k
  rw [List.filterMap_map] at this
  have e2 : ((fun x => xs[x]?) ∘ fun x => i + x) = fun m => xs[i + m]? := rfl
  rw [e2] at this
  rw [this]

theorem getItem_tuple_cut {t sl : Addr} {items : Array Value} {vl vu : Value} {lo hi : Option Int} {Q : Value → Shared → Prop} (ht : IsTup s.heap t items) (hs : s.heap.IsSliceOf sl vl vu .none) (pl : IsPart vl lo) (pu : IsPart vu hi)
    (hw : ¬ (sIx items.size 0 lo = 0 ∧ sIx items.size items.size hi = items.size))
    (h : Q (.ref s.heap.objs.size) { s with heap := s.heap.push { cls := .type "tuple", data := .seq ((items.toList.drop (sIx items.size 0 lo)).take (sIx items.size items.size hi - sIx items.size 0 lo)).toArray } })
    (hsz : items.size ≤ sizeLine) : wpAny (model prog w) A (getItem (.ref t) (.ref sl)) Q E s := by
  have htake : sizeOk (.seq ((items.toList.drop (sIx items.size 0 lo)).take (sIx items.size items.size hi - sIx items.size 0 lo)).toArray) := by
    show ((items.toList.drop (sIx items.size 0 lo)).take (sIx items.size items.size hi - sIx items.size 0 lo)).toArray.size ≤ sizeLine
    rw [List.size_toArray, List.length_take, List.length_drop, Array.length_toList]
    omega
  have hj : sIx items.size items.size hi ≤ items.size := sIx_le _ _ (Nat.le_refl _) hi
  obtain ⟨os, hos, hcs, hds⟩ := id hs
  have hTs : s.TypeIs (.ref sl) "slice" := ⟨os, hos, hcs⟩
  unfold getItem
  try with_reducible refine wpAny_holding ?_
  first | refine wpAny_bind (wpAny_pure ?_) | skip
  refine wpAny_bind (wpAny_sequenceKey ht.typeIs (by decide) ?_)
  refine wpAny_bind (wpAny_callSpecial?_slot (name := Str.ofString "__getitem__") ht.typeIs PyProof.Rows.slot_tuple_getitem
    (wpAny_call_entry PyProof.Rows.slot_tuple_getitem ht.typeIs entry_tuple_getitem ?_ (args_tuple_getitem _ _)))
  show wpAny _ _ (Builtin.Tuple.tupleItemsOf (.ref t) >>= _) _ _ s
  refine wpAny_bind (tupleItemsOf_ ht ?_)
  refine wpAny_bind (wpAny_typeOf hTs ?_)
  rw [if_pos (by decide)]
  refine wpAny_bind (sliceApplied_gen hs pl pu ?_)
  have hno : ¬ ((((sIx items.size 0 lo : Nat) : Int) == 0 && (1 : Int) == 1 && (sIx items.size items.size hi - sIx items.size 0 lo) == items.size) = true) := by
    intro q
    rw [Bool.and_eq_true, Bool.and_eq_true] at q
    have q1 : ((sIx items.size 0 lo : Nat) : Int) = 0 := eq_of_beq q.1.1
    have q2 : sIx items.size items.size hi - sIx items.size 0 lo = items.size := eq_of_beq q.2
    exact hw ⟨by omega, by omega⟩
  show wpAny _ _ (if (((sIx items.size 0 lo : Nat) : Int) == 0 && (1 : Int) == 1 && (sIx items.size items.size hi - sIx items.size 0 lo) == items.size) = true then _ else _) _ _ s
  rw [if_neg hno, pick_gen]
  first
    | exact wpAny_bind (m := Builtin.Tuple.tupleExact _) (wpAny_newObj_type (wpAny_pure ⟨_, rfl, wpAny_pure h⟩) htake)
    | exact wpAny_bind (m := Builtin.Tuple.tupleExact _) (wpAny_newObj_type (wpAny_bind (wpAny_pure (wpAny_pure ⟨_, rfl, wpAny_pure h⟩))) htake)
    | exact wpAny_bind (wpAny_bind (m := Builtin.Tuple.tupleExact _) (wpAny_newObj_type (wpAny_pure (wpAny_pure ⟨_, rfl, wpAny_pure h⟩)) htake))
    | exact wpAny_bind (wpAny_bind (m := Builtin.Tuple.tupleExact _) (wpAny_newObj_type (wpAny_pure ⟨_, rfl, wpAny_pure h⟩) htake))
end
end HT

namespace L2
open PySem PySem.Spec PyProof.Rows

/-! ### the parts of a slice -/
abbrev TO := St → Hp → (Option Int → Hp → Prop) → Prop
/-- a slice's part (left out, or an int) -/
def PO (X : Cx) (e : Option Expr) (t : TO) : Prop :=
  ∀ (pins : List (Addr × Obj)) (s : Shared) (σ : St) (H : Hp) (Q : Option Int → Hp → Prop), Inv X pins σ H s → t σ H Q →
    wpAny (model X.prog X.w) X.A (evalPart e X.env) (fun u s' => ∃ o H', Inv X pins σ H' s' ∧ IsPart u o ∧ Q o H') X.xe s
def tNoPart : TO := fun _ H Q => Q none H
def tPart (t : TE) : TO := fun σ H Q => t σ H fun x H1 => ∃ i, x = .int i ∧ Q (some i) H1

theorem intsAre_of {ns : List Int} : ∀ {us : List Value}, Vals (ns.map V.int) us → IntsAre us ns := by
  induction ns with
  | nil => intro us r; rw [List.map_nil] at r; cases r; exact .nil
  | cons n ns ih =>
    intro us r
    rw [List.map_cons] at r
    cases r with
    | cons r1 r2 =>
      obtain ⟨t, e⟩ := r1
      subst e
      exact .cons n t (ih r2)

section
variable {X : Cx} {e : Expr} {te : TE} {lo hi : Option Expr} {tl th : TO} {pos p2 : Pos}

theorem po_none : PO X none tNoPart := by
  intro pins s σ H Q I h
  rw [evalPart_none]
  exact wpAny_pure ⟨none, H, I, .none, h⟩
theorem po_some (h : PE X e te) : PO X (some e) (tPart te) := by
  intro pins s σ H Q I hw
  rw [evalPart_some]
  refine thn (h pins s σ H _ I hw) fun u s1 ⟨x, H1, I1, r1, q1⟩ => ?_
  obtain ⟨i, rfl, q⟩ := q1
  obtain ⟨t, rfl⟩ := r1
  exact ⟨some i, H1, I1, .int i t, q⟩

/-- what a slice of a value is, by values: the slice object stands at sl -/
def SlR (X : Cx) (r : V → Option Int → Option Int → Hp → VK → Prop) : Prop :=
  ∀ (pins : List (Addr × Obj)) (s : Shared) (σ : St) (H : Hp) (x : V) (v vl vu : Value) (lo hi : Option Int) (sl : Addr) (Q : VK), Inv X pins σ H s → RelV x v → s.heap.IsSliceOf sl vl vu .none → IsPart vl lo → IsPart vu hi → r x lo hi H Q →
    ∃ T id, typeLookup (.type T) "__getitem__" = pure (some (.builtin id)) ∧ s.TypeIs v T ∧ wpAny (model X.prog X.w) X.A (getItem v (.ref sl)) (EP X pins σ Q) X.xe s
theorem SlR.or {r r' : V → Option Int → Option Int → Hp → VK → Prop} (h : SlR X r) (h' : SlR X r') : SlR X (fun x lo hi H Q => r x lo hi H Q ∨ r' x lo hi H Q) := by
  intro pins s σ H x v vl vu lo hi sl Q I rx hs pl pu q
  rcases q with q | q
  · exact h pins s σ H x v vl vu lo hi sl Q I rx hs pl pu q
  · exact h' pins s σ H x v vl vu lo hi sl Q I rx hs pl pu q
def tSl (r : V → Option Int → Option Int → Hp → VK → Prop) (te : TE) (tl th : TO) : TE := fun σ H Q => te σ H fun x H1 => tl σ H1 fun l H2 => th σ H2 fun u H3 => r x l u H3 Q
/-- a[lo:hi], any a -/
theorem pe_slice {r : V → Option Int → Option Int → Hp → VK → Prop} (hr : SlR X r) (he : PE X e te) (hl : PO X lo tl) (hu : PO X hi th) : PE X (.Subscript e (.Slice lo hi none p2) pos) (tSl r te tl th) := by
  intro pins s σ H Q I h
  refine Subscript_ (thn (he pins s σ H _ I h) fun v s1 ⟨x, H1, I1, r1, q1⟩ => ?_)
  refine wpAny_Slice (thn (hl pins s1 σ H1 _ I1 q1) fun vl s2 ⟨l, H2, I2, pl, q2⟩ => thn (hu pins s2 σ H2 _ I2 q2) fun vu s3 ⟨u, H3, I3, pu, q3⟩ => ?_)
  rw [evalPart_none]
  refine wpAny_pure ?_
  have I4 : Inv X pins σ H3 { s3 with heap := s3.heap.push { cls := .type "slice", data := .fields #[vl, vu, .none] } } := I3.kept (t' := s3.toks) fun b ob q => Heap.get?_push_of_some _ q
  obtain ⟨T, id, hT, ht, hg⟩ := hr pins { s3 with heap := s3.heap.push { cls := .type "slice", data := .fields #[vl, vu, .none] } } σ H3 x v vl vu l u s3.heap.objs.size Q I4 r1 (Heap.IsSliceOf.new ..) pl pu q3
  show wpAny (model X.prog X.w) X.A (subscriptTail e (.Slice lo hi none p2) v (.ref s3.heap.objs.size)) (EP X pins σ Q) X.xe { s3 with heap := s3.heap.push { cls := .type "slice", data := .fields #[vl, vu, .none] } }
  exact tail_any (ops := [.ref s3.heap.objs.size, v]) ht hT hg (by with_unfolding_all rfl)

/-- the items of xs[lo:hi] -/
def cutV (xs : List V) (lo hi : Option Int) : List V := (xs.drop (HT.sIx xs.length 0 lo)).take (HT.sIx xs.length xs.length hi - HT.sIx xs.length 0 lo)
theorem cutV_length (xs : List V) (lo hi : Option Int) : (cutV xs lo hi).length ≤ xs.length := by
  unfold cutV
  rw [List.length_take, List.length_drop]
  omega
/-- t[lo:hi], not the whole of it (the whole would be t itself) -/
def rSlT (K : PySem.W.Frag) : V → Option Int → Option Int → Hp → VK → Prop := fun x lo hi H Q => ∃ a xs, x = .ref a ∧ SqT K H a xs ∧
  ¬ (HT.sIx xs.length 0 lo = 0 ∧ HT.sIx xs.length xs.length hi = xs.length) ∧ ∀ p, H p = none → Q (.ref p) (upd H p (.tup (cutV xs lo hi)))
theorem sl_tup : SlR X (rSlT X.K) := by
  intro pins s σ H x v vl vu lo hi sl Q I rx hs pl pu h
  obtain ⟨a, xs, rfl, hx, hw, q⟩ := h
  cases rx
  obtain ⟨its, r, ht, hz⟩ := I.tuple hx
  have hlen : its.toArray.size = xs.length := by rw [List.size_toArray]; exact r.length.symm
  refine ⟨"tuple", _, PyProof.Rows.slot_tuple_getitem.lookup, ht.typeIs, ?_⟩
  refine HT.getItem_tuple_cut ht hs pl pu (by rw [hlen]; exact hw) ?_ (by rw [hlen]; exact hz)
  rw [hlen]
  refine ⟨.ref s.heap.objs.size, _, I.laid (t' := s.toks) (o := .tup (cutV xs lo hi)) (fun b ob q => Heap.get?_push_of_some _ q) (Nat.le_refl _) ?_, rfl, q _ (I.hok.fresh (Nat.le_refl _))⟩
  exact ⟨Nat.le_trans (cutV_length xs lo hi) hz, _, (r.drop (HT.sIx xs.length 0 lo)).take (HT.sIx xs.length xs.length hi - HT.sIx xs.length 0 lo), IsTup.new _ _⟩

/-! ### t < u, t + u -/
def rLtT (K : PySem.W.Frag) : R2 := fun x y H Q => ∃ a b ns ms, x = .ref a ∧ y = .ref b ∧ SqT K H a (ns.map V.int) ∧ SqT K H b (ms.map V.int) ∧ Q (.bl (HT.lexLt ns ms)) H
theorem op_ltT (hu : X.A.units < cLine) : OpR X (compareOp .Lt) (rLtT X.K) := by
  intro pins s σ H x y v u Q I rx ry h
  obtain ⟨a, b, ns, ms, rfl, rfl, ha, hb, q⟩ := h
  cases rx
  cases ry
  obtain ⟨its, r1, p1, _⟩ := I.tuple ha
  obtain ⟨its2, r2, p2, _⟩ := I.tuple hb
  have i1 : IntsAre its.toArray.toList ns := intsAre_of r1
  have i2 : IntsAre its2.toArray.toList ms := intsAre_of r2
  exact HT.lt_tupInts p1 p2 i1 i2 hu ⟨.bl (HT.lexLt ns ms), H, I, rfl, q⟩
/-- t + u, t not empty: u empty gives t itself -/
def rCatT (K : PySem.W.Frag) : R2 := fun x y H Q => ∃ a b xs ys, x = .ref a ∧ y = .ref b ∧ SqT K H a xs ∧ SqT K H b ys ∧ xs ≠ [] ∧ xs.length + ys.length ≤ sizeLine ∧
  (ys = [] → Q (.ref a) H) ∧ (ys ≠ [] → ∀ p, H p = none → Q (.ref p) (upd H p (.tup (xs ++ ys))))
theorem Vals.nil_iff {xs : List V} {us : List Value} (r : Vals xs us) : us = [] ↔ xs = [] := by
  cases r with
  | nil => simp
  | cons _ _ => simp
theorem op_catT : OpR X (binaryOp .Add) (rCatT X.K) := by
  intro pins s σ H x y v u Q I rx ry h
  obtain ⟨a, b, xs, ys, rfl, rfl, ha, hb, hx, hz, q1, q2⟩ := h
  cases rx
  cases ry
  obtain ⟨its, r1, p1, _⟩ := I.tuple ha
  obtain ⟨its2, r2, p2, _⟩ := I.tuple hb
  refine HT.cat_tup p1 p2 (fun z => hx (r1.nil_iff.mp z)) (fun z => ⟨.ref a, H, I, rfl, q1 (r2.nil_iff.mp z)⟩) (fun z => ?_) (by rw [← r1.length, ← r2.length]; exact hz)
  refine ⟨.ref s.heap.objs.size, _, I.laid (t' := s.toks) (o := .tup (xs ++ ys)) (fun b ob q => Heap.get?_push_of_some _ q) (Nat.le_refl _) ?_, rfl, q2 (fun w => z (r2.nil_iff.mpr w)) _ (I.hok.fresh (Nat.le_refl _))⟩
  exact ⟨by rw [List.length_append]; exact hz, _, r1.append r2, IsTup.new _ _⟩
/-- tuple(t) -/
theorem call_tupleT : CallR X (.type "tuple") (fun xs H Q => ∃ a ys, xs = [.ref a] ∧ SqT X.K H a ys ∧ Q (.ref a) H) := by
  intro pins s σ H xs us Q I r h
  obtain ⟨a, ys, rfl, ha, q⟩ := h
  obtain ⟨u, rfl, ru⟩ := vals1 r
  cases ru
  obtain ⟨its, _, p1, _⟩ := I.tuple ha
  exact call_tuple_same (items := its.toArray) p1 ⟨.ref a, H, I, rfl, q⟩
end
end L2

namespace L2
open PySem PySem.Spec PyProof.Rows

/-! ### places -/
/-- the place that an index of any sign means -/
def ixN (n : Nat) (i : Int) : Option Nat := if 0 ≤ i then (if i < n then some i.toNat else none) else if -(n : Int) ≤ i then some (i + n).toNat else none
def atI {α : Type} (xs : List α) (i : Int) : Option α := (ixN xs.length i).bind fun j => xs[j]?
theorem ixN_seq {n : Nat} {i : Int} {j : Nat} (h : ixN n i = some j) : seqIndex? i n = some j ∧ j < n ∧ -(n : Int) ≤ i ∧ i < n := by
  unfold ixN at h
  by_cases h0 : 0 ≤ i
  · rw [if_pos h0] at h
    by_cases h1 : i < n
    · rw [if_pos h1] at h
      have e : i.toNat = j := Option.some.inj h
      exact ⟨by rw [seqIndex_of h0 h1, e], by omega, by omega, h1⟩
    · rw [if_neg h1] at h; cases h
  · rw [if_neg h0] at h
    by_cases h1 : -(n : Int) ≤ i
    · rw [if_pos h1] at h
      have e : (i + n).toNat = j := Option.some.inj h
      exact ⟨by rw [seqIndex_neg (by omega) h1, e], by omega, h1, by omega⟩
    · rw [if_neg h1] at h; cases h
theorem atI_get {α : Type} {xs : List α} {i : Int} {v : α} (h : atI xs i = some v) : ∃ j, seqIndex? i xs.length = some j ∧ xs[j]? = some v ∧ j < xs.length ∧ -(xs.length : Int) ≤ i ∧ i < xs.length := by
  unfold atI at h
  cases e : ixN xs.length i with
  | none => rw [e] at h; cases h
  | some j =>
    rw [e] at h
    obtain ⟨h1, h2, h3, h4⟩ := ixN_seq e
    exact ⟨j, h1, h, h2, h3, h4⟩
theorem atI_nat {α : Type} {xs : List α} {j : Nat} {v : α} (h : xs[j]? = some v) : atI xs (j : Int) = some v := by
  have hj : j < xs.length := (List.getElem?_eq_some_iff.mp h).1
  have e : ixN xs.length (j : Int) = some j := by
    unfold ixN
    rw [if_pos (by omega), if_pos (by omega)]; simp
  unfold atI; rw [e]; exact h
theorem atI_last {α : Type} (xs : List α) (v : α) : atI (xs ++ [v]) (-1) = some v := by
  have hl : (xs ++ [v]).length = xs.length + 1 := by simp
  have e : ixN (xs ++ [v]).length (-1) = some xs.length := by
    unfold ixN
    rw [hl, if_neg (by decide), if_pos (by omega)]
    congr 1
    omega
  unfold atI
  rw [e]
  show (xs ++ [v])[xs.length]? = some v
  simp

/-! ### what may be subscripted -/
/-- what stands as an index of a plain subscript -/
def PlainIx (b : Expr) : Prop := ∀ o i, subscripted b false o i = operate [o, i] (getItem o i)
/-- a subscript by values -/
def IxR (X : Cx) (r : R2) : Prop :=
  ∀ (value slice : Expr) (pins : List (Addr × Obj)) (s : Shared) (σ : St) (H : Hp) (x y : V) (v u : Value) (Q : VK), Inv X pins σ H s → RelV x v → RelV y u → r x y H Q →
    subscripted slice false v u = operate [v, u] (getItem v u) → wpAny (model X.prog X.w) X.A (subscriptTail value slice v u) (EP X pins σ Q) X.xe s
/-- a call of a builtin's method by values: the receiver, the arguments -/
def MtR (X : Cx) (id : String) (r : V → List V → Hp → VK → Prop) : Prop :=
  ∀ (pins : List (Addr × Obj)) (s : Shared) (σ : St) (H : Hp) (x : V) (xs : List V) (v : Value) (us : List Value) (Q : VK), Inv X pins σ H s → RelV x v → Vals xs us → r x xs H Q →
    wpAny (model X.prog X.w) X.A (call (.builtin id) (v :: us)) (EP X pins σ Q) X.xe s
section
variable {X : Cx} {a b : Expr} {ta tb : TE} {pos : Pos}
theorem IxR.or {r r' : R2} (h : IxR X r) (h' : IxR X r') : IxR X (fun x y H Q => r x y H Q ∨ r' x y H Q) := by
  intro value slice pins s σ H x y v u Q I rx ry q hs
  rcases q with q | q
  · exact h value slice pins s σ H x y v u Q I rx ry q hs
  · exact h' value slice pins s σ H x y v u Q I rx ry q hs
theorem MtR.or {id : String} {r r' : V → List V → Hp → VK → Prop} (h : MtR X id r) (h' : MtR X id r') : MtR X id (fun x xs H Q => r x xs H Q ∨ r' x xs H Q) := by
  intro pins s σ H x xs v us Q I rx rs q
  rcases q with q | q
  · exact h pins s σ H x xs v us Q I rx rs q
  · exact h' pins s σ H x xs v us Q I rx rs q
/-- a[b] -/
theorem pe_ix {r : R2} (hr : IxR X r) (ha : PE X a ta) (hb : PE X b tb) (hs : PlainIx b) : PE X (.Subscript a b pos) (tOp r ta tb) := by
  intro pins s σ H Q I h
  exact Subscript_ (binT ha hb I h fun v u s2 x y H2 I2 rx ry q => hr a b pins s2 σ H2 x y v u Q I2 rx ry q (hs _ _))

def rIxL (K : PySem.W.Frag) : R2 := fun x y H Q => ∃ p xs i v, x = .ref p ∧ y = .int i ∧ SqL K H p xs ∧ atI xs i = some v ∧ Q v H
def rIxT (K : PySem.W.Frag) : R2 := fun x y H Q => ∃ p xs i v, x = .ref p ∧ y = .int i ∧ SqT K H p xs ∧ atI xs i = some v ∧ Q v H
def rIxS : R2 := fun x y H Q => ∃ z i c, x = .str z ∧ y = .int i ∧ z.length ≤ sizeLine ∧ atI z.cps.toList i = some c ∧ Q (.str ⟨#[c]⟩) H
theorem ix_list : IxR X (rIxL X.K) := by
  intro value slice pins s σ H x y v u Q I rx ry h hs
  obtain ⟨p, xs, i, z, rfl, rfl, hq, he, q⟩ := h
  cases rx
  obtain ⟨t, rfl⟩ := ry
  obtain ⟨its, r, pl, hz⟩ := I.list hq
  obtain ⟨j, h1, h2, h3, h4, h5⟩ := atI_get he
  obtain ⟨w, ew, rw'⟩ := r.get h2
  have hl := r.length
  have hn := line63
  have fin : EP X pins σ Q w s := ⟨z, H, I, rw', q⟩
  by_cases h0 : 0 ≤ i
  · have hj : i.toNat = j := by
      rw [seqIndex_of h0 h5] at h1
      exact Option.some.inj h1
    exact item_listR pl.isList h0 (by omega) (by rw [hj]; simpa using ew) fin hs
  · have hj : (i + (its.toArray.size : Int)).toNat = j := by
      rw [seqIndex_neg (by omega) h4] at h1
      rw [List.size_toArray, ← hl]
      exact Option.some.inj h1
    exact subscriptTail_builtinR (x := w) pl.isList.typeIs slot_list_getitem.lookup
      (wpAny_getItem_list_neg (Q := fun r s' => r = w ∧ EP X pins σ Q r s') pl.isList (by omega) (by rw [List.size_toArray] <;> omega) (by omega) (by rw [hj]; simpa using ew) ⟨rfl, fin⟩) hs
theorem ix_tup : IxR X (rIxT X.K) := by
  intro value slice pins s σ H x y v u Q I rx ry h hs
  obtain ⟨p, xs, i, z, rfl, rfl, hq, he, q⟩ := h
  cases rx
  obtain ⟨t, rfl⟩ := ry
  obtain ⟨its, r, pl, hz⟩ := I.tuple hq
  obtain ⟨j, h1, h2, h3, h4, h5⟩ := atI_get he
  obtain ⟨w, ew, rw'⟩ := r.get h2
  have hl := r.length
  have hn := line63
  have fin : EP X pins σ Q w s := ⟨z, H, I, rw', q⟩
  exact subscriptTail_builtinR (x := w) pl.typeIs slot_tuple_getitem.lookup
    (getItem_tuple (j := j) (Q := fun r s' => r = w ∧ EP X pins σ Q r s') pl (by omega) (by omega) (by rw [List.size_toArray, ← hl]; exact h1) (by simpa using ew) ⟨rfl, fin⟩) hs
theorem ix_str : IxR X rIxS := by
  intro value slice pins s σ H x y v u Q I rx ry h hs
  obtain ⟨z, i, c, rfl, rfl, hz, he, q⟩ := h
  obtain ⟨t, rfl⟩ := rx
  obtain ⟨t', rfl⟩ := ry
  obtain ⟨j, h1, h2, h3, h4, h5⟩ := atI_get he
  have hl : z.cps.toList.length = z.length := by simp [Str.length]
  rw [hl] at h1 h4 h5
  have hn := line63
  exact tail_any (typeIs_str s z t) slot_str_getitem.lookup (getItem_str (c := c) (by
    have e1 : decide (i < -(2 ^ 63 : Int)) = false := decide_eq_false (by omega)
    have e2 : decide (i ≥ 2 ^ 63) = false := decide_eq_false (by omega)
    rw [e1, e2, Bool.or_false]) (by rw [h1]; simpa using h2) ⟨.str ⟨#[c]⟩, H, I.tok _, ⟨_, rfl⟩, q⟩) hs
/-- list, tuple or str -/
def rIx (K : PySem.W.Frag) : R2 := fun x y H Q => rIxL K x y H Q ∨ rIxT K x y H Q ∨ rIxS x y H Q
theorem ix_seq : IxR X (rIx X.K) := ix_list.or (ix_tup.or ix_str)

/-! ### xs[i] = v, any sign -/
/-- the list's object behind a store -/
theorem mapSeq_set (its : List Value) (n j : Nat) (u : Value) : Obj.mapSeq (·.setIfInBounds j u) { cls := .type "list", data := .seq its.toArray n } = { cls := .type "list", data := .seq (its.set j u).toArray n } := by
  simp [Obj.mapSeq]
theorem Inv.lst {pins : List (Addr × Obj)} {σ : St} {H : Hp} {s : Shared} {p : Addr} {xs : List V} (I : Inv X pins σ H s) (h : H p = some (.lst xs)) :
    ∃ (its : List Value) (n : Nat), Vals xs its ∧ s.heap.get? p = some { cls := .type "list", data := .seq its.toArray n } ∧ xs.length ≤ sizeLine := by
  obtain ⟨z, its, n, r, e⟩ := I.hok p _ h
  exact ⟨its, n, r, e, z⟩
/-- the list at p is written by an update of its object -/
theorem Inv.lstUpd {pins : List (Addr × Obj)} {σ : St} {H : Hp} {s : Shared} {p : Addr} {xs ys : List V} {its its' : List Value} {n n' : Nat} {f : Obj → Obj} (I : Inv X pins σ H s) (h : H p = some (.lst xs))
    (ho : s.heap.get? p = some { cls := .type "list", data := .seq its.toArray n }) (hf : f { cls := .type "list", data := .seq its.toArray n } = { cls := .type "list", data := .seq its'.toArray n' }) (r : Vals ys its') (hz : ys.length ≤ sizeLine) (t : Nat) :
    Inv X pins σ (upd H p (.lst ys)) { s with heap := s.heap.update p f, toks := t } := by
  have e : (s.heap.update p f).get? p = some { cls := .type "list", data := .seq its'.toArray n' } := by
    rw [Heap.get?_update_self f ho (by rw [hf] <;> rfl), hf]
  refine I.write (x := p) (e := p) (by rw [h]; trivial) (.inl rfl) (fun b u hb q => (Heap.get?_update_other _ _ (Ne.symm hb)).trans q) ⟨_, e⟩ ?_
  exact ⟨hz, its', n', r, e⟩
def rSetL : V → V → V → Hp → (Hp → Prop) → Prop := fun o i v H Q => ∃ p xs k j, o = .ref p ∧ i = .int k ∧ H p = some (.lst xs) ∧ ixN xs.length k = some j ∧ Q (upd H p (.lst (xs.set j v)))
theorem set_list : PSet X rSetL := by
  intro pins s σ H o i v ov iv u Q I ro ri rv h
  obtain ⟨p, xs, k, j, rfl, rfl, hp, hj, q⟩ := h
  cases ro
  obtain ⟨t, rfl⟩ := ri
  obtain ⟨its, n, r, ho, hz⟩ := I.lst hp
  obtain ⟨h1, h2, h3, h4⟩ := ixN_seq hj
  have hl := r.length
  have hn := line63
  have I' : Inv X pins σ (upd H p (.lst (xs.set j v))) { s with heap := s.heap.update p (Obj.mapSeq (·.setIfInBounds j u)) } :=
    I.lstUpd hp ho (mapSeq_set its n j u) (r.set rv j) (by rw [List.length_set]; exact hz) s.toks
  by_cases h0 : 0 ≤ k
  · have hk : k.toNat = j := by
      rw [seqIndex_of h0 h4] at h1
      exact Option.some.inj h1
    exact PySem.W.ki_setAt ho h0 (by omega) (by rw [List.size_toArray, ← hl]; exact h4) (by rw [hk]; exact ⟨_, I', q⟩)
  · have hk : (k + (its.toArray.size : Int)).toNat = j := by
      rw [seqIndex_neg (by omega) h3] at h1
      rw [List.size_toArray, ← hl]
      exact Option.some.inj h1
    exact PySem.W.ki_setBack ho (by omega) (by rw [List.size_toArray, ← hl]; exact h3) (by omega) (by rw [hk]; exact ⟨_, I', q⟩)

/-! ### slices -/
theorem slice_bounds (lo hi : Option Int) (n : Nat) : (sliceBounds lo hi none n).1 = ((HT.sIx n 0 lo : Nat) : Int) ∧ (sliceBounds lo hi none n).2.1 = ((HT.sIx n n hi : Nat) : Int) ∧ (sliceBounds lo hi none n).2.2 = 1 := by
  refine ⟨?_, ?_, rfl⟩
  · cases lo with
    | none => simp [sliceBounds, HT.sIx]
    | some i =>
      simp only [sliceBounds, HT.sIx, Option.getD_none, show (1 : Int) > 0 by decide, if_true]
      by_cases h : i < 0
      · simp only [h, if_true] <;> omega
      · simp only [h, if_false] <;> omega
  · cases hi with
    | none => simp [sliceBounds, HT.sIx]
    | some i =>
      simp only [sliceBounds, HT.sIx, Option.getD_none, show (1 : Int) > 0 by decide, if_true]
      by_cases h : i < 0
      · simp only [h, if_true] <;> omega
      · simp only [h, if_false] <;> omega
theorem slicePick_cut (its : List Value) (lo hi : Option Int) : slicePick its.toArray lo hi none = ((its.drop (HT.sIx its.length 0 lo)).take (HT.sIx its.length its.length hi - HT.sIx its.length 0 lo)).toArray := by
  obtain ⟨h1, h2, h3⟩ := slice_bounds lo hi its.toArray.size
  unfold slicePick
  rw [h1, h2, h3]
  simp only [sliceRange_one, pick_run, List.size_toArray] <;> rfl
/-- xs[lo:hi] of a list: a new list -/
def rSlL (K : PySem.W.Frag) : V → Option Int → Option Int → Hp → VK → Prop := fun x lo hi H Q => ∃ a xs, x = .ref a ∧ SqL K H a xs ∧ ∀ p, H p = none → Q (.ref p) (upd H p (.lst (cutV xs lo hi)))
theorem sl_list : SlR X (rSlL X.K) := by
  intro pins s σ H x v vl vu lo hi sl Q I rx hs pl pu h
  obtain ⟨a, xs, rfl, hx, q⟩ := h
  cases rx
  obtain ⟨its, r, ht, hz⟩ := I.list hx
  have hlen := r.length
  refine ⟨"list", _, slot_list_getitem.lookup, ht.isList.typeIs, ?_⟩
  refine wpAny_getItem_list_slice ht.isList hs pl pu .none (by simp) ?_ (by rw [List.size_toArray] <;> omega)
  rw [slicePick_cut, ← hlen]
  refine ⟨.ref s.heap.objs.size, _, I.laid (t' := s.toks) (o := .lst (cutV xs lo hi)) (fun b ob q => Heap.get?_push_of_some _ q) (Nat.le_refl _) ?_, rfl, q _ (I.hok.fresh (Nat.le_refl _))⟩
  exact ⟨Nat.le_trans (cutV_length xs lo hi) hz, _, 0, (r.drop (HT.sIx xs.length 0 lo)).take (HT.sIx xs.length xs.length hi - HT.sIx xs.length 0 lo), Heap.get?_push_size _ rfl⟩

/-! ### in, not in: flat items -/
def flatV : V → Bool
  | .non => true
  | .bl _ => true
  | .int _ => true
  | .str _ => true
  | _ => false
/-- == of flat values -/
def eqV : V → V → Bool
  | .non, .non => true
  | .bl a, .bl b => a == b
  | .bl a, .int b => (if a then 1 else 0) == b
  | .int a, .bl b => a == (if b then 1 else 0)
  | .int a, .int b => a == b
  | .str a, .str b => a == b
  | _, _ => false
theorem eqAt_V {A : Around} {s : Shared} {y x : V} {u v : Value} (ry : RelV y u) (rx : RelV x v) (fy : flatV y = true) (fx : flatV x = true) : SeqAt.EqAt A s u v (eqV y x) := by
  cases y with
  | non =>
    cases ry
    cases x with
    | non => cases rx; exact SeqAt.EqAt.same _
    | bl b => cases rx; exact SeqAt.EqAt.none_bool b
    | int b => obtain ⟨t, rfl⟩ := rx; exact SeqAt.EqAt.none_int b t
    | str b => obtain ⟨t, rfl⟩ := rx; exact SeqAt.EqAt.none_str b t
    | _ => exact absurd (show false = true from fx) Bool.false_ne_true
  | bl a =>
    cases ry
    cases x with
    | non => cases rx; exact SeqAt.EqAt.bool_none a
    | bl b => cases rx; exact SeqAt.EqAt.bool_bool a b
    | int b => obtain ⟨t, rfl⟩ := rx; exact SeqAt.EqAt.bool_int a b t
    | str b => obtain ⟨t, rfl⟩ := rx; exact SeqAt.EqAt.bool_str a b t
    | _ => exact absurd (show false = true from fx) Bool.false_ne_true
  | int a =>
    obtain ⟨t', rfl⟩ := ry
    cases x with
    | non => cases rx; exact SeqAt.EqAt.int_none a t'
    | bl b => cases rx; exact SeqAt.EqAt.int_bool a t' b
    | int b => obtain ⟨t, rfl⟩ := rx; exact SeqAt.EqAt.int_int a t' b t
    | str b => obtain ⟨t, rfl⟩ := rx; exact SeqAt.EqAt.int_str a t' b t
    | _ => exact absurd (show false = true from fx) Bool.false_ne_true
  | str a =>
    obtain ⟨t', rfl⟩ := ry
    cases x with
    | non => cases rx; exact SeqAt.EqAt.str_none a t'
    | bl b => cases rx; exact SeqAt.EqAt.str_bool a t' b
    | int b => obtain ⟨t, rfl⟩ := rx; exact SeqAt.EqAt.str_int a t' b t
    | str b => obtain ⟨t, rfl⟩ := rx; exact SeqAt.EqAt.str_str a t' b t
    | _ => exact absurd (show false = true from fx) Bool.false_ne_true
  | _ => exact absurd (show false = true from fy) Bool.false_ne_true
/-- the items' answers, read off the values (a value's own answer does not lean on its token) -/
def eqU (x : V) (u : Value) : Bool := match u with
  | .none => eqV .non x
  | .bool b => eqV (.bl b) x
  | .int i _ => eqV (.int i) x
  | .str z _ => eqV (.str z) x
  | _ => false
theorem eqU_of {x y : V} {u : Value} (r : RelV y u) (f : flatV y = true) : eqU x u = eqV y x := by
  cases y with
  | non => cases r; rfl
  | bl b => cases r; rfl
  | int i => obtain ⟨t, rfl⟩ := r; rfl
  | str z => obtain ⟨t, rfl⟩ := r; rfl
  | _ => exact absurd (show false = true from f) Bool.false_ne_true
theorem any_eqU {x : V} : ∀ {xs : List V} {us : List Value}, Vals xs us → xs.all flatV = true → us.any (eqU x) = xs.any fun y => eqV y x
  | _, _, .nil, _ => rfl
  | y :: xs, u :: us, .cons r t, f => by
    rw [List.all_cons, Bool.and_eq_true] at f
    rw [List.any_cons, List.any_cons, eqU_of r f.1, any_eqU t f.2]
theorem mem_eqAt {A : Around} {s : Shared} {x : V} {v : Value} (rx : RelV x v) (fx : flatV x = true) : ∀ {xs : List V} {us : List Value}, Vals xs us → xs.all flatV = true → ∀ u ∈ us, SeqAt.EqAt A s u v (eqU x u)
  | _, _, .nil, _ => fun u hu => by cases hu
  | y :: xs, u :: us, .cons r t, f => fun u' hu => by
    rw [List.all_cons, Bool.and_eq_true] at f
    rcases List.mem_cons.mp hu with rfl | hu
    · rw [eqU_of r f.1]; exact eqAt_V r rx f.1 fx
    · exact mem_eqAt rx fx t f.2 u' hu
def inV (x : V) (xs : List V) : Bool := xs.any fun y => eqV y x
/-- x in a list or tuple of flat items -/
def rIn (K : PySem.W.Frag) (neg : Bool) : R2 := fun x y H Q => ∃ p xs, y = .ref p ∧ (SqL K H p xs ∨ SqT K H p xs) ∧ flatV x = true ∧ xs.all flatV = true ∧ Q (.bl (if neg then !inV x xs else inV x xs)) H
theorem op_in_seq : OpR X (compareOp .In) (rIn X.K false) := by
  intro pins s σ H x y v u Q I rx ry h
  obtain ⟨p, xs, rfl, hq, fx, fs, q⟩ := h
  cases ry
  rcases hq with hq | hq
  · obtain ⟨its, r, pl, hz⟩ := I.list hq
    refine SeqAt.in_listAt (eqU x) pl.isList (fun w hw => mem_eqAt rx fx r fs w (by simpa using hw)) ⟨.bl _, H, I, rfl, ?_⟩
    rw [show its.toArray.any (eqU x) = its.any (eqU x) by simp, any_eqU r fs]
    exact q
  · obtain ⟨its, r, pl, hz⟩ := I.tuple hq
    refine SeqAt.in_tupleAt (eqU x) pl (fun w hw => mem_eqAt rx fx r fs w (by simpa using hw)) ⟨.bl _, H, I, rfl, ?_⟩
    rw [show its.toArray.any (eqU x) = its.any (eqU x) by simp, any_eqU r fs]
    exact q
theorem op_notIn_seq : OpR X (compareOp .NotIn) (rIn X.K true) := by
  intro pins s σ H x y v u Q I rx ry h
  obtain ⟨p, xs, rfl, hq, fx, fs, q⟩ := h
  cases ry
  rcases hq with hq | hq
  · obtain ⟨its, r, pl, hz⟩ := I.list hq
    refine SeqAt.notIn_listAt (eqU x) pl.isList (fun w hw => mem_eqAt rx fx r fs w (by simpa using hw)) ⟨.bl _, H, I, rfl, ?_⟩
    rw [show its.toArray.any (eqU x) = its.any (eqU x) by simp, any_eqU r fs]
    exact q
  · obtain ⟨its, r, pl, hz⟩ := I.tuple hq
    refine SeqAt.notIn_tupleAt (eqU x) pl (fun w hw => mem_eqAt rx fx r fs w (by simpa using hw)) ⟨.bl _, H, I, rfl, ?_⟩
    rw [show its.toArray.any (eqU x) = its.any (eqU x) by simp, any_eqU r fs]
    exact q
theorem op_notIn_str : OpR X (compareOp .NotIn) (fun x y H Q => ∃ i j, x = .str i ∧ y = .str j ∧ Q (.bl (!(!(Builtin.Str.occurrences j i 0 j.length 1).isEmpty))) H) := by
  intro pins s σ H x y v u Q I rx ry h
  obtain ⟨i, j, rfl, rfl, q⟩ := h
  obtain ⟨t, rfl⟩ := rx
  obtain ⟨t', rfl⟩ := ry
  exact notIn_str ⟨.bl _, H, I, rfl, q⟩

/-! ### len, list(x), tuple(x) of any list or tuple that is read -/
theorem call_len_seq : CallR X (.builtin "len") (fun xs H Q => ∃ p ys, xs = [.ref p] ∧ (SqL X.K H p ys ∨ SqT X.K H p ys) ∧ Q (.int ys.length) H) := by
  intro pins s σ H xs us Q I r h
  obtain ⟨p, ys, rfl, hq, q⟩ := h
  obtain ⟨u, rfl, rx⟩ := vals1 r
  cases rx
  have hn := line63
  rcases hq with hq | hq
  · obtain ⟨its, r', pl, hz⟩ := I.list hq
    have hlen := r'.length
    exact Calls.call_len_list pl.isList (by simp only [List.size_toArray] <;> omega) ⟨.int ys.length, H, I.tok _, ⟨s.toks + 1, by rw [List.size_toArray, hlen]⟩, q⟩
  · obtain ⟨its, r', pl, hz⟩ := I.tuple hq
    have hlen := r'.length
    exact len_tuple pl (by simp only [List.size_toArray] <;> omega) ⟨.int ys.length, H, I.tok _, ⟨s.toks + 1, by rw [List.size_toArray, hlen]⟩, q⟩
theorem call_len_str : CallR X (.builtin "len") (fun xs H Q => ∃ z, xs = [.str z] ∧ z.length ≤ sizeLine ∧ Q (.int z.length) H) := by
  intro pins s σ H xs us Q I r h
  obtain ⟨z, rfl, hz, q⟩ := h
  obtain ⟨u, rfl, t, rfl⟩ := vals1 r
  have hn := line63
  exact len_str (by omega) ⟨.int z.length, H, I.tok _, ⟨_, rfl⟩, q⟩
theorem CallR.or {f : Value} {r r' : List V → Hp → VK → Prop} (h : CallR X f r) (h' : CallR X f r') : CallR X f (fun xs H Q => r xs H Q ∨ r' xs H Q) := by
  intro pins s σ H xs us Q I rs q
  rcases q with q | q
  · exact h pins s σ H xs us Q I rs q
  · exact h' pins s σ H xs us Q I rs q
theorem call_list_of : CallR X (.type "list") (fun xs H Q => ∃ p ys, xs = [.ref p] ∧ (SqL X.K H p ys ∨ SqT X.K H p ys) ∧ ∀ l, H l = none → Q (.ref l) (upd H l (.lst ys))) := by
  intro pins s σ H xs us Q I r h
  obtain ⟨p, ys, rfl, hq, q⟩ := h
  obtain ⟨u, rfl, rx⟩ := vals1 r
  cases rx
  have fin : ∀ (its : List Value), Vals ys its → ys.length ≤ sizeLine → ∀ (h' : Heap) (c' : Nat), (∀ b o', s.heap.get? b = some o' → h'.get? b = some o') →
      h'.get? s.heap.objs.size = some { cls := .type "list", dict := none, data := .seq its.toArray c', slots := #[] } → EP X pins σ Q (.ref s.heap.objs.size) { s with heap := h' } := fun its r' hz h' c' kp e =>
    ⟨.ref s.heap.objs.size, _, I.laid (t' := s.toks) kp (Nat.le_refl _) (show ObjOk X.prog X.w _ h' _ (.lst ys) from ⟨hz, its, c', r', e⟩), rfl, q _ (I.hok.fresh (Nat.le_refl _))⟩
  rcases hq with hq | hq
  · obtain ⟨its, r', pl, hz⟩ := I.list hq
    have hlen := r'.length
    obtain ⟨o, ho, hc, n, hd⟩ := pl.isList
    exact call_list_seq p (.inl rfl) ho hc hd (fun h' c' kp e => fin its r' hz h' c' kp e) (by simp only [List.size_toArray] <;> omega)
  · obtain ⟨its, r', pl, hz⟩ := I.tuple hq
    have hlen := r'.length
    obtain ⟨o, ho, hc, n, hd⟩ := pl
    exact call_list_seq p (.inr rfl) ho hc hd (fun h' c' kp e => fin its r' hz h' c' kp e) (by simp only [List.size_toArray] <;> omega)
theorem call_tuple_of : CallR X (.type "tuple") (fun xs H Q => ∃ p ys, xs = [.ref p] ∧ ((SqL X.K H p ys ∧ ∀ l, H l = none → Q (.ref l) (upd H l (.tup ys))) ∨ (SqT X.K H p ys ∧ Q (.ref p) H))) := by
  intro pins s σ H xs us Q I r h
  obtain ⟨p, ys, rfl, h⟩ := h
  obtain ⟨u, rfl, rx⟩ := vals1 r
  cases rx
  rcases h with ⟨hq, q⟩ | ⟨hq, q⟩
  · obtain ⟨its, r', pl, hz⟩ := I.list hq
    have hlen := r'.length
    refine call_tuple_list pl.isList (fun h' kp => ?_) (by simp only [List.size_toArray] <;> omega)
    have I1 : Inv X pins σ H { s with heap := h' } := I.kept (t' := s.toks) kp
    have I2 : Inv X pins σ (upd H h'.objs.size (.tup ys)) { s with heap := h'.push { cls := .type "tuple", data := .seq its.toArray } } :=
      I1.laid (t' := s.toks) (fun b o e => Heap.get?_push_of_some _ e) (Nat.le_refl _) (show ObjOk X.prog X.w _ _ _ (.tup ys) from ⟨hz, its, r', IsTup.new _ _⟩)
    exact ⟨.ref h'.objs.size, _, I2, rfl, q _ (I1.hok.fresh (Nat.le_refl _))⟩
  · obtain ⟨its, r', pl, hz⟩ := I.tuple hq
    exact call_tuple_same pl ⟨.ref p, H, I, rfl, q⟩

/-! ### the call of a builtin's method: o.m(..) -/
/-- the value is of that builtin type -/
def tyV (K : PySem.W.Frag) (T : String) (x : V) (H : Hp) : Prop := match x with
  | .str _ => T = "str"
  | .int _ => T = "int"
  | .ref p => (T = "list" ∧ ∃ xs, SqL K H p xs) ∨ (T = "tuple" ∧ ∃ o, K.lookup p = some o ∧ o.cls = .type "tuple" ∧ o.dict = none) ∨
      (T = "dict" ∧ ((∃ kvs, H p = some (.dK kvs)) ∨ ∃ kvs, H p = some (.dT kvs))) ∨ (T = "set" ∧ ∃ S n, H p = some (.set S n))
  | _ => False
theorem tyV_is {pins : List (Addr × Obj)} {σ : St} {H : Hp} {s : Shared} {T : String} {x : V} {v : Value} (I : Inv X pins σ H s) (r : RelV x v) (ty : tyV X.K T x H) :
    s.TypeIs v T ∧ ∀ a, v = .ref a → ∃ ob, s.heap.get? a = some ob ∧ ob.dict = none := by
  cases x with
  | str z =>
    obtain ⟨t, rfl⟩ := r
    cases (show T = "str" from ty)
    exact ⟨typeIs_str s z t, fun _ e => nomatch e⟩
  | int i =>
    obtain ⟨t, rfl⟩ := r
    cases (show T = "int" from ty)
    exact ⟨typeIs_int s i t, fun _ e => nomatch e⟩
  | ref p =>
    cases r
    rcases ty with ⟨rfl, xs, hq⟩ | ⟨rfl, o, hk, hc, hd⟩ | ⟨rfl, hk⟩ | ⟨rfl, S, n, hk⟩
    · obtain ⟨its, _, pl, _⟩ := I.list hq
      refine ⟨pl.isList.typeIs, fun a e => ?_⟩
      cases e
      obtain ⟨o, n, e, c, hd, _⟩ := pl
      exact ⟨o, e, hd⟩
    · refine ⟨⟨o, I.kIn p o hk, hc⟩, fun a e => ?_⟩
      cases e
      exact ⟨o, I.kIn _ o hk, hd⟩
    · have z : ∃ o, s.heap.get? p = some o ∧ o.ExactDict := by
        rcases hk with ⟨kvs, hk⟩ | ⟨kvs, hk⟩
        · obtain ⟨_, _, _, _, o, _, _, e, ex, _⟩ := I.hok p _ hk
          exact ⟨o, e, ex⟩
        · obtain ⟨_, _, _, _, o, _, _, e, ex, _⟩ := I.hok p _ hk
          exact ⟨o, e, ex⟩
      obtain ⟨o, e, ex⟩ := z
      refine ⟨⟨o, e, ex.1⟩, fun a e2 => ?_⟩
      cases e2
      exact ⟨o, e, ex.2.1⟩
    · obtain ⟨o, _, _, _, e, ex, _⟩ := I.hok p _ hk
      refine ⟨⟨o, e, ex.1⟩, fun a e2 => ?_⟩
      cases e2
      exact ⟨o, e, ex.2.1⟩
  | _ => exact False.elim ty
def tBM0 (K : PySem.W.Frag) (T : String) (r : V → List V → Hp → VK → Prop) (to : TE) : TE := fun σ H Q => to σ H fun x H1 => tyV K T x H1 ∧ r x [] H1 Q
def tBM (K : PySem.W.Frag) (T : String) (r : V → List V → Hp → VK → Prop) (to : TE) (t : TA) : TE := fun σ H Q => to σ H fun x H1 => tyV K T x H1 ∧ t σ H1 fun xs H2 => r x xs H2 Q
variable {o e : Expr} {es : List Expr} {to : TE} {t : TA} {name : Str} {apos cpos : Pos} {T id : String} {r : V → List V → Hp → VK → Prop}
theorem pe_bm0 (pa : PlainAttrs T) (slot : Slot T name id) (hty : typeOf (.builtin id) = pure (.type "method_descriptor")) (hm : MtR X id r) (ho : PE X o to)
    (hbase : attributeBase o name X.env (eval o X.env) = eval o X.env := by rfl) (hline : (apos.endLine == cpos.line) = true := by rfl) : PE X (.Call (.Attribute o name apos) [] [] cpos) (tBM0 X.K T r to) := by
  intro pins s σ H Q I h
  refine wpAny_Call_method0_late hbase hline (thn (ho pins s σ H _ I h) fun v s1 ⟨x, H1, I1, r1, ty, q1⟩ => ?_)
  obtain ⟨h1, h2⟩ := tyV_is I1 r1 ty
  exact ⟨T, id, pa, slot, hty, h1, h2, Calls.callWith_builtin rfl (PySem.evalArgs_none (hm pins s1 σ H1 x [] v [] Q I1 r1 .nil q1))⟩
theorem pe_bm (pa : PlainAttrs T) (slot : Slot T name id) (hty : typeOf (.builtin id) = pure (.type "method_descriptor")) (hm : MtR X id r) (ho : PE X o to) (ha : PA X (e :: es) t)
    (hbase : attributeBase o name X.env (eval o X.env) = eval o X.env := by rfl)
    (hfew : ((backTo cpos (starEach (e :: es) X.env)).all (fun x => !x.1) && (backToKw cpos (keywordEach [] X.env)).all (fun x => x.1.isSome)
      && decide ((e :: es).length + ([] : List Keyword).length + (if ([] : List Keyword).isEmpty then 0 else 1) < 30)) = true := by rfl)
    (hline : (apos.endLine == cpos.line) = true := by rfl) (hs : starEach (e :: es) X.env = (false, eval e X.env) :: starEach es X.env := by rfl) (hplain : (backTo cpos (starEach es X.env)).any (·.1) = false := by rfl) :
    PE X (.Call (.Attribute o name apos) (e :: es) [] cpos) (tBM X.K T r to t) := by
  intro pins s σ H Q I h
  refine wpAny_Call_method_late hbase hfew hline rfl (thn (ho pins s σ H _ I h) fun v s1 ⟨x, H1, I1, r1, ty, q1⟩ => ?_)
  obtain ⟨h1, h2⟩ := tyV_is I1 r1 ty
  refine ⟨T, id, pa, slot, hty, h1, h2, ?_⟩
  have hA := ha cpos pins s1 σ H1 _ I1 q1
  rw [hs] at hA ⊢
  refine Calls.callWith_builtin (by show (false || (backTo cpos (starEach es X.env)).any (·.1)) = false; rw [hplain] <;> rfl) (Calls.evalArgs_plain ?_)
  exact thn hA fun us s2 ⟨vs, H2, I2, r2, q2⟩ => hm pins s2 σ H2 x vs v us Q I2 r1 r2 q2
/- xs.append(e), list.index on a module's tuple .. are MtR facts of 06m -/
end
end L2

namespace L2
open PySem PySem.Spec PyProof.Rows

def MtM (X : Cx) (id : String) (r : V → List V → Hp → VK → Prop) : Prop :=
  ∀ (pins : List (Addr × Obj)) (s : Shared) (σ : St) (H : Hp) (x : V) (xs : List V) (v : Value) (us : List Value) (Q : VK), Inv X pins σ H s → RelV x v → Vals xs us → r x xs H Q →
    wpAny (model X.prog X.w) X.A (call (.builtin id) (v :: us)) (EP X pins σ Q) X.xe s

/-! ### lists of values -/
theorem Vals.one : ∀ {x : V} {us : List Value}, Vals [x] us → ∃ u, us = [u] ∧ RelV x u
  | _, _, .cons r .nil => ⟨_, rfl, r⟩
theorem Vals.two : ∀ {x y : V} {us : List Value}, Vals [x, y] us → ∃ u v, us = [u, v] ∧ RelV x u ∧ RelV y v
  | _, _, _, .cons r (.cons q .nil) => ⟨_, _, rfl, r, q⟩
theorem Vals.zero : ∀ {us : List Value}, Vals [] us → us = []
  | _, .nil => rfl
theorem Vals.dropLast {xs : List V} {us : List Value} (h : Vals xs us) : Vals xs.dropLast us.dropLast := by
  induction h with
  | nil => exact .nil
  | cons r t ih =>
    cases t with
    | nil => exact .nil
    | cons q t' => exact .cons r ih
theorem Vals.eraseIdx : ∀ {xs : List V} {us : List Value} (i : Nat), Vals xs us → Vals (xs.eraseIdx i) (us.eraseIdx i)
  | _, _, _, .nil => .nil
  | _, _, 0, .cons _ t => t
  | _, _, i + 1, .cons r t => .cons r (Vals.eraseIdx i t)
theorem Vals.reverse {xs : List V} {us : List Value} (h : Vals xs us) : Vals xs.reverse us.reverse := by
  induction h with
  | nil => exact .nil
  | cons r t ih => rw [List.reverse_cons, List.reverse_cons]; exact Vals.append ih (.cons r .nil)
theorem Vals.rep {xs : List V} {us : List Value} (h : Vals xs us) : ∀ k : Nat, Vals (List.replicate k xs).flatten (List.replicate k us).flatten
  | 0 => .nil
  | k + 1 => by
    rw [List.replicate_succ, List.replicate_succ, List.flatten_cons, List.flatten_cons]
    exact Vals.append h (Vals.rep h k)
theorem erase_last {α : Type} (l : List α) : l.eraseIdx (l.length - 1) = l.dropLast := by
  induction l with
  | nil => rfl
  | cons a r ih =>
    cases r with
    | nil => rfl
    | cons b r =>
      have e : (a :: b :: r).length - 1 = ((b :: r).length - 1) + 1 := by
        have h1 : (a :: b :: r).length = r.length + 2 := rfl
        have h2 : (b :: r).length = r.length + 1 := rfl
        omega
      rw [e, List.eraseIdx_cons_succ, ih]
      all_goals rfl
theorem len_erase {α : Type} : ∀ (l : List α) (i : Nat), (l.eraseIdx i).length ≤ l.length
  | [], _ => Nat.le_refl _
  | _ :: _, 0 => Nat.le_succ _
  | _ :: r, i + 1 => Nat.succ_le_succ (len_erase r i)
theorem foldl_rep (its : List Value) : ∀ (k : Nat) (acc : List Value),
    List.foldl (fun x1 x2 => x1 ++ x2) acc.toArray (List.replicate k its.toArray) = (acc ++ (List.replicate k its).flatten).toArray
  | 0, acc => by simp
  | k + 1, acc => by
    have e : acc.toArray ++ its.toArray = (acc ++ its).toArray := by simp
    have e2 : (acc ++ its) ++ (List.replicate k its).flatten = acc ++ (List.replicate (k + 1) its).flatten := by
      rw [List.replicate_succ, List.flatten_cons, List.append_assoc]
    rw [← e2, ← foldl_rep its k (acc ++ its), ← e, List.replicate_succ, List.foldl_cons]

section
variable {X : Cx} {pins : List (Addr × Obj)} {σ : St} {H : Hp} {s : Shared} {l b : Addr} {xs ys zs : List V}

/-! ### the two steps: a tracked list is rewritten, a new list is laid -/
theorem Inv.lset {its its' : List Value} {n : Nat} {f : Array Value → Array Value} {t' : Nat} (I : Inv X pins σ H s) (hH : H l = some (.lst xs))
    (e : s.heap.get? l = some { cls := .type "list", data := .seq its.toArray n }) (hf : f its.toArray = its'.toArray) (hv : Vals ys its') (hz : ys.length ≤ sizeLine) :
    Inv X pins σ (upd H l (.lst ys)) { s with heap := s.heap.update l (Obj.mapSeq f), toks := t' } := by
  have q := PySem.IsL.update e f
  rw [hf] at q
  refine I.write (x := l) (e := l) (by rw [hH]; exact trivial) (.inl rfl) (fun b' u hb hu => (Heap.get?_update_other s.heap (Obj.mapSeq f) (Ne.symm hb)).trans hu) ⟨_, q⟩ ?_
  exact ⟨hz, its', _, hv, q⟩
theorem Inv.lnew {its : List Value} {t' : Nat} (I : Inv X pins σ H s) (hv : Vals ys its) (hz : ys.length ≤ sizeLine) :
    Inv X pins σ (upd H s.heap.objs.size (.lst ys)) { s with heap := s.heap.push { cls := .type "list", data := .seq its.toArray }, toks := t' } :=
  I.laid (fun _ _ q => Heap.get?_push_of_some _ q) (Nat.le_refl _) ⟨hz, its, 0, hv, Heap.get?_push_size _ rfl⟩
theorem Inv.fresh (I : Inv X pins σ H s) : H s.heap.objs.size = none := I.hok.fresh (Nat.le_refl _)
theorem Inv.lstM (I : Inv X pins σ H s) (hH : H l = some (.lst xs)) : xs.length ≤ sizeLine ∧ ∃ (its : List Value) (n : Nat), Vals xs its ∧ xs.length = its.length ∧ s.heap.get? l = some { cls := .type "list", data := .seq its.toArray n } := by
  obtain ⟨z, its, n, r, e⟩ := I.hok l _ hH
  exact ⟨z, its, n, r, r.length, e⟩

theorem notLongL {n : Nat} (h : n ≤ sizeLine) : Builtin.List.listTooLong n = false := by
  unfold Builtin.List.listTooLong
  exact decide_eq_false (by omega)
end

section
variable {X : Cx}

/-! ### methods -/
def rAppend : V → List V → Hp → VK → Prop := fun x vs H Q => ∃ l xs y, x = .ref l ∧ vs = [y] ∧ H l = some (.lst xs) ∧ xs.length < sizeLine ∧ Q .non (upd H l (.lst (xs ++ [y])))
theorem mt_append : MtM X "list.append" rAppend := by
  intro pins s σ H x vs v us Q I rx rv h
  obtain ⟨l, xs, y, rfl, rfl, hH, hz, q⟩ := h
  cases rx
  obtain ⟨u, rfl, ru⟩ := rv.one
  obtain ⟨z, its, n, r, hl, e⟩ := I.lstM hH
  refine call_meets F.slot_list_append ⟨_, e, rfl⟩ F.entry_list_append (F.args_list_append_2 _ _) (PySem.list_append l its.toArray n u (by rw [List.size_toArray]; omega)) ⟨e, ?_⟩
  refine ⟨.non, _, I.lset (its' := its ++ [u]) hH e (by simp) (r.append (.cons ru .nil)) ?_, rfl, q⟩
  rw [List.length_append, List.length_singleton]
  omega

def rExtend : V → List V → Hp → VK → Prop := fun x vs H Q => ∃ l b xs zs, x = .ref l ∧ vs = [.ref b] ∧ H l = some (.lst xs) ∧ H b = some (.lst zs) ∧ xs.length + zs.length ≤ sizeLine ∧ Q .non (upd H l (.lst (xs ++ zs)))
theorem mt_extend : MtM X "list.extend" rExtend := by
  intro pins s σ H x vs v us Q I rx rv h
  obtain ⟨l, b, xs, zs, rfl, rfl, hH, hB, hz, q⟩ := h
  cases rx
  obtain ⟨u, rfl, ru⟩ := rv.one
  cases ru
  obtain ⟨z, its, n, r, hl, e⟩ := I.lstM hH
  obtain ⟨z2, its2, n2, r2, hl2, e2⟩ := I.lstM hB
  have hsz : its.toArray.size + its2.toArray.size ≤ sizeLine := by rw [List.size_toArray, List.size_toArray]; omega
  have hlong : ¬ (!its.toArray.isEmpty && Builtin.List.listTooLong (its.toArray.size + its2.toArray.size)) = true := by
    rw [notLongL hsz, Bool.and_false]
    exact Bool.false_ne_true
  refine call_meets F.slot_list_extend ⟨_, e, rfl⟩ F.entry_list_extend (F.args_list_extend_2 _ _)
    (AutoSeq1.list_extend_list_list_0 l its.toArray n b its2.toArray n2 hlong (by rw [List.size_toArray]; omega) (by omega)) ⟨e, e2, ?_⟩
  refine ⟨.non, _, I.lset (its' := its ++ its2) hH e (by simp) (r.append r2) ?_, rfl, q⟩
  rw [List.length_append]
  omega

def rPop : V → List V → Hp → VK → Prop := fun x vs H Q => ∃ l xs y, x = .ref l ∧ vs = [] ∧ H l = some (.lst xs) ∧ xs[xs.length - 1]? = some y ∧ Q y (upd H l (.lst xs.dropLast))
theorem mt_pop : MtM X "list.pop" rPop := by
  intro pins s σ H x vs v us Q I rx rv h
  obtain ⟨l, xs, y, rfl, rfl, hH, hy, q⟩ := h
  cases rx
  have hus := rv.zero
  subst hus
  obtain ⟨z, its, n, r, hl, e⟩ := I.lstM hH
  obtain ⟨u, hu, ru⟩ := r.get hy
  have hy' : its.toArray[its.toArray.size - 1]? = some u := by
    show its.toArray[its.length - 1]? = some u
    rw [← Array.getElem?_toList, ← hl]
    exact hu
  refine call_meets F.slot_list_pop ⟨_, e, rfl⟩ F.entry_list_pop (F.args_list_pop_1 _) (MeetsSeq.list_pop_last l its.toArray n u hy' (by rw [List.size_toArray]; omega)) ⟨e, ?_⟩
  refine ⟨y, _, I.lset (its' := its.dropLast) hH e ?_ r.dropLast ?_, ru, q⟩
  · show its.toArray.eraseIdxIfInBounds (its.toArray.size - 1) = its.dropLast.toArray
    rw [List.size_toArray, List.eraseIdxIfInBounds_toArray, erase_last]
  · rw [List.length_dropLast]
    omega

def rPopAt : V → List V → Hp → VK → Prop := fun x vs H Q => ∃ l xs i k y, x = .ref l ∧ vs = [.int i] ∧ H l = some (.lst xs) ∧ -(2 ^ 63) ≤ i ∧ i < 2 ^ 63 ∧ seqIndex? i xs.length = some k ∧ xs[k]? = some y ∧ Q y (upd H l (.lst (xs.eraseIdx k)))
theorem mt_popAt : MtM X "list.pop" rPopAt := by
  intro pins s σ H x vs v us Q I rx rv h
  obtain ⟨l, xs, i, k, y, rfl, rfl, hH, h1, h2, hk, hy, q⟩ := h
  cases rx
  obtain ⟨u, rfl, ru⟩ := rv.one
  obtain ⟨t, rfl⟩ := ru
  obtain ⟨z, its, n, r, hl, e⟩ := I.lstM hH
  obtain ⟨w, hw, rw'⟩ := r.get hy
  refine call_meets F.slot_list_pop ⟨_, e, rfl⟩ F.entry_list_pop (F.args_list_pop_2 _ _)
    (MeetsSeq.list_pop_at l its.toArray n i t k w (fitsIndex_both h1 h2) (by rw [List.size_toArray, ← hl]; exact hk) (by rw [← Array.getElem?_toList]; exact hw) (by rw [List.size_toArray]; omega)) ⟨e, ?_⟩
  refine ⟨y, _, I.lset (its' := its.eraseIdx k) hH e ?_ (r.eraseIdx k) ?_, rw', q⟩
  · show its.toArray.eraseIdxIfInBounds k = (its.eraseIdx k).toArray
    rw [List.eraseIdxIfInBounds_toArray]
  · have := len_erase xs k
    omega

def rReverse : V → List V → Hp → VK → Prop := fun x vs H Q => ∃ l xs, x = .ref l ∧ vs = [] ∧ H l = some (.lst xs) ∧ Q .non (upd H l (.lst xs.reverse))
theorem mt_reverse : MtM X "list.reverse" rReverse := by
  intro pins s σ H x vs v us Q I rx rv h
  obtain ⟨l, xs, rfl, rfl, hH, q⟩ := h
  cases rx
  have hus := rv.zero
  subst hus
  obtain ⟨z, its, n, r, hl, e⟩ := I.lstM hH
  refine call_meets F.slot_list_reverse ⟨_, e, rfl⟩ F.entry_list_reverse (F.args_list_reverse_1 _) (AutoSeq1.list_reverse_list_0 l its.toArray n (by rw [List.size_toArray]; omega)) ⟨e, ?_⟩
  refine ⟨.non, _, I.lset (its' := its.reverse) hH e (by simp) r.reverse ?_, rfl, q⟩
  rw [List.length_reverse]
  omega

def rClear : V → List V → Hp → VK → Prop := fun x vs H Q => ∃ l xs, x = .ref l ∧ vs = [] ∧ H l = some (.lst xs) ∧ Q .non (upd H l (.lst []))
theorem mt_clear : MtM X "list.clear" rClear := by
  intro pins s σ H x vs v us Q I rx rv h
  obtain ⟨l, xs, rfl, rfl, hH, q⟩ := h
  cases rx
  have hus := rv.zero
  subst hus
  obtain ⟨z, its, n, r, hl, e⟩ := I.lstM hH
  refine call_meets F.slot_list_clear ⟨_, e, rfl⟩ F.entry_list_clear (F.args_list_clear_1 _) (AutoSeq1.list_clear_list_0 l its.toArray n (by rw [List.size_toArray]; omega)) ⟨e, ?_⟩
  exact ⟨.non, _, I.lset (its' := []) (ys := []) hH e rfl .nil (Nat.zero_le _), rfl, q⟩

/-! ### list + list, list += list, list * int -/
def rCat : R2 := fun x y H Q => ∃ l b xs zs, x = .ref l ∧ y = .ref b ∧ H l = some (.lst xs) ∧ H b = some (.lst zs) ∧ xs.length + zs.length ≤ sizeLine ∧ ∀ p, H p = none → Q (.ref p) (upd H p (.lst (xs ++ zs)))
theorem op_cat : OpR X (binaryOp .Add) rCat := by
  intro pins s σ H x y v u Q I rx ry h
  obtain ⟨l, b, xs, zs, rfl, rfl, hH, hB, hz, q⟩ := h
  cases rx
  cases ry
  obtain ⟨z, its, n, r, hl, e⟩ := I.lstM hH
  obtain ⟨z2, its2, n2, r2, hl2, e2⟩ := I.lstM hB
  refine PySem.P.add_list e e2 ?_ (by rw [List.size_toArray, List.size_toArray]; omega)
  have ea : its.toArray ++ its2.toArray = (its ++ its2).toArray := by simp
  rw [ea]
  exact ⟨.ref _, _, I.lnew (t' := s.toks) (r.append r2) (by rw [List.length_append]; omega), rfl, q _ I.fresh⟩
/-- a list times an int (a negative one is nothing) -/
def rRep : R2 := fun x y H Q => ∃ l k xs, x = .ref l ∧ y = .int k ∧ H l = some (.lst xs) ∧ -(2 ^ 63) ≤ k ∧ k < 2 ^ 63 ∧ xs.length * k.toNat ≤ sizeLine ∧
  ∀ p, H p = none → Q (.ref p) (upd H p (.lst (List.replicate k.toNat xs).flatten))
theorem len_rep {α : Type} (xs : List α) (k : Nat) : (List.replicate k xs).flatten.length = k * xs.length := by
  induction k with
  | zero => simp
  | succ k ih => rw [List.replicate_succ, List.flatten_cons, List.length_append, ih, Nat.succ_mul, Nat.add_comm]
theorem op_rep : OpR X (binaryOp .Mult) rRep := by
  intro pins s σ H x y v u Q I rx ry h
  obtain ⟨l, k, xs, rfl, rfl, hH, h1, h2, hz, q⟩ := h
  cases rx
  obtain ⟨t, rfl⟩ := ry
  obtain ⟨z, its, n, r, hl, e⟩ := I.lstM hH
  have hlen : its.toArray.size * k.toNat ≤ sizeLine := by rw [List.size_toArray, ← hl]; exact hz
  have hcap : ¬ its.toArray.size * k.toNat > (2 ^ 63 - 1) / 8 := by
    have : (sizeLine : Nat) ≤ (2 ^ 63 - 1) / 8 := by decide
    omega
  have hfit : ¬ (!Builtin.List.listFitsIndex k) = true := by
    rw [fitsIndex_both h1 h2]
    exact Bool.false_ne_true
  have hlong : ¬ Builtin.List.listTooLong (its.toArray.size * k.toNat) = true := by
    rw [notLongL hlen]
    exact Bool.false_ne_true
  have hnew : List.foldl (fun x1 x2 => x1 ++ x2) #[] (List.replicate (if its.toArray.isEmpty = true then 0 else k.toNat) its.toArray) = (List.replicate k.toNat its).flatten.toArray := by
    have f0 : ∀ m : Nat, List.foldl (fun x1 x2 => x1 ++ x2) #[] (List.replicate m its.toArray) = (List.replicate m its).flatten.toArray := fun m => by
      have := foldl_rep its m []
      rw [List.nil_append] at this
      exact this
    rw [f0]
    cases its with
    | nil => simp
    | cons a r' => rw [if_neg (by simp)]
  refine wpAny_binaryOp_repeat_ref (T := "list") (U := "int") (by decide) ⟨_, e, rfl⟩ (fun s' => typeIs_int s' k t) noFill_list_mul F.fills_int_mul F.slot_int_rmul repeat_list F.slot_int_index.lookup
    (call_meets F.slot_int_rmul (typeIs_int s k t) F.entry_int_rmul (F.args_int_rmul_2 _ _) (int___rmul___int_list k t l its.toArray n)
      ⟨e, rfl, ⟨_, e, rfl⟩, call_meets F.slot_list_mul ⟨_, e, rfl⟩ F.entry_list_mul (F.args_list_mul_2 _ _) (AutoListH.list___mul___list_int_3 l its.toArray n k t hfit hcap hlong) ⟨e, ?_⟩⟩)
  rw [hnew]
  exact ⟨.ref _, _, I.lnew (t' := s.toks) (r.rep k.toNat) (by rw [len_rep, Nat.mul_comm]; exact hz), rfl, q _ I.fresh⟩

/-! ### del xs[i] -/
theorem del_list {pins : List (Addr × Obj)} {s : Shared} {σ : St} {H : Hp} {l : Addr} {xs : List V} {i : Int} {t : Tok} {k : Nat} {Q : Unit → Shared → Prop} (I : Inv X pins σ H s) (hH : H l = some (.lst xs))
    (h1 : -(2 ^ 63) ≤ i) (h2 : i < 2 ^ 63) (hk : seqIndex? i xs.length = some k) (h : ∀ s', Inv X pins σ (upd H l (.lst (xs.eraseIdx k))) s' → Q () s') :
    wpAny (model X.prog X.w) X.A (delItem (.ref l) (.int i t)) Q X.xe s := by
  obtain ⟨z, its, n, r, hl, e⟩ := I.lstM hH
  refine PySem.P.delItem_list (k := k) e (fitsIndex_both h1 h2) (by rw [List.size_toArray, ← hl]; exact hk) (h _ ?_) (by rw [List.size_toArray]; omega)
  refine I.lset (its' := its.eraseIdx k) (t' := s.toks) hH e ?_ (r.eraseIdx k) ?_
  · show its.toArray.eraseIdxIfInBounds k = (its.eraseIdx k).toArray
    rw [List.eraseIdxIfInBounds_toArray]
  · have := len_erase xs k
    omega
end

/-! ### xs[a:b] = ys -/
section
variable {prog : Program} {w : World} {A : Around} {E : Value → Shared → Prop} {s : Shared}
theorem splice_eq (its its2 : List Value) (a c : Nat) : its.toArray.extract 0 a ++ its2.toArray ++ its.toArray.extract c its.toArray.size = (its.take a ++ its2 ++ its.drop c).toArray := by
  apply Array.toList_inj.mp
  first
    | (simp
       exact List.take_of_length_le (by simp))
    | simp [List.take_of_length_le]
    | simp
theorem bounds_run {a c n : Nat} (hac : a ≤ c) (hc : c ≤ n) : sliceBounds (some (a : Int)) (some (c : Int)) none n = ((a : Int), (c : Int), 1) := by
  simp only [sliceBounds, Option.getD_none]
  have h1 : ¬ ((a : Int) < 0) := by omega
  have h2 : ¬ ((c : Int) < 0) := by omega
  simp only [h1, h2, if_false, show (1 : Int) > 0 by decide, if_true]
  congr 1
  · omega
  · congr 1; omega
set_option maxRecDepth 100000 in
/-- list.__setitem__ with a slice of step one and another list -/
theorem setItem_slice {l b sl : Addr} {items new : Array Value} {n n2 : Nat} {vl vu : Value} {a c : Nat} {Q : Unit → Shared → Prop}
    (e : s.heap.get? l = some { cls := .type "list", data := .seq items n }) (e2 : s.heap.get? b = some { cls := .type "list", data := .seq new n2 }) (hne : l ≠ b)
    (hs : s.heap.IsSliceOf sl vl vu .none) (pl : IsPart vl (some (a : Int))) (pu : IsPart vu (some (c : Int))) (hac : a ≤ c) (hc : c ≤ items.size)
    (hsz : items.size + new.size ≤ sizeLine) (h : Q () { s with heap := s.heap.update l (Obj.mapSeq fun xs => xs.extract 0 a ++ new ++ xs.extract c xs.size) }) :
    wpAny (model prog w) A (setItem (.ref l) (.ref sl) (.ref b)) Q E s := by
  have hl : s.heap.IsList l items := PySem.IsL.isList e
  have hb : s.heap.IsList b new := PySem.IsL.isList e2
  obtain ⟨os, hos, hcs, hds⟩ := id hs
  have hTs : s.TypeIs (.ref sl) "slice" := ⟨os, hos, hcs⟩
  have hstep : ¬ ((rawPart none == rawInt 0) = true) := Bool.false_ne_true
  have hsame : Builtin.List.listSameRef (.ref l) (.ref b) = false := by
    unfold Builtin.List.listSameRef
    exact beq_eq_false_iff_ne.mpr hne
  have hmax : (max (a : Int) (c : Int)).toNat = c := by omega
  have hz' : ((fun xs : Array Value => xs.extract 0 a ++ new ++ xs.extract c xs.size) items).size ≤ sizeLine + 1 := by
    simp only [Array.size_append, Array.size_extract]
    omega
  unfold setItem
  try with_reducible refine wpAny_holding ?_
  first | refine wpAny_bind (wpAny_pure ?_) | skip
  refine wpAny_bind (wpAny_sequenceKey hl.typeIs (by decide) ?_)
  refine wpAny_bind (wpAny_callSpecial?_slot (name := Str.ofString "__setitem__") hl.typeIs slot_list_setitem
    (wpAny_call_entry slot_list_setitem hl.typeIs entry_list_setitem ?_ (args_list_setitem _ _ _)))
  show wpAny _ _ (Builtin.List.listSubscript? (.ref sl) >>= _) _ _ s
  refine wpAny_bind ?_
  unfold Builtin.List.listSubscript?
  refine wpAny_bind (wpAny_specialOf hTs slice_no_index ?_)
  simp only [Option.isNone_none, if_true]
  refine wpAny_pure ?_
  show wpAny _ _ (typeOf (.ref sl) >>= _) _ _ s
  refine wpAny_bind (wpAny_typeOf hTs ?_)
  first
    | rw [if_neg (by decide)]
    | refine PySem.W.KFB.if_not (by decide) ?_
  rw [listSliceParts_eq]
  refine wpAny_bind (wpAny_bind (wpAny_field hos hds (x := .none) rfl (wpAny_bind (wpAny_listPart .none ?_))))
  rw [if_neg hstep]
  refine wpAny_bind (wpAny_field hos hds (x := vl) rfl (wpAny_bind (wpAny_listPart pl ?_)))
  refine wpAny_bind (wpAny_field hos hds (x := vu) rfl (wpAny_bind (wpAny_listPart pu (wpAny_pure ?_))))
  first
    | simp only [hsame, Bool.false_eq_true, if_false]
    | refine PySem.W.KFB.if_not hsame ?_
    | (dsimp only
       rw [if_neg (by rw [hsame]; exact Bool.false_ne_true)])
  refine wpAny_bind (m := Builtin.List.listAllItems (.ref b) "must assign iterable to extended slice") ?_
  unfold Builtin.List.listAllItems
  refine wpAny_bind (wpAny_typeOf hb.typeIs ?_)
  first
    | refine PySem.W.KFB.if_so (by decide) ?_
    | rw [if_pos (by decide)]
    | simp only [beq_self_eq_true, Bool.true_or, if_true]
  unfold Builtin.List.listItems
  refine wpAny_bind (wpAny_seqItems e2 rfl (wpAny_pure ?_))
  refine wpAny_bind (wpAny_bind (wpAny_seqItems e rfl (wpAny_pure ?_)))
  refine wpAny_bind (wpAny_of_eq ((sliceIndices_raw (some (a : Int)) (some (c : Int)) none items.size (by simp)).trans (congrArg (pure : Int × Int × Int → Sem (Int × Int × Int)) (bounds_run hac hc))) ?_)
  show wpAny _ _ (if ((1 : Int) == 1) = true then _ else _) _ _ s
  rw [if_pos (by decide)]
  refine wpAny_bind (wpAny_rule ?_)
  first
    | simp only [notLongL hsz, Bool.false_eq_true, if_false]
    | refine PySem.W.KFB.if_not (notLongL hsz) ?_
  first | refine wpAny_bind (wpAny_pure ?_) | skip
  show wpAny _ _ (updateSeq l (fun xs => xs.extract 0 ((a : Int)).toNat ++ new ++ xs.extract (max (a : Int) (c : Int)).toNat xs.size) >>= _) _ _ s
  rw [hmax, Int.toNat_natCast]
  refine wpAny_bind (wpAny_updateSeq (hz := Nat.le_trans (Nat.le_add_right _ _) hsz) (_hz' := hz') e rfl ?_)
  refine wpAny_bind (wpAny_letGo ?_)
  first
    | exact wpAny_bind (wpAny_pure (wpAny_pure ⟨.none, rfl, wpAny_pure h⟩))
    | exact wpAny_pure ⟨.none, rfl, wpAny_pure h⟩
end

section
variable {X : Cx}
/-- xs[a:c] = ys of another list, at the value level: sl is the slice object that was just made -/
theorem set_slice {pins : List (Addr × Obj)} {s : Shared} {σ : St} {H : Hp} {l b sl : Addr} {xs ys : List V} {a c : Int} {vl vu : Value} {Q : Unit → Shared → Prop} (I : Inv X pins σ H s)
    (hH : H l = some (.lst xs)) (hB : H b = some (.lst ys)) (hne : l ≠ b) (hs : s.heap.IsSliceOf sl vl vu .none) (ra : RelV (.int a) vl) (rc : RelV (.int c) vu) (h0 : 0 ≤ a) (hac : a ≤ c) (hc : c ≤ xs.length)
    (hz : xs.length + ys.length ≤ sizeLine) (h : ∀ s', Inv X pins σ (upd H l (.lst (xs.take a.toNat ++ ys ++ xs.drop c.toNat))) s' → Q () s') :
    wpAny (model X.prog X.w) X.A (setItem (.ref l) (.ref sl) (.ref b)) Q X.xe s := by
  obtain ⟨ta, rfl⟩ := ra
  obtain ⟨tc, rfl⟩ := rc
  obtain ⟨z, its, n, r, hl, e⟩ := I.lstM hH
  obtain ⟨z2, its2, n2, r2, hl2, e2⟩ := I.lstM hB
  obtain ⟨a', rfl⟩ := Int.eq_ofNat_of_zero_le h0
  obtain ⟨c', rfl⟩ := Int.eq_ofNat_of_zero_le (Int.le_trans h0 hac)
  simp only [Int.toNat_natCast] at h
  refine setItem_slice (a := a') (c := c') e e2 hne hs (.int _ _) (.int _ _) (by omega) (by rw [List.size_toArray]; omega) (by rw [List.size_toArray, List.size_toArray]; omega) (h _ ?_)
  refine I.lset (its' := its.take a' ++ its2 ++ its.drop c') (t' := s.toks) hH e ?_ (Vals.append (Vals.append (r.take _) r2) (r.drop _)) ?_
  · exact splice_eq its its2 a' c'
  · rw [List.length_append, List.length_append, List.length_take, List.length_drop]
    omega
end
end L2

namespace Att
open PySem PySem.W PySem.Calls PyProof.Rows

/-! ### the script -/
theorem ints_of_wellAll {P : Params} {h : Heap} : ∀ (ns : List Int) (vs : List Value), WellAll P h vs (ns.map WData.int) → IntsAre vs ns := by
  intro ns
  induction ns with
  | nil =>
    intro vs w
    rw [List.map_nil] at w
    cases w
    exact .nil
  | cons n ns ih =>
    intro vs w
    rw [List.map_cons] at w
    cases w with
    | cons a b =>
      cases a
      exact .cons _ _ (ih _ b)

theorem script_of {l : OpenLaw} {n : Nat} (hn : l.most = some n) {P : Params} {h : Heap} {args : List WData} {vals : List Value}
    (hpre : l.row.toRowW.claim.pre args = true) (hwl : WellAll P h vals args) :
    ∃ a vs ns, vals = [Value.ref a] ∧ args = [WData.list (ns.map WData.int)] ∧ h.get? a = some { cls := .type "list", data := .seq vs.toArray } ∧ IntsAre vs ns ∧ ns.length ≤ n := by
  have hsh : WShape.hasAll [] args [.list .int] = true := (pre_splitW hpre).1
  have hc : l.pre.holds [] { args := args } = true := (pre_splitW hpre).2
  obtain ⟨d, r, rfl, h1, h2⟩ := hasAllW_cons hsh
  obtain rfl := hasAllW_nil h2
  obtain ⟨xs, rfl, h3⟩ := hasW_list h1
  obtain ⟨ns, rfl⟩ := items_int h3
  have hlen : ns.length ≤ n := by
    unfold OpenLaw.pre at hc
    have h4 : (WTm.not (.lt (.lit (.int (n : Int))) (.len (.arg 0)))).holds [] { args := [.list (ns.map .int)] } = true := by
      have h4 := (holds_andW hc).1
      rw [hn] at h4
      exact h4
    have h5 := condW_of h4 (w_not (w_lt w_lit (w_len_list (w_arg rfl))))
    rw [List.length_map] at h5
    refine Nat.le_of_not_lt fun q => ?_
    have q' : (n : Int) < ((ns.length : Nat) : Int) := by omega
    first
      | (rw [decide_eq_true q'] at h5; exact absurd h5 (by decide))
      | (simp at h5; omega)
  cases hwl with
  | cons w1 w2 =>
    cases w2
    cases w1 with
    | list ho hall => exact ⟨_, _, ns, rfl, rfl, ho, ints_of_wellAll ns _ hall, hlen⟩

theorem post_true (l : OpenLaw) (args : List WData) : l.row.toRowW.claim.post args (.bool true) args = true :=
  postW_of (r := l.row.toRowW) (X := (true == true))
    (show WShape.has [] (.bool true) .bool = true by first | rfl | decide | simp [WShape.has, WShape.arms, WShape.armsAll])
    (show (WTm.eq .res (.lit (.bool true))).value [] { args := args, res := some (.bool true), after := args } = some (.bool (true == true)) from w_eq_bool (w_res rfl) w_lit) rfl

/-! ### the attachment: holds_open's last premise (the goal 'hc' behind k_head) from a wpAny of the law's body -/
theorem attach {l : OpenLaw} {n : Nat} {q : Program} {loose : List Str} {XP : (Str → Option Value) → Heap → Prop} {YP : World → Heap → Prop} {d : DefRec} {x : Str}
    (hn : l.most = some n) (hdf : d.params.defaults = [])
    (hbind : ∀ pm cd doc v : Value, bindArgs (docDef d.name d.params d.body d.scope pm cd doc) ⟨[v], []⟩ = pure [(x, v)])
    (hx : d.scope.names.lookup x = some .local ∨ d.scope.names.lookup x = some .cell)
    (hk : d.scope.kind = .function) (hco : d.scope.isCoroutine = false) (hgen : d.scope.isGenerator = false)
    (body : ∀ (w : World) (s₀ s₁ s : Shared) (mg mb : Str → Option Value) (fa : Addr) (o : Obj) (pm cd doc : Value) (a : Addr) (vs : List Value) (ns : List Int),
      Ground q loose [] XP w s₀ mg mb s₁.heap → YP w s₁.heap →
      s₁.heap.get? fa = some o → o.data = .func (docDef d.name d.params d.body d.scope pm cd doc) → s₁.heap.CodeRec cd d.name → mg d.name = some (.ref fa) →
      s₁.heap.get? a = some { cls := .type "list", data := .seq vs.toArray } → IntsAre vs ns → ns.length ≤ n →
      s.gens = #[] → s.os = s₁.os →
      Fr s₁.heap s₁.heap.objs.size s.heap (bindL (envOfC d.name d.scope s₁.heap.objs.size fa cd).kindOf [(x, .ref a)] fun _ => none) →
      Cl s₁.heap.objs.size (cellsFrom (s₁.heap.objs.size + 1) d.scope.names []) s.heap (bindC (envOfC d.name d.scope s₁.heap.objs.size fa cd).kindOf [(x, .ref a)] fun _ => none) →
      wpAny (model l.prog w) (callerA.deeper (envOfC d.name d.scope s₁.heap.objs.size fa cd)) (execs d.body (envOfC d.name d.scope s₁.heap.objs.size fa cd))
        (fun f s' => f = .ret (.bool true) ∧ OldK s₁.heap s'.heap ∧ s'.os = s₁.os ∧ AllBare s'.gens) (fun _ _ => False) s) :
    WalkO q loose XP YP l.row.toRowW d [] (fun f vs => PySem.call f vs) := by
  intro w s₀ s₁ mg mb G Y fa o pm cd doc dV kV ho hd hcd hD hmg hg args vals as hpre hlay hrd hwl hlo
  obtain rfl : dV = .none := Dflts.none hD hdf
  obtain rfl : kV = .none := Dflts.noKw hD
  obtain ⟨a, vs, ns, rfl, rfl, hobj, hints, hlen⟩ := script_of hn hpre hwl
  refine enter_call ?_
  refine call_cells_ret (o := o) (by rw [depth_caller]; decide) ho (fd_plain hd) G.T.nolimit hcd (hbind pm cd doc (.ref a)) (fun y hy => ?_) (fun h₁ tk F X => ?_) hco hgen hk
  · obtain rfl : y = (x, Value.ref a) := List.mem_singleton.mp hy
    rcases hx with e | e
    · exact .inl e
    · exact .inr ⟨e, cellsFrom_some _ _ _ (.inl e)⟩
  · refine wpAny_mono (body w s₀ s₁ { s₁ with heap := h₁, toks := tk } mg mb fa o pm cd doc a vs ns G Y ho (fd_plain hd) hcd hmg hobj hints hlen hg rfl F X) (fun f s' hq => ?_) (fun _ _ hq => hq)
    obtain ⟨rfl, h2, h3, h4⟩ := hq
    exact ⟨.inl ⟨.bool true, .bool true, [], rfl, fun _ => rfl, .bool true, post_true l _, fun _ => ⟨List.Pairwise.nil, fun _ hm => (nomatch hm)⟩⟩, h2, h3, h4⟩

/-- the same from a codeAny of the CALL (for a layer whose function contracts speak of calls) -/
theorem attach_call {l : OpenLaw} {n : Nat} {q : Program} {loose : List Str} {XP : (Str → Option Value) → Heap → Prop} {YP : World → Heap → Prop} {d : DefRec}
    (hn : l.most = some n) (hdf : d.params.defaults = [])
    (call : ∀ (w : World) (s₀ s₁ : Shared) (mg mb : Str → Option Value) (fa : Addr) (o : Obj) (pm cd doc : Value) (a : Addr) (vs : List Value) (ns : List Int),
      Ground q loose [] XP w s₀ mg mb s₁.heap → YP w s₁.heap →
      s₁.heap.get? fa = some o → o.data = .func (docDef d.name d.params d.body d.scope pm cd doc) → s₁.heap.CodeRec cd d.name → mg d.name = some (.ref fa) →
      s₁.heap.get? a = some { cls := .type "list", data := .seq vs.toArray } → IntsAre vs ns → ns.length ≤ n → s₁.gens = #[] →
      codeAny (model l.prog w) callerA (.call (.ref fa) ⟨[.ref a], []⟩) (fun r s' => r = .ok (.ret (.bool true)) ∧ OldK s₁.heap s'.heap ∧ s'.os = s₁.os ∧ AllBare s'.gens) s₁) :
    WalkO q loose XP YP l.row.toRowW d [] (fun f vs => PySem.call f vs) := by
  intro w s₀ s₁ mg mb G Y fa o pm cd doc dV kV ho hd hcd hD hmg hg args vals as hpre hlay hrd hwl hlo
  obtain rfl : dV = .none := Dflts.none hD hdf
  obtain rfl : kV = .none := Dflts.noKw hD
  obtain ⟨a, vs, ns, rfl, rfl, hobj, hints, hlen⟩ := script_of hn hpre hwl
  refine enter_call (codeAny_mono (call w s₀ s₁ mg mb fa o pm cd doc a vs ns G Y ho (fd_plain hd) hcd hmg hobj hints hlen hg) fun r s' hq => ?_)
  obtain ⟨rfl, h2, h3, h4⟩ := hq
  exact ⟨.inl ⟨.bool true, .bool true, [], rfl, fun _ => rfl, .bool true, post_true l _, fun _ => ⟨List.Pairwise.nil, fun _ hm => (nomatch hm)⟩⟩, h2, h3, h4⟩

/-- the same where the top left finished generators (o_head chose holds_openN): nothing may have changed at all and no generator may be left -/
theorem attachN {l : OpenLaw} {n : Nat} {q : Program} {loose : List Str} {XP : (Str → Option Value) → Heap → Prop} {YP : World → Heap → Prop} {d : DefRec} {x : Str}
    (hn : l.most = some n) (hdf : d.params.defaults = [])
    (hbind : ∀ pm cd doc v : Value, bindArgs (docDef d.name d.params d.body d.scope pm cd doc) ⟨[v], []⟩ = pure [(x, v)])
    (hx : d.scope.names.lookup x = some .local ∨ d.scope.names.lookup x = some .cell)
    (hk : d.scope.kind = .function) (hco : d.scope.isCoroutine = false) (hgen : d.scope.isGenerator = false)
    (body : ∀ (w : World) (s₀ s₁ s : Shared) (mg mb : Str → Option Value) (fa : Addr) (o : Obj) (pm cd doc : Value) (a : Addr) (vs : List Value) (ns : List Int),
      Ground q loose [] XP w s₀ mg mb s₁.heap → YP w s₁.heap →
      s₁.heap.get? fa = some o → o.data = .func (docDef d.name d.params d.body d.scope pm cd doc) → s₁.heap.CodeRec cd d.name → mg d.name = some (.ref fa) →
      s₁.heap.get? a = some { cls := .type "list", data := .seq vs.toArray } → IntsAre vs ns → ns.length ≤ n →
      s.gens = #[] → s.os = s₁.os →
      Fr s₁.heap s₁.heap.objs.size s.heap (bindL (envOfC d.name d.scope s₁.heap.objs.size fa cd).kindOf [(x, .ref a)] fun _ => none) →
      Cl s₁.heap.objs.size (cellsFrom (s₁.heap.objs.size + 1) d.scope.names []) s.heap (bindC (envOfC d.name d.scope s₁.heap.objs.size fa cd).kindOf [(x, .ref a)] fun _ => none) →
      wpAny (model l.prog w) (callerA.deeper (envOfC d.name d.scope s₁.heap.objs.size fa cd)) (execs d.body (envOfC d.name d.scope s₁.heap.objs.size fa cd))
        (fun f s' => f = .ret (.bool true) ∧ (∀ b o, s₁.heap.get? b = some o → s'.heap.get? b = some o) ∧ s'.os = s₁.os ∧ s'.gens = #[]) (fun _ _ => False) s) :
    WalkN q loose XP YP l.row.toRowW d [] (fun f vs => PySem.call f vs) := by
  intro w s₀ s₁ mg mb G Y fa o pm cd doc dV kV ho hd hcd hD hmg hg args vals as hpre hlay hrd hwl hlo
  obtain rfl : dV = .none := Dflts.none hD hdf
  obtain rfl : kV = .none := Dflts.noKw hD
  obtain ⟨a, vs, ns, rfl, rfl, hobj, hints, hlen⟩ := script_of hn hpre hwl
  refine enter_callW ?_
  refine call_cells_ret (o := o) (by rw [depth_caller]; decide) ho (fd_plain hd) G.T.nolimit hcd (hbind pm cd doc (.ref a)) (fun y hy => ?_) (fun h₁ tk F X => ?_) hco hgen hk
  · obtain rfl : y = (x, Value.ref a) := List.mem_singleton.mp hy
    rcases hx with e | e
    · exact .inl e
    · exact .inr ⟨e, cellsFrom_some _ _ _ (.inl e)⟩
  · refine wpAny_mono (body w s₀ s₁ { s₁ with heap := h₁, toks := tk } mg mb fa o pm cd doc a vs ns G Y ho (fd_plain hd) hcd hmg hobj hints hlen hg rfl F X) (fun f s' hq => ?_) (fun _ _ hq => hq)
    obtain ⟨rfl, h2, h3, h4⟩ := hq
    exact ⟨.inl ⟨.bool true, .bool true, [], rfl, fun _ => rfl, .bool true, post_true l _, fun _ => ⟨List.Pairwise.nil, fun _ hm => (nomatch hm)⟩⟩, h2, h3, h4⟩

/-! ### rules over ANY heap (no ledger) from facts about the written part K: the library's own take a ledger (News) for what they write -/
section
variable {prog : Program} {w : World} {A : Around} {E : Value → Shared → Prop} {s : Shared} {K : Frag}

/-- a def of the module, or a method (qual 'C.m'), entered: the frame is the next address; cells behind it -/
theorem call_fn {R : Result → Shared → Prop} {name qual : Str} {params : Arguments} {body : List Stmt} {scope : Scope} {dV kV doc pm cdv ct oc : Value} {an od : Option Addr} {osl : Array (Option Value)} {f : Addr} {args : Args} {binds : List (Str × Value)}
    (X : K.In s.heap) (hlim : s.heap.NoLimit) (ho : K.lookup f = some ⟨oc, od, .func (fnOf name qual params body scope dV kV doc pm an cdv ct), osl⟩) (hcd : codeIn K cdv qual = true) (hroom : A.depth < recursionLimit)
    (hbind : BindsTo s (fnOf name qual params body scope dV kV doc pm an cdv ct) args binds)
    (hkind : (binds.all fun y => scope.names.lookup y.1 == some .local || scope.names.lookup y.1 == some .cell) = true)
    (h : ∀ s₁, InCallC s s.heap.objs.size (bindL (envOfC qual scope s.heap.objs.size f cdv).kindOf binds fun _ => none) (cellsFrom (s.heap.objs.size + 1) scope.names [])
        (bindC (envOfC qual scope s.heap.objs.size f cdv).kindOf binds fun _ => none) s₁ →
      wpAny (model prog w) (A.deeper (envOfC qual scope s.heap.objs.size f cdv)) (execs body (envOfC qual scope s.heap.objs.size f cdv))
        (fun fl s' => R (.ok (.ret (match fl with | .ret v => v | _ => .none))) s')
        (fun e s' => wpAny (model prog w) (A.deeper (envOfC qual scope s.heap.objs.size f cdv)) (leaving (envOfC qual scope s.heap.objs.size f cdv) e) (fun _ s'' => R (.error e) s'') (fun e' s'' => R (.error e') s'') s') s₁)
    (hco : scope.isCoroutine = false) (hgen : scope.isGenerator = false) (hk : scope.kind = .function) : codeAny (model prog w) A (.call (.ref f) args) R s := by
  refine codeAny_call_function hroom (X _ _ ho) rfl hco hgen rfl (codeRec_of X hcd) (hbind _ _ _ _ ?_)
  refine wpAny_newFunctionEnv_cells hk (kindsX hkind _) fun env he s₁ x => ?_
  subst he
  exact ⟨hlim.keeps x.toInCall.keep, codeAny_func (h s₁ x)⟩

/-- C(..): dict at size, instance at size + 1, then __init__ -/
theorem make_obj {R : Result → Shared → Prop} {C fI : Addr} {rest : List Value} {kw : List (Str × Value)}
    (X : K.In s.heap) (hm : makesIn K C = true) (hi : findIn K (.ref C) "__init__" = some (some (.ref fI))) (hf : isFn K (.ref fI) = true)
    (h : codeAny (model prog w) (A.under (.builtin "type.__call__" ⟨.ref C :: rest, kw⟩)) (.call (.ref fI) ⟨.ref (s.heap.objs.size + 1) :: rest, kw⟩) (InitBack (s.heap.objs.size + 1) R)
      { s with heap := (s.heap.push emptyDict).push (instObj C s.heap.objs.size) }) : codeAny (model prog w) A (.call (.ref C) ⟨rest, kw⟩) R s := by
  obtain ⟨hh, g, d, t, os⟩ := s
  exact make_core (makes_of X hm) (looks_findIn X hi) (fun self => bind_fn X self (beq_iff_eq.mp hf)) (.inl rfl) h

/-- x.name where the instance's dict holds the name and the class does not -/
theorem get_field {x C : Addr} {ox : Obj} {es : List DictEntry} {n : Nat} {name : Str} {expr : Bool} {v : Value} {Q : Value → Shared → Prop}
    (X : K.In s.heap) (I : PySem.W.InstAt s.heap x ox C (some (dictOf es n))) (hg : plainGet K C name = true) (hh : hasDictIn K C = true) (ha : findIn K (.ref C) name = some none)
    (hl : getL name es = some (some v)) (hv : handedIn v = true) (h : Q v { s with toks := s.toks + 1 }) : wpAny (model prog w) A (getAttr (.ref x) name expr) Q E s :=
  get_value X I (plainGet_of hg).1 (findObj_own hh ha rfl hl) hv h

/-- x.m(..): the method found in the class -/
theorem get_method {x C f : Addr} {ox : Obj} {es : List DictEntry} {n : Nat} {name : Str} {pl : Sem Bool} {Q : Value × List Value → Shared → Prop}
    (X : K.In s.heap) (I : PySem.W.InstAt s.heap x ox C (some (dictOf es n))) (hg : plainGet K C name = true) (hf : findIn K (.ref C) name = some (some (.ref f))) (ht : isFn K (.ref f) = true)
    (hl : getL name es = some none) (h : Q (.ref f, [.ref x]) s) : wpAny (model prog w) A (getMethod (.ref x) name pl) Q E s :=
  method_fn X I (plainGet_of hg).1 (plainGet_of hg).2 hf (beq_iff_eq.mp ht) (by show (lookIn name (dictOf es n)).map _ = _; rw [lookIn_dict, hl]; rfl) h

/-! the whole heap as the ledger: makes every rule that writes through a ledger a rule over any heap -/
def noObjs (h : Heap) : Heap := { h with objs := #[] }
theorem noObjs_get (h : Heap) (b : Addr) : (noObjs h).get? b = none := by
  cases e : (noObjs h).get? b with
  | none => rfl
  | some o => exact absurd (Heap.lt_size e) (Nat.not_lt_zero _)
def ledger (h : Heap) (L d : Addr) : List (Addr × Obj) := (List.range h.objs.size).filterMap fun a => if a = L ∨ a = d then none else (h.get? a).map fun o => (a, o)
theorem mem_ledger {h : Heap} {L d a : Addr} {o : Obj} : (a, o) ∈ ledger h L d ↔ a ≠ L ∧ a ≠ d ∧ h.get? a = some o := by
  unfold ledger
  rw [List.mem_filterMap]
  constructor
  · rintro ⟨b, _, e⟩
    split at e
    · cases e
    · rename_i hb
      obtain ⟨o', ho, e'⟩ := Option.map_eq_some_iff.mp e
      cases e'
      exact ⟨fun q => hb (.inl q), fun q => hb (.inr q), ho⟩
  · rintro ⟨n1, n2, ho⟩
    refine ⟨a, List.mem_range.mpr (Heap.lt_size ho), ?_⟩
    rw [if_neg (show ¬ (a = L ∨ a = d) from fun q => q.elim n1 n2), ho] <;> rfl
theorem news_ledger {h : Heap} {L d : Addr} {od : Obj} (hne : d ≠ L) (ho : h.get? d = some od) : News (noObjs h) L h ([] ++ (d, od) :: ledger h L d) := by
  rintro ⟨a, o⟩ hp
  rcases List.mem_cons.mp hp with e | hp
  · cases e
    exact ⟨ho, hne, noObjs_get _ _⟩
  · obtain ⟨n1, n2, e⟩ := mem_ledger.mp hp
    exact ⟨e, n1, noObjs_get _ _⟩
theorem fr_all {h : Heap} {L : Addr} {m : Str → Option Value} (n : h.Ns L m) : Fr (noObjs h) L h m :=
  ⟨n, fun b o e => (by rw [noObjs_get] at e; cases e), Nat.zero_le _⟩
/-- Upd of the head entry (for append_K, setItem_K ..) -/
theorem upd_ledger {h : Heap} {L d : Addr} {o o' : Obj} : Upd d o o' ((d, o) :: ledger h L d) ((d, o') :: ledger h L d) :=
  .head fun ⟨_, _⟩ hp => (mem_ledger.mp hp).2.1

/-- x.name = v over any heap: L is any namespace of the heap (the frame's, say): its map stays, its object is not told; all else but the dict stays -/
theorem set_field {x C dx L : Addr} {ox : Obj} {m : Str → Option Value} {es es' : List DictEntry} {n n' : Nat} {name : Str} {v : Value} {Q : Unit → Shared → Prop}
    (X : K.In s.heap) (I : PySem.W.InstAt s.heap x ox C (some (dictOf es n))) (hd : ox.dict = some dx) (hL : s.heap.Ns L m) (hne : dx ≠ L)
    (hs : findIn K (.ref C) "__setattr__" = some (some (.builtin "object.__setattr__"))) (hp : plainOver K C = true) (ht : takerIn K C name = some none) (hh : hasDictIn K C = true) (hl : (getL name es).isSome = true)
    (e : (putL name (PyData.keyHash w.params name) (.str name (s.toks + 1)) v es, putN name es n) = (es', n')) (hz : es'.length ≤ 1000)
    (h : ∀ h' : Heap, h'.Ns L m → h'.get? dx = some (dictOf es' n') → (∀ b o, b ≠ dx → b ≠ L → s.heap.get? b = some o → h'.get? b = some o) → Q () { s with heap := h', toks := s.toks + 2 }) :
    wpAny (model prog w) A (setAttr (.ref x) name v) Q E s := by
  obtain ⟨e1, e2⟩ := Prod.mk.inj e
  have hdx : s.heap.get? dx = some (dictOf es n) := by
    have := I.dict
    rw [hd] at this
    exact this
  refine set_plain X I hs (osa_dict (s := { s with toks := s.toks + 1 }) (h₀ := noObjs s.heap) (L := L) (m := m) (od := dictOf es n) (od' := dictOf es' n') (es := es') (n := n') (pre := []) (post := ledger s.heap L dx)
    (fr_all hL) (news_ledger hne hdx) X I hd hp ht hh hl (fun _ q => nomatch q) (fun ⟨_, _⟩ q => (mem_ledger.mp q).2.1) (by rw [putName_dict, e1, e2]) rfl hz fun h' F' N' => ?_)
  exact h h' F'.ns (N'.get (List.Mem.head _)) fun b o n1 n2 ho => N'.get (List.Mem.tail _ (mem_ledger.mpr ⟨n2, n1, ho⟩))
end
end Att

namespace L2
open PySem PySem.Spec PyProof.Rows

theorem vals_ints : ∀ {vs : List Value} {ns : List Int}, IntsAre vs ns → Vals (ns.map V.int) vs
  | _, _, .nil => .nil
  | _, _, .cons n t h => .cons ⟨t, rfl⟩ (vals_ints h)

/-- nothing is tracked but the script, known to the object (or it is an object of the module) -/
def Only (H : Hp) : Prop := ∀ b, H b = none ∨ ∃ o xs, H b = some (.frz o (.lst xs))

/-- THE HEAD: the law's promise, at the heap behind the top. F, the promise of the law's def, may use that base is part of the heap (so K.In base, base.Ns mainGlobals mg stand in Mod) -/
theorem law_call {P : Program} {w : World} {K : PySem.W.Frag} {mg mb : Str → Option Value} {CX : CXT} {k : Nat} {fa a : Addr} {fd : FuncData} {x : Str} {sp : Sp} {s₁ : Shared} {vs : List Value} {ns : List Int}
    (KX : K.In s₁.heap) (hns : s₁.heap.Ns mainGlobals mg) (hb : s₁.heap.Ns builtinsNs mb) (hbb : ∀ x : Str, x ≠ "__name__" → mb x = bootBuiltins x) (hlim : s₁.heap.NoLimit) (hg : s₁.gens = #[])
    (ha : s₁.heap.get? a = some { cls := .type "list", data := .seq vs.toArray }) (hi : IntsAre vs ns) (hl : ns.length ≤ sizeLine) (hr : Room k callerA)
    (F : ∀ base : Heap, K.In base → base.Ns mainGlobals mg → FnOk P w K mg base CX k fa fd [x] sp) (hbind : ∀ (s : Shared) (u : Value), BindsTo s fd ⟨[u], []⟩ [(x, u)])
    (hsp : ∀ H : Hp, Only H → SqL K H a (ns.map V.int) → sp [.ref a] H (fun v _ => v = .bl true) fun _ _ _ => False)
    (hCX : ∀ H e s', CX [] H s₁ (fun _ _ _ => False) e s' → False) :
    codeAny (model P w) callerA (.call (.ref fa) ⟨[.ref a], []⟩) (fun r s' => r = .ok (.ret (.bool true)) ∧ OldK s₁.heap s'.heap ∧ s'.os = s₁.os ∧ AllBare s'.gens) s₁ := by
  have rv := vals_ints hi
  have lenV := hi.length
  -- from an abstract heap in which nothing but the script may be tracked
  have core : ∀ H : Hp, Only H → SqL K H a (ns.map V.int) → HOk P w H s₁.heap → (∀ b, H b ≠ none → b = a) → (H a ≠ none → K.lookup a = none) →
      codeAny (model P w) callerA (.call (.ref fa) ⟨[.ref a], []⟩) (fun r s' => r = .ok (.ret (.bool true)) ∧ OldK s₁.heap s'.heap ∧ s'.os = s₁.os ∧ AllBare s'.gens) s₁ := by
    intro H hO hS hok hA hK
    have base_of : ∀ {b : Addr} {o : Obj}, s₁.heap.get? b = some o → H b = none → (hidT s₁.heap H).get? b = some o := fun e n => hidT_get e n
    have noA : ∀ {b : Addr} {o : Obj} {es : Array DictEntry} {ep : Nat}, s₁.heap.get? b = some o → o.data = .dict es ep → H b = none := fun {b o es ep} e d => by
      cases q : H b with
      | none => rfl
      | some u =>
        have e' : b = a := hA b (by rw [q]; simp)
        subst e'
        rw [ha] at e; cases e
        have d' : Data.seq vs.toArray _ = Data.dict es ep := d
        cases d'
    have nsK : ∀ {b : Addr} {m : Str → Option Value}, s₁.heap.Ns b m → (hidT s₁.heap H).Ns b m := fun {b m} ⟨o, es, ep, e, d, r⟩ => ⟨o, es, ep, base_of e (noA e d), d, r⟩
    have hKb : K.In (hidT s₁.heap H) := fun b o e => base_of (KX b o e) (by
      cases q : H b with
      | none => rfl
      | some u =>
        have e' : b = a := hA b (by rw [q]; simp)
        subst e'
        rw [hK (by rw [q]; simp)] at e; cases e)
    have hM : Mod K mg (hidT s₁.heap H) := ⟨hKb, nsK hns, ⟨mb, nsK hb, hbb⟩, let ⟨mc, h1, h2⟩ := hlim; ⟨mc, nsK h1, h2⟩⟩
    have e0 : Env0 P w K mg (hidT s₁.heap H) callerA [] s₁ H := ⟨rfl, hM, fun b o e => of_hidT e, Nat.le_of_eq (hidT_size _ _), trivial, fun b hb => absurd (show b ∈ ([] : List Addr) from hb) (by simp), hok, .of_eq hg⟩
    refine codeAny_mono ((F _ hKb (nsK hns)).run callerA [] s₁ H ⟨[.ref a], []⟩ [.ref a] [.ref a] _ _ hr e0 (hbind s₁ (.ref a)) (.cons rfl .nil) (hsp H hO hS)) fun r s' h => ?_
    cases r with
    | error e => exact (hCX H e s' h).elim
    | ok fl =>
      cases fl with
      | next => exact False.elim h
      | brk => exact False.elim h
      | cont => exact False.elim h
      | ret u =>
        obtain ⟨v, H', os, bare, un, hok', r', q⟩ := h
        have q' : v = .bl true := q
        subst q'
        obtain rfl : u = Value.bool true := r'
        refine ⟨rfl, OldK.of_keep fun b o e => ?_, os, bare⟩
        cases q : H b with
        | none => exact un.keep b o e q (by intro z; exact absurd (show b ∈ ([] : List Addr) from z) (by simp)) (by simp)
        | some u =>
          rcases hO b with z | ⟨ob, xs, z⟩
          · rw [q] at z; cases z
          · have z2 := un.frzs b ob _ z
            obtain ⟨e1, _⟩ := hok b _ z
            obtain ⟨e2, _⟩ := hok' b _ z2
            rw [e] at e1; cases e1
            exact e2
  cases hk : K.lookup a with
  | some o =>
    -- the script is one of the module's own objects
    have e := KX a o hk
    rw [ha] at e
    cases e
    refine core (fun _ => none) (fun _ => .inl rfl) (.inr ⟨_, vs.toArray, _, hk, rfl, rfl, rfl, by rw [List.size_toArray, lenV]; exact hl, by simpa using rv⟩) (fun b u z => by have z' : (none : Option HO) = some u := z; cases z') (fun b z => absurd rfl z) fun z => absurd rfl z
  | none =>
    refine core (fun b => if b = a then some (.frz { cls := .type "list", data := .seq vs.toArray } (.lst (ns.map V.int))) else none) (fun b => ?_) (.inl (.inr ⟨{ cls := .type "list", data := .seq vs.toArray }, if_pos rfl⟩)) (fun b u z => ?_) (fun b z => ?_) fun _ => hk
    · by_cases hb : b = a
      · exact .inr ⟨_, _, if_pos hb⟩
      · exact .inl (if_neg hb)
    · by_cases hb : b = a
      · have z' := (if_pos hb).symm.trans z
        cases z'
        subst hb
        exact ⟨ha, by rw [List.length_map]; exact hl, vs, _, rv, ha⟩
      · have z' := (if_neg hb).symm.trans z
        cases z'
    · by_cases hb : b = a
      · exact hb
      · exact absurd (if_neg hb) z
end L2

namespace L2
open PySem PySem.Spec PyProof.Rows

abbrev KOf {K : PySem.W.Frag} {h : Heap} (_ : K.In h) : PySem.W.Frag := K

/-- the goal that k_head leaves (case hc), from the law's promise. F gives the function object fd (K's own) once, then the promise over every base -/
theorem walk_of {l : PySem.W.OpenLaw} {n k : Nat} {q : Program} {loose : List Str} {XP : (Str → Option Value) → Heap → Prop} {YP : World → Heap → Prop} {d : DefRec} {K : Params → PySem.W.Frag} {CX : World → CXT} {sp : World → Sp} {x : Str}
    (hn : l.most = some n) (hn2 : n ≤ sizeLine) (hdf : d.params.defaults = []) (hr : Room k callerA)
    (hY : ∀ (w : World) (h : Heap), YP w h → (K w.params).In h)
    (F : ∀ (w : World) (mg : Str → Option Value) (fa : Addr) (h : Heap), (K w.params).In h → h.Ns mainGlobals mg → mg d.name = some (.ref fa) →
      ∃ fd : FuncData, (∀ (s : Shared) (u : Value), BindsTo s fd ⟨[u], []⟩ [(x, u)]) ∧
        ∀ base : Heap, (K w.params).In base → base.Ns mainGlobals mg → FnOk l.prog w (K w.params) mg base (CX w) k fa fd [x] (sp w))
    (hsp : ∀ (w : World) (H : Hp) (a : Addr) (ns : List Int), ns.length ≤ n → Only H → SqL (K w.params) H a (ns.map V.int) → sp w [.ref a] H (fun v _ => v = .bl true) fun _ _ _ => False)
    (hCX : ∀ (w : World) (H : Hp) (s : Shared) (e : Value) (s' : Shared), CX w [] H s (fun _ _ _ => False) e s' → False) :
    PySem.W.WalkO q loose XP YP l.row.toRowW d [] (fun f vs => PySem.call f vs) := by
  refine Att.attach_call hn hdf fun w s₀ s₁ mg mb fa o pm cd doc a vs ns G Y ho hd hcd hmg hobj hints hlen hg => ?_
  have KX := hY w _ Y
  obtain ⟨fd, hb, hF⟩ := F w mg fa _ KX G.T.g hmg
  exact law_call KX G.T.g G.T.b G.T.builtins G.T.nolimit hg hobj hints (Nat.le_trans hlen hn2) hr hF hb (fun H hO hS => hsp w H a ns hlen hO hS) fun H e s' => hCX w H s₁ e s'
/-- the same where the promise hangs on the written part alone: (sp := My.sp_law), no hole under a binder -/
theorem walk_ofK {l : PySem.W.OpenLaw} {n k : Nat} {q : Program} {loose : List Str} {XP : (Str → Option Value) → Heap → Prop} {YP : World → Heap → Prop} {d : DefRec} {K : Params → PySem.W.Frag} {CX : CXT} {sp : PySem.W.Frag → Sp} {x : Str}
    (hn : l.most = some n) (hn2 : n ≤ sizeLine) (hdf : d.params.defaults = []) (hr : Room k callerA)
    (hY : ∀ (w : World) (h : Heap), YP w h → (K w.params).In h)
    (F : ∀ (w : World) (mg : Str → Option Value) (fa : Addr) (h : Heap), (K w.params).In h → h.Ns mainGlobals mg → mg d.name = some (.ref fa) →
      ∃ fd : FuncData, (∀ (s : Shared) (u : Value), BindsTo s fd ⟨[u], []⟩ [(x, u)]) ∧
        ∀ base : Heap, (K w.params).In base → base.Ns mainGlobals mg → FnOk l.prog w (K w.params) mg base CX k fa fd [x] (sp (K w.params)))
    (hsp : ∀ (K : PySem.W.Frag) (H : Hp) (a : Addr) (ns : List Int), ns.length ≤ n → Only H → SqL K H a (ns.map V.int) → sp K [.ref a] H (fun v _ => v = .bl true) fun _ _ _ => False)
    (hCX : ∀ (H : Hp) (s : Shared) (e : Value) (s' : Shared), CX [] H s (fun _ _ _ => False) e s' → False) :
    PySem.W.WalkO q loose XP YP l.row.toRowW d [] (fun f vs => PySem.call f vs) :=
  walk_of (K := K) (CX := fun _ => CX) (sp := fun w => sp (K w.params)) hn hn2 hdf hr hY F (fun w H a ns h1 h2 h3 => hsp (K w.params) H a ns h1 h2 h3) fun _ H s e s' => hCX H s e s'
end L2

/- THE LAST THEOREM (shape; LID, My.* are yours):
   My.Adr: a structure of the addresses that your layer names (classes, functions); My.Txt K t: a structure (Prop) of the equations over K;
   My.txt_mk : {K} {implicit addresses ..} (e1 : nsIn K mainGlobals "law" = some (some (.ref f))) (e2 : K.lookup f = some ⟨oc, od, .func (fnOf "law" "law" params body scope dV kV doc pm an cdv ct), sl⟩) (e3 : codeIn K cdv "law" = true) .. : ∃ t, My.Txt K t

set_option maxRecDepth 100000 in
set_option maxHeartbeats 0 in
theorem PySem.Challenge.cw_LID_holds : PySem.Challenge.rw_LID.Holds := by
  w_on; o_law; k_head; (case hw => w_witness2)
  k_fill
  refine L2.walk_of (l := PySem.Challenge.rw_LID) (n := 63) (k := 40) (x := "script") (CX := fun w => ..) (sp := fun _ => My.sp_law) rfl (by decide) rfl ⟨rfl, by decide, by decide⟩ (fun w h Y => PySem.W.kIn_of Y) ?F ?S ?C
  case F =>
    intro w mg fa h KX G hmg
    have T : ∃ t, My.Txt (L2.KOf KX) t := by
      dsimp only [L2.KOf]                          -- K must stand as «<heap const> w.params» for k_is
      refine' My.txt_mk ?e1 ?e2 ?e3 ..
      (case e1 => PySem.W.k_is)                    -- in the order: a name -> its address -> its object -> its parts
      (case e2 => PySem.W.k_is)
      ..
    obtain ⟨t, T⟩ := T
    have e0 := hmg.symm.trans (PySem.W.mg_of KX G T.law)
    cases e0                                       -- fa is the law's own address
    exact ⟨_, fun s u => .of_eq rfl, fun base kb nb => My.law_fn T kb nb⟩     -- if «.of_eq rfl» comes too early: refine' ⟨_, ?b, fun base kb nb => My.law_fn T kb nb⟩; exact fun s u => .of_eq rfl
  case S => exact fun w H a ns hl hO hS => ..
  case C => exact ..
(the tactic k_is has no namespace: write k_is) -/

/-! SHORT WORDS over the layer: a def of the text, its body, what a loop and a test want. -/
namespace L2
open PySem PySem.Spec PyProof.Rows

/-! ### the text by places -/
/-- the j-th statement of a class's body -/
def inClass (s : Stmt) (j : Nat) : Stmt := match s with
  | .ClassDef _ _ _ body _ _ _ _ _ _ _ => body.getD j (.Pass ⟨0, 0, 0, 0⟩)
  | _ => .Pass ⟨0, 0, 0, 0⟩
def defArgs (s : Stmt) : Arguments := match s with
  | .FunctionDef _ a _ _ _ _ _ _ _ _ => a
  | _ => { posonlyargs := [], args := [], vararg := none, kwonlyargs := [], kw_defaults := [], kwarg := none, defaults := [] }
def defBody (s : Stmt) : List Stmt := match s with
  | .FunctionDef _ _ b _ _ _ _ _ _ _ => b
  | _ => []
def defScope (s : Stmt) : Scope := match s with
  | .FunctionDef _ _ _ _ _ _ sc _ _ _ => sc
  | _ => { kind := .function, names := [], isGenerator := false, isCoroutine := false }

/-! ### no exception leaves a def -/
abbrev CX0 : CXT := fun _ _ _ _ _ _ => False
abbrev E0 : XK := fun _ _ _ => False
theorem pass0 {X : Cx} : Passes CX0 X E0 := fun _ _ _ _ _ _ _ h => h.elim

/-! ### a def (or method) of the text as it stands behind the top -/
structure Fun (K : PySem.W.Frag) (x qual : Str) (st : Stmt) (f : Addr) (fd : FuncData) : Prop where
  ex : ∃ (oc : Value) (od : Option Addr) (kV doc pm : Value) (an : Option Addr) (cdv ct : Value) (osl : Array (Option Value)),
    fd = PySem.W.fnOf x qual (defArgs st) (defBody st) (defScope st) .none kV doc pm an cdv ct ∧ K.lookup f = some ⟨oc, od, .func fd, osl⟩ ∧ PySem.W.codeIn K cdv qual = true
  kp : PySem.W.keepIn K (.ref f) = true
section
variable {P : Program} {w : World} {K : PySem.W.Frag} {mg : Str → Option Value} {base : Heap}
/-- THE RULE for a def: its body as a term of rules, and the reading of that term -/
theorem Fun.ok {x qual : Str} {st : Stmt} {f : Addr} {fd : FuncData} {N ps : List Str} {k : Nat} {sp : Sp} (F : Fun K x qual st f fd) (S : FnScope N ps (defScope st)) (len : ∀ vs H Q E, sp vs H Q E → vs.length = ps.length)
    (hbody : ∀ (cdv : Value) (A : Around) (outer : List Env) (s : Shared) (H : Hp) (vs : List V) (Q : VK) (E : XK), Room k (A.deeper (envOfC qual (defScope st) s.heap.objs.size f cdv)) → sp vs H Q E →
      ∃ t, PSs (cxOf CX0 P w K mg base N qual (defScope st) f cdv A outer s H E).nox (defBody st) t ∧ t { nx := fun _ H' => Q .non H', rt := Q } (start N vs) H) : FnOk P w K mg base CX0 (k + 1) f fd ps sp := by
  obtain ⟨oc, od, kV, doc, pm, an, cdv, ct, osl, rfl, lk, hcd⟩ := F.ex
  refine fn_of lk hcd S len fun A outer s H vs Q E hr hsp => ?_
  obtain ⟨t, h, q⟩ := hbody cdv A outer s H vs Q E hr hsp
  exact ⟨t, h.nox, q⟩
/-- how its arguments bind (no defaults): h is «fun _ _ _ _ _ _ us hl => match us, hl with | [_, _], _ => rfl», one _ a parameter -/
theorem Fun.binds {x qual : Str} {st : Stmt} {f : Addr} {fd : FuncData} {ps : List Str} (F : Fun K x qual st f fd)
    (h : ∀ (kV doc pm : Value) (an : Option Addr) (cdv ct : Value) (us : List Value), us.length = ps.length → bindArgs (PySem.W.fnOf x qual (defArgs st) (defBody st) (defScope st) .none kV doc pm an cdv ct) ⟨us, []⟩ = pure (ps.zip us)) : Binds K fd ps [] := by
  obtain ⟨oc, od, kV, doc, pm, an, cdv, ct, osl, rfl, lk, hcd⟩ := F.ex
  exact .all (h kV doc pm an cdv ct)
theorem fun_mk {x qual : Str} {st : Stmt} {f : Addr} {oc : Value} {od an : Option Addr} {osl : Array (Option Value)} {kV doc pm cdv ct : Value} (l : K.lookup f = some ⟨oc, od, .func (PySem.W.fnOf x qual (defArgs st) (defBody st) (defScope st) .none kV doc pm an cdv ct), osl⟩)
    (c : PySem.W.codeIn K cdv qual = true) (k : PySem.W.keepIn K (.ref f) = true) : Fun K x qual st f (PySem.W.fnOf x qual (defArgs st) (defBody st) (defScope st) .none kV doc pm an cdv ct) := ⟨⟨oc, od, kV, doc, pm, an, cdv, ct, osl, rfl, l, c⟩, k⟩
end
theorem hu_of {A : Around} {k : Nat} (hr : Room k A) : A.units + 1 < cLine := Nat.lt_of_le_of_lt (Nat.add_le_add_left (by decide : 1 ≤ 64) _) hr.units
theorem small1000 {n : Nat} (h : n ≤ 1000) : n < sizeLine := Nat.lt_of_le_of_lt h (by decide)

/-! ### expressions in short: the name that stands in the i-th slot -/
section
variable {X : Cx}
theorem pv (i : Nat) {x : Str} {pos : Pos} (hN : X.N[i]? = some x := by rfl) (hv : Vis X.env.scope x := by first | exact Or.inl rfl | exact Or.inr (Or.inl rfl) | exact Or.inr (Or.inr rfl)) (hd : (x == ("__debug__" : Str)) = false := by decide)
    (hcd : (x == ("__classdict__" : Str)) = false := by decide) : PE X (.Name x pos) (tVar i) := pe_var hN hv hd hcd
end

/-! ### tests -/
theorem iteF {A B : Prop} (h : B) : if false = true then A else B := by
  rw [if_neg Bool.false_ne_true]
  exact h
theorem iteT {A B : Prop} (h : A) : if true = true then A else B := by
  rw [if_pos rfl]
  exact h
theorem ite2 {c A B : Prop} [Decidable c] (h1 : c → A) (h2 : ¬ c → B) : if c then A else B := by
  by_cases h : c
  · rw [if_pos h]
    exact h1 h
  · rw [if_neg h]
    exact h2 h
theorem iteNS {c A B : Prop} [Decidable c] (hc : c) (h : B) : if (!decide c) = true then A else B := by
  rw [decide_eq_true hc]
  exact iteF h

/-! ### heaps -/
/-- all that was tracked is as it was -/
def Same (H H' : Hp) : Prop := ∀ b o, H b = some o → H' b = some o
theorem Same.refl (H : Hp) : Same H H := fun _ _ h => h
theorem Same.trans {H H1 H2 : Hp} (a : Same H H1) (b : Same H1 H2) : Same H H2 := fun c o h => b c o (a c o h)
theorem Same.free {H H' : Hp} (e : Same H H') {l : Addr} (h : H' l = Option.none) : H l = Option.none := by
  cases q : H l with
  | none => rfl
  | some o =>
    rw [e l o q] at h
    cases h
theorem Same.seq {K : PySem.W.Frag} {H H' : Hp} {a : Addr} {xs : List V} (e : Same H H') (h : SqL K H a xs) : SqL K H' a xs := by
  rcases h with (h | ⟨o, h⟩) | h
  · exact .inl (.inl (e _ _ h))
  · exact .inl (.inr ⟨o, e _ _ h⟩)
  · exact .inr h

end L2

namespace Ext
open PySem PySem.Spec PyProof.Rows L2

/-! ### texts as lists of codes -/
def toL (x : Str) : List Nat := x.cps.toList
def ofL (l : List Nat) : Str := ⟨l.toArray⟩
theorem toL_ofL (l : List Nat) : toL (ofL l) = l := rfl
theorem ofL_toL (x : Str) : ofL (toL x) = x := rfl
theorem toL_len (x : Str) : (toL x).length = x.length := by simp [toL, Str.length]
theorem len_ofL (l : List Nat) : (ofL l).length = l.length := by simp [ofL, Str.length]
theorem toL_inj {x y : Str} (h : toL x = toL y) : x = y := by rw [← ofL_toL x, h, ofL_toL]
theorem ofL_inj {l m : List Nat} : ofL l = ofL m ↔ l = m := ⟨fun h => by rw [← toL_ofL l, h, toL_ofL], fun h => by rw [h]⟩
theorem toL_append (x y : Str) : toL (x ++ y) = toL x ++ toL y := by
  show (x.cps ++ y.cps).toList = _
  simp [toL]
theorem ofL_append (l m : List Nat) : ofL l ++ ofL m = ofL (l ++ m) := toL_inj (by rw [toL_append]; rfl)

/-! ### slices of a text -/
def cutN (l : List Nat) (lo hi : Option Int) : List Nat := (l.drop (HT.sIx l.length 0 lo)).take (HT.sIx l.length l.length hi - HT.sIx l.length 0 lo)
theorem picksF (l : List Nat) : ∀ (n a : Nat), a + n ≤ l.length → ((List.range n).map (fun k => a + k)).filterMap (l[·]?) = (l.drop a).take n
  | 0, _, _ => by simp
  | n + 1, a, h => by
    have hlt : a + n < l.length := by omega
    rw [List.range_succ, List.map_append, List.filterMap_append, picksF l n a (by omega), List.take_add_one, List.getElem?_drop]
    simp [List.getElem?_eq_getElem hlt]
theorem sIx_le (n d : Nat) (hd : d ≤ n) (o : Option Int) : HT.sIx n d o ≤ n := by
  cases o with
  | none => exact hd
  | some v =>
    show (if v < 0 then (v + (n : Int)).toNat else min v.toNat n) ≤ n
    split <;> omega
theorem clip_eq (n d : Nat) (o : Option Int) : (match o with
    | none => (d : Int)
    | some i => max 0 (min (if i < 0 then i + (n : Int) else i) (n : Int))) = ((HT.sIx n d o : Nat) : Int) := by
  cases o with
  | none => rfl
  | some v =>
    show max 0 (min (if v < 0 then v + (n : Int) else v) (n : Int)) = (((if v < 0 then (v + (n : Int)).toNat else min v.toNat n) : Nat) : Int)
    split <;> omega
theorem strSliceIx (lo hi : Option Int) (n : Nat) : Builtin.Str.strSliceIndices lo hi 1 n = (List.range (HT.sIx n n hi - HT.sIx n 0 lo)).map (fun k => HT.sIx n 0 lo + k) := by
  have h1 := clip_eq n 0 lo
  have h2 := clip_eq n n hi
  have e : Builtin.Str.strSliceIndices lo hi 1 n = sliceRange ((HT.sIx n 0 lo : Nat) : Int) ((HT.sIx n n hi : Nat) : Int) 1 := by
    rw [← h1, ← h2]
    unfold Builtin.Str.strSliceIndices
    simp only [show ((1 : Int) > 0) = True from by simp, if_true]
    cases lo <;> cases hi <;> rfl
  rw [e, sliceRange_one]
theorem slice_eq (x : Str) (lo hi : Option Int) : Txt.slice x lo hi = ofL (cutN (toL x) lo hi) := by
  have hl : (toL x).length = x.length := toL_len x
  have b1 := sIx_le x.length 0 (Nat.zero_le _) lo
  have b2 := sIx_le x.length x.length (Nat.le_refl _) hi
  unfold Txt.slice
  rw [strSliceIx]
  have p : ((List.range (HT.sIx x.length x.length hi - HT.sIx x.length 0 lo)).map (fun k => HT.sIx x.length 0 lo + k)).filterMap (x.cps[·]?) = cutN (toL x) lo hi := by
    have q := picksF (toL x) (HT.sIx x.length x.length hi - HT.sIx x.length 0 lo) (HT.sIx x.length 0 lo)
    unfold cutN
    rw [hl]
    by_cases h : HT.sIx x.length 0 lo ≤ HT.sIx x.length x.length hi
    · rw [← q (by rw [hl]; omega)]
      simp [toL]
    · have z : HT.sIx x.length x.length hi - HT.sIx x.length 0 lo = 0 := by omega
      rw [z]; simp
  split
  · rename_i h
    simp only [List.length_map, List.length_range, Bool.and_eq_true, beq_iff_eq] at h
    have z1 : HT.sIx x.length 0 lo = 0 := by omega
    have z2 : HT.sIx x.length x.length hi = x.length := by omega
    unfold cutN
    rw [hl, z1, z2, List.drop_zero, Nat.sub_zero, ← hl, List.take_length]
    rfl
  · rw [p]; rfl
theorem cutN_len (l : List Nat) (lo hi : Option Int) : (cutN l lo hi).length ≤ l.length := by
  unfold cutN
  rw [List.length_take, List.length_drop]; omega
theorem cut_ss (l : List Nat) {a b : Int} (ha : 0 ≤ a) (hab : 0 ≤ b) : cutN l (some a) (some b) = (l.drop a.toNat).take (b.toNat - a.toNat) := by
  obtain ⟨m, rfl⟩ : ∃ m : Nat, a = m := ⟨a.toNat, by omega⟩
  obtain ⟨n, rfl⟩ : ∃ n : Nat, b = n := ⟨b.toNat, by omega⟩
  unfold cutN
  rw [HT.sIx_nat, HT.sIx_nat]
  simp only [Int.toNat_natCast]
  by_cases h : m ≤ l.length
  · rw [Nat.min_eq_left h]
    by_cases h2 : n ≤ l.length
    · rw [Nat.min_eq_left h2]
    · rw [Nat.min_eq_right (show l.length ≤ n by omega)]
      rw [List.take_of_length_le (by rw [List.length_drop]; omega), List.take_of_length_le (by rw [List.length_drop]; omega)]
  · rw [Nat.min_eq_right (show l.length ≤ m by omega), List.drop_of_length_le (Nat.le_refl _), List.drop_of_length_le (show l.length ≤ m by omega)]; simp
theorem cut_sn (l : List Nat) {a : Int} (ha : 0 ≤ a) : cutN l (some a) none = l.drop a.toNat := by
  obtain ⟨m, rfl⟩ : ∃ m : Nat, a = m := ⟨a.toNat, by omega⟩
  unfold cutN
  rw [HT.sIx_nat, HT.sIx_none]
  simp only [Int.toNat_natCast]
  by_cases h : m ≤ l.length
  · rw [Nat.min_eq_left h, List.take_of_length_le (by rw [List.length_drop]; omega)]
  · rw [Nat.min_eq_right (by omega), List.drop_of_length_le (Nat.le_refl _), List.drop_of_length_le (by omega)]; simp
theorem cut_ns (l : List Nat) {b : Int} (hb : 0 ≤ b) : cutN l none (some b) = l.take b.toNat := by
  obtain ⟨n, rfl⟩ : ∃ n : Nat, b = n := ⟨b.toNat, by omega⟩
  unfold cutN
  rw [HT.sIx_nat, HT.sIx_none]
  simp only [Int.toNat_natCast, List.drop_zero, Nat.sub_zero]
  by_cases h : n ≤ l.length
  · rw [Nat.min_eq_left h]
  · rw [Nat.min_eq_right (by omega), List.take_length, List.take_of_length_le (by omega)]

section
variable {X : Cx}
def rSlS : V → Option Int → Option Int → Hp → VK → Prop := fun x lo hi H Q => ∃ z, x = .str z ∧ z.length ≤ sizeLine ∧ Q (.str (ofL (cutN (toL z) lo hi))) H
theorem sl_str : SlR X rSlS := by
  intro pins s σ H x v vl vu lo hi sl Q I rx hs pl pu h
  obtain ⟨z, rfl, hz, q⟩ := h
  obtain ⟨t, rfl⟩ := rx
  refine ⟨"str", _, slot_str_getitem.lookup, typeIs_str _ _ _, ?_⟩
  have fin : ∀ t' k, EP X pins σ Q (.str (Txt.slice z lo hi) t') { s with toks := k } := fun t' k => ⟨.str (ofL (cutN (toL z) lo hi)), H, I.tok _, ⟨t', by rw [slice_eq]⟩, q⟩
  have hle : (Txt.slice z lo hi).length ≤ sizeLine := Nat.le_trans (Txt.slice_le z _ _) hz
  cases pl with
  | none =>
    cases pu with
    | none => exact wpAny_getItem_str_slice (l := none) (u := none) (st := none) hs rfl (post_val_or_str ⟨hle, fin⟩)
    | int j u => exact wpAny_getItem_str_slice (l := none) (u := some (j, u)) (st := none) hs rfl (post_val_or_str ⟨hle, fin⟩)
  | int i t' =>
    cases pu with
    | none => exact wpAny_getItem_str_slice (l := some (i, t')) (u := none) (st := none) hs rfl (post_val_or_str ⟨hle, fin⟩)
    | int j u => exact wpAny_getItem_str_slice (l := some (i, t')) (u := some (j, u)) (st := none) hs rfl (post_val_or_str ⟨hle, fin⟩)

/-! ### a text times a number; texts compared; find -/
theorem op_le_str : OpR X (compareOp .LtE) (fun x y H Q => ∃ i j, x = .str i ∧ y = .str j ∧ Q (.bl (!decide (toL j < toL i))) H) := by
  intro pins s σ H x y v u Q I rx ry h
  obtain ⟨i, j, rfl, rfl, q⟩ := h
  obtain ⟨t, rfl⟩ := rx
  obtain ⟨t', rfl⟩ := ry
  exact PySem.P.le_str (fin_bl I q rfl)
theorem op_gt_str : OpR X (compareOp .Gt) (fun x y H Q => ∃ i j, x = .str i ∧ y = .str j ∧ Q (.bl (decide (toL j < toL i))) H) := by
  intro pins s σ H x y v u Q I rx ry h
  obtain ⟨i, j, rfl, rfl, q⟩ := h
  obtain ⟨t, rfl⟩ := rx
  obtain ⟨t', rfl⟩ := ry
  exact PySem.P.gt_str (fin_bl I q rfl)
theorem flat_fold (c : Array Nat) : ∀ (n : Nat) (a : Array Nat), ((List.replicate n c).foldl (· ++ ·) a).toList = a.toList ++ (List.replicate n c.toList).flatten
  | 0, a => by simp
  | n + 1, a => by
    rw [List.replicate_succ, List.foldl_cons, flat_fold c n, List.replicate_succ, List.flatten_cons, Array.toList_append, List.append_assoc]
def rep (l : List Nat) (n : Int) : List Nat := (List.replicate n.toNat l).flatten
theorem mul_eq (x : Str) (n : Int) : Txt.mul x n = ofL (rep (toL x) n) := by
  apply toL_inj
  rw [toL_ofL]
  unfold Txt.mul rep
  split
  · rename_i h
    have : n.toNat = 0 := by omega
    rw [this]; rfl
  · rename_i h
    split
    · rename_i h2
      simp only [Bool.or_eq_true, beq_iff_eq] at h2
      rcases h2 with rfl | h2
      · simp
      · have e : toL x = [] := List.length_eq_zero_iff.mp (by rw [toL_len]; exact h2)
        rw [e]; simp
    · show ((List.replicate n.toNat x.cps).foldl (· ++ ·) #[]).toList = _
      rw [flat_fold]; simp [toL]
theorem rep_len (l : List Nat) (n : Int) : (rep l n).length = n.toNat * l.length := by
  unfold rep
  rw [List.length_flatten, List.map_replicate, List.sum_replicate_nat]
theorem mulOk_small {x : Str} {n : Int} (hx : x.length ≤ 1000) (hn : n ≤ 1000) (hn0 : -1000 ≤ n) : MulOk x n := by
  refine ⟨?_, fun h1 _ => ?_, fun h1 _ => ?_⟩
  · have e1 : decide (n < -(2 ^ 63 : Int)) = false := decide_eq_false (by omega)
    have e2 : decide (n ≥ 2 ^ 63) = false := decide_eq_false (by omega)
    rw [e1, e2]; rfl
  · have h3 : (1000 : Int) ≤ (2 ^ 63 - 1) / n := by
      rw [Int.le_ediv_iff_mul_le (by omega)]
      omega
    omega
  · unfold Builtin.Str.tooLong
    have : x.length * n.toNat ≤ 1000 * 1000 := Nat.mul_le_mul hx (by omega)
    have hs : sizeLine = 16777216 := sizeLine_eq
    exact decide_eq_false (by omega)
theorem op_mul_str : OpR X (binaryOp .Mult) (fun x y H Q => ∃ z n, x = .str z ∧ y = .int n ∧ z.length ≤ 1000 ∧ (-1000 ≤ n ∧ n ≤ 1000) ∧ Q (.str (ofL (rep (toL z) n))) H) := by
  intro pins s σ H x y v u Q I rx ry h
  obtain ⟨z, n, rfl, rfl, hz, ⟨h1, h2⟩, q⟩ := h
  obtain ⟨t, rfl⟩ := rx
  obtain ⟨t', rfl⟩ := ry
  exact SB.mul (mulOk_small hz h2 h1) fun t' k => ⟨.str (ofL (rep (toL z) n)), H, I.tok _, ⟨t', by rw [mul_eq]⟩, q⟩
theorem mt_find : MtR X "str.find" (fun x xs H Q => ∃ z y, x = .str z ∧ xs = [.str y] ∧ Q (.int (Txt.find z y)) H) := by
  intro pins s σ H x xs v us Q I rx rs h
  obtain ⟨z, y, rfl, rfl, q⟩ := h
  obtain ⟨t, rfl⟩ := rx
  obtain ⟨u, rfl, t', rfl⟩ := vals1 rs
  exact SC.find ⟨.int _, H, I.tok _, ⟨_, rfl⟩, q⟩

/-! ### a text walked -/
def Its (z : Str) : It := ⟨fun i _ => i < z.length, fun i H x H' => H' = H ∧ ∃ c, (toL z)[i]? = some c ∧ x = .str (ofL [c]), fun i _ => z.length ≤ i⟩
theorem turn_str {P : Program} {w : World} {K : PySem.W.Frag} {tg : Expr} (it : Addr) (z : Str) (t : Tok) {T : String} (W : ∀ A : Around, A.handled = none → Walks P w A it [it] [it] z.cps.size (SignAt z) (fun i h => h.IsStrIter it T z t i))
    (hT : ["enumerate", "zip", "dict_itemiterator", "dict_reverseitemiterator", "odict_iterator", "itertools.zip_longest", "itertools.pairwise"].contains T = false)
    (hs : ∀ (A : Around) (i : Nat) (s : Shared) (Q : Value → Shared → Prop) (E : Value → Shared → Prop), s.heap.IsStrIter it T z t i → Q (.ref it) s → wpAny (model P w) A (pyIter (.ref it)) Q E s) :
    Turn P w K tg (Its z) [it] it (fun i h => i ≤ z.length ∧ h.IsStrIter it T z t i) where
  mem := by simp
  obj := fun i h st b hb => by
    have e : b = it := by simpa using hb
    subst e
    obtain ⟨_, o, e, c, d⟩ := st
    exact ⟨o, e, fun v z => by rw [d] at z; cases z⟩
  keep := fun i h h' st k => ⟨st.1, let ⟨o, e, r⟩ := st.2; ⟨o, k it (by simp) o e, r⟩⟩
  item := by
    intro X hP hw hK hc i pins s σ H E I hf st hg
    subst hP hw hK
    have hg' : i < z.length := hg
    obtain ⟨f0, f1, f2, f3, f4, f5⟩ := hf it (by simp)
    refine (W X.A (I.ok.hd hc)).item i s _ _ hg' st.2 fun v h' tk hv st' kk => ?_
    obtain ⟨c, u, hcx, rfl⟩ := hv
    have I1 : Inv X pins σ H { s with heap := h', toks := tk } := I.turned (fun b o hb e => kk b o (by simpa using hb) e) f0 f1 f3 f4 f5
    obtain ⟨o, e, cc, d⟩ := id st'
    exact ⟨_, rfl, go_of (s := { s with heap := h', toks := tk }) e cc d hT ⟨.str (ofL [c]), H, I1, ⟨u, rfl⟩, ⟨rfl, c, by simpa [toL] using hcx, rfl⟩, ⟨hg', st'⟩, fun b hb => (hf b hb).1⟩⟩
  done := by
    intro X hP hw hK hc i pins s σ H E I hf st hg
    subst hP hw hK
    have hg' : z.length ≤ i := hg
    have e : i = z.cps.size := by have := st.1; show i = z.length; omega
    subst e
    obtain ⟨f0, f1, f2, f3, f4, f5⟩ := hf it (by simp)
    exact (W X.A (I.ok.hd hc)).done s _ _ st.2 fun h' tk kk => ⟨rfl, I.turned (fun b o hb e => kk b o (by simpa using hb) e) f0 f1 f3 f4 f5⟩
  self := fun A i s Q E st h => hs A i s Q E st.2 h
def iStr (tl : TE) : TI := fun σ H R => tl σ H fun x H1 => ∃ z, x = .str z ∧ R (Its z) H1
theorem pi_str {tg l : Expr} {tl : TE} (hl : PE X l tl) : PI X tg l (iStr tl) := by
  intro pins s σ H R I h
  refine thn (hl pins s σ H _ I h) fun v s1 ⟨x, H1, I1, r1, q1⟩ => ?_
  obtain ⟨z, rfl, q⟩ := q1
  obtain ⟨t, rfl⟩ := r1
  have fp : ∀ (o : Obj) (b : Addr), b ∈ [s1.heap.objs.size] → FpOk X pins H1 b := fun o b hb => by
    have e : b = s1.heap.objs.size := by simpa using hb
    subst e
    exact I1.fpOk (Nat.le_refl _) (I1.hok.fresh (Nat.le_refl _))
  cases ha : z.cps.all (· < 128)
  · refine wpAny_pyIter_wide ha ?_
    refine ⟨s1.heap.objs.size, [s1.heap.objs.size], _, _, H1, rfl, I1.kept (t' := s1.toks) fun b o e => Heap.get?_push_of_some _ e, turn_str _ z t (T := "str_iterator") (fun A' hA => Walks.strWide hA _ z t) (by decide) (fun A i s Q E st h => wpAny_pyIter_striter_wide st h), ⟨Nat.zero_le _, _, Heap.get?_push_size _ rfl, rfl, rfl⟩, fun b hb => fp default b hb, q⟩
  · refine wpAny_pyIter_ascii ha ?_
    refine ⟨s1.heap.objs.size, [s1.heap.objs.size], _, _, H1, rfl, I1.kept (t' := s1.toks) fun b o e => Heap.get?_push_of_some _ e, turn_str _ z t (T := "str_ascii_iterator") (fun A' hA => Walks.strAscii hA _ z t) (by decide) (fun A i s Q E st h => wpAny_pyIter_striter_ascii st h), ⟨Nat.zero_le _, _, Heap.get?_push_size _ rfl, rfl, rfl⟩, fun b hb => fp default b hb, q⟩
theorem for_str {z : Str} {g : TG} {tb : TS} {D : Ends} {σ : L2.St} {H : Hp} (Pv : Nat → L2.St → Hp → Prop) (h0 : Pv 0 σ H)
    (hs : ∀ i c σ H, (toL z)[i]? = some c → Pv i σ H → g (.str (ofL [c])) σ H fun σ2 H2 => tb { D with nx := Pv (i + 1), ct := Pv (i + 1), bk := D.nx } σ2 H2) (hd : ∀ σ H, Pv z.length σ H → D.nx σ H) :
    ∃ W : Nat → Nat → L2.St → Hp → Prop, (∃ m, W 0 m σ H) ∧ ∀ i m σ H, W i m σ H →
      ((Its z).stop i H ∧ D.nx σ H) ∨ ((Its z).go i H ∧ ∃ N : L2.St → Hp → Prop, (∀ σ' H', N σ' H' → ∃ m', m' < m ∧ W (i + 1) m' σ' H') ∧ ∀ x H', (Its z).yld i H x H' → g x σ H' fun σ2 H2 => tb { D with nx := N, ct := N, bk := D.nx } σ2 H2) := by
  refine ⟨fun i m σ H => m = z.length - i ∧ i ≤ z.length ∧ Pv i σ H, ⟨z.length, by simp, Nat.zero_le _, h0⟩, ?_⟩
  rintro i m σ H ⟨rfl, hi, p⟩
  by_cases hlt : i < z.length
  · refine .inr ⟨hlt, Pv (i + 1), fun σ' H' p' => ⟨z.length - (i + 1), by omega, rfl, hlt, p'⟩, fun x H' y => ?_⟩
    obtain ⟨e, c, hc, ex⟩ := y
    subst e ex
    exact hs i c σ _ hc p
  · have e : i = z.length := by omega
    subst e
    exact .inl ⟨Nat.le_refl _, hd σ H p⟩

/-! ### an if whose ways meet: R holds where they do -/
def tIfJ (c : TT) (t u : TS) : TS := fun D σ H => ∃ R : L2.St → Hp → Prop, (∀ σ' H', R σ' H' → D.nx σ' H') ∧ c σ H fun b H1 => if b = true then t { D with nx := R } σ H1 else u { D with nx := R } σ H1
theorem ps_ifJ {c : Expr} {a b : List Stmt} {tc : TT} {t u : TS} {pos : Pos} (hc : PT X c tc) (ha : PSs X a t) (hb : PSs X b u) : PS X (.If c a b pos) (tIfJ tc t u) := by
  intro pins s σ H D I h
  obtain ⟨R, hR, h⟩ := h
  refine thn (ps_if hc ha hb pins s σ H { D with nx := R } I h) fun f s1 q => ?_
  cases f with
  | next =>
    obtain ⟨σ', H', I', q⟩ := q
    exact ⟨σ', H', I', hR σ' H' q⟩
  | ret v => exact q
  | brk => exact q
  | cont => exact q

/-! ### all([..]) -/
theorem call_all : CallR X (.builtin "all") (fun xs H Q => ∃ (p : Addr) (bs : List Bool), xs = [.ref p] ∧ SqL X.K H p (bs.map V.bl) ∧ X.calm = true ∧ Q (.bl (bs.all id)) H) := by
  intro pins s σ H xs us Q I r h
  obtain ⟨p, bs, rfl, hq, hc, q⟩ := h
  obtain ⟨u, rfl, rx⟩ := vals1 r
  cases rx
  obtain ⟨its, rv, pl, hz⟩ := I.list hq
  have hh := I.ok.hd hc
  have hl := pl.isList
  have hlt : p < s.heap.objs.size := by obtain ⟨_, e, _⟩ := hl; exact Heap.lt_size e
  have hlen : bs.length = its.length := by have := rv.length; rw [List.length_map] at this; exact this
  refine call_all_walk (wpAny_pyIter_list hl ?_)
  refine ⟨s.heap.objs.size, [s.heap.objs.size, p], [s.heap.objs.size], its.toArray.size, _, _, fun i => (bs[i]?).getD true, rfl, Walks.list (A := X.A.in1) hh _ p (Nat.ne_of_lt hlt) its.toArray,
    ⟨⟨_, Heap.get?_push_size _ rfl, rfl, rfl⟩, hl.push _⟩, fun i v s' Q' E' hP hQ => ?_, fun h' tk hk => ?_⟩
  · have hi : its[i]? = some v := by simpa using hP
    have hib : i < bs.length := by rw [hlen]; exact (List.getElem?_eq_some_iff.mp hi).1
    have e : (bs.map V.bl)[i]? = some (.bl bs[i]) := by rw [List.getElem?_map, List.getElem?_eq_getElem hib]; rfl
    obtain ⟨u, hu, ru⟩ := rv.get e
    rw [hi] at hu; cases hu
    cases ru
    simp only [List.getElem?_eq_getElem hib, Option.getD_some] at hQ
    exact wpAny_truthy_bool hQ
  · have e : ((List.range its.toArray.size).all fun i => (bs[i]?).getD true) = bs.all id := by
      rw [List.size_toArray, ← hlen]
      rw [Bool.eq_iff_iff]
      simp only [List.all_eq_true, List.mem_range, id]
      constructor
      · intro h b hb
        obtain ⟨i, hi, rfl⟩ := List.mem_iff_getElem.mp hb
        have := h i hi
        simpa [List.getElem?_eq_getElem hi] using this
      · intro h i hi
        simpa [List.getElem?_eq_getElem hi] using h _ (List.getElem_mem hi)
    rw [e]
    refine ⟨.bl (bs.all id), H, I.kept fun b o z => ?_, rfl, q⟩
    exact hk b o (fun hm => by rw [List.mem_singleton.mp hm] at z; exact Nat.lt_irrefl _ (Heap.lt_size z)) (Heap.get?_push_of_some _ z)

/-! ### isinstance by a built-in class -/
theorem call_isi : CallR X (.builtin "isinstance") (fun xs H Q => ∃ x T t b, xs = [x, .ty T] ∧ TyOf X.K H x t ∧ PySem.W.kitOne X.K t (.type T) = some b ∧ Q (.bl b) H) := by
  intro pins s σ H xs us Q I r h
  obtain ⟨x, T, t, b, rfl, ty, e, q⟩ := h
  obtain ⟨u, w', rfl, rx, rT⟩ := vals2 r
  cases rT
  exact isinst_ok I rx ty e fun tk => ⟨.bl b, H, I.tok _, rfl, q⟩

/-! ### list(text) -/
theorem call_list_text : CallR X (.type "list") (fun xs H Q => ∃ z : Str, xs = [V.str z] ∧ z.length ≤ sizeLine ∧ X.calm = true ∧ ∀ l, H l = none → Q (.ref l) (upd H l (.lst ((toL z).map fun c => V.str (ofL [c]))))) := by
  intro pins s σ H xs us Q I r h
  obtain ⟨z, rfl, hz, hc, q⟩ := h
  obtain ⟨u, rfl, t, rfl⟩ := vals1 r
  refine call_list_str (I.ok.hd hc) z t (fun h' tk acc' c' kp e it => ?_) hz
  have hv : Vals ((toL z).map fun c => V.str (ofL [c])) acc'.toList := by
    obtain ⟨hsz, hit⟩ := it
    have key : ∀ (l : List Nat) (vs : List Value), vs.length = l.length → (∀ (j : Nat) (v : Value), vs[j]? = some v → ∃ (c : Nat) (u : Tok), l[j]? = some c ∧ v = Value.str ⟨#[c]⟩ u) → Vals (l.map fun c => V.str (ofL [c])) vs := by
      intro l
      induction l with
      | nil => intro vs hl _; cases vs with
        | nil => exact .nil
        | cons _ _ => simp at hl
      | cons a l ih =>
        intro vs hl hv
        cases vs with
        | nil => simp at hl
        | cons v vs =>
          refine .cons ?_ (ih vs (by simpa using hl) fun j v' e => ?_)
          · obtain ⟨c, u, e1, e2⟩ := hv 0 v rfl
            simp at e1; subst e1
            exact ⟨u, e2⟩
          · have := hv (j + 1) v' (by simpa using e)
            simpa using this
    refine key (toL z) acc'.toList (by simp [toL, hsz]) fun j v e => ?_
    obtain ⟨c, u, e1, e2⟩ := hit j v (by simpa using e)
    exact ⟨c, u, by simpa [toL] using e1, e2⟩
  exact ⟨.ref s.heap.objs.size, _, I.laid kp (Nat.le_refl _) (show ObjOk X.prog X.w _ h' _ (.lst _) from ⟨by rw [List.length_map, toL_len]; exact hz, acc'.toList, c', hv, by simpa using e⟩), rfl, q _ (I.hok.fresh (Nat.le_refl _))⟩
end
end Ext

namespace Ext
open PySem PySem.Spec PyProof.Rows L2

/-! ### a list comprehension with one clause and at most one test -/
theorem nea {a b : Nat} (h : a < b ∨ b < a) : a ≠ b := fun e => by subst e; rcases h with h | h <;> exact Nat.lt_irrefl _ h
theorem eqa {a b : Addr} (h : a = b) : (a : Nat) = b := h
theorem lookup_of_mem {l : List (Str × Addr)} {x : Str} {c : Addr} (h : l.lookup x = some c) : (x, c) ∈ l := PySem.mem_of_lookup h
theorem closure_ok (scope : Scope) (env : Env) (h : ∀ y ∈ scope.names, y.2 = .free → ∃ c, env.cells.lookup y.1 = some c) :
    ∃ cl : List (Str × Addr), closureFor scope env = pure cl ∧ (∀ x c, cl.lookup x = some c → env.cells.lookup x = some c) ∧ (∀ y ∈ scope.names, y.2 = .free → ∃ c, cl.lookup y.1 = some c) := by
  have key : ∀ (ns : List (Str × NameKind)) (cs : List (Str × Addr)), (∀ y ∈ ns, y.2 = .free → ∃ c, env.cells.lookup y.1 = some c) → (∀ x c, cs.lookup x = some c → env.cells.lookup x = some c) →
      ∃ cl : List (Str × Addr), (forIn ns cs (fun (x : Str × NameKind) r => match x with
        | (name, kind) => if (kind == NameKind.free) = true then do let a ← cellOf env name; pure (ForInStep.yield ((name, a) :: r)) else pure (ForInStep.yield r)) : Sem (List (Str × Addr))) = pure cl ∧
        (∀ x c, cl.lookup x = some c → env.cells.lookup x = some c) ∧ (∀ y ∈ ns, y.2 = .free → ∃ c, cl.lookup y.1 = some c) ∧ (∀ x c, cs.lookup x = some c → ∃ c', cl.lookup x = some c') := by
    intro ns
    induction ns with
    | nil => intro cs _ hcs; exact ⟨cs, rfl, hcs, (fun y hy => absurd hy (by simp)), fun x c e => ⟨c, e⟩⟩
    | cons a ns ih =>
      intro cs hn hcs
      obtain ⟨name, kind⟩ := a
      by_cases hk : kind = .free
      · subst hk
        obtain ⟨c, hc⟩ := hn (name, .free) List.mem_cons_self rfl
        obtain ⟨cl, e, h1, h2, h3⟩ := ih ((name, c) :: cs) (fun y hy => hn y (List.mem_cons_of_mem _ hy)) (fun x c' e => by
          rw [List.lookup_cons] at e
          cases hx : x == name with
          | true => rw [hx] at e; cases e; rw [eq_of_beq hx]; exact hc
          | false => rw [hx] at e; exact hcs x c' e)
        refine ⟨cl, ?_, h1, fun y hy hf => ?_, fun x c' e => ?_⟩
        · rw [List.forIn_cons]
          have ec : cellOf env name = pure c := by unfold cellOf; rw [hc]
          simp only [beq_self_eq_true, if_true, ec]
          exact e
        · rcases List.mem_cons.mp hy with rfl | hy
          · exact h3 name c (by rw [List.lookup_cons, beq_self_eq_true])
          · exact h2 y hy hf
        · cases hx : x == name with
          | true => exact h3 x c (by rw [List.lookup_cons, hx])
          | false => exact h3 x c' (by rw [List.lookup_cons, hx]; exact e)
      · obtain ⟨cl, e, h1, h2, h3⟩ := ih cs (fun y hy => hn y (List.mem_cons_of_mem _ hy)) hcs
        have hb : (kind == NameKind.free) = false := by simpa using hk
        refine ⟨cl, ?_, h1, fun y hy hf => ?_, h3⟩
        · rw [List.forIn_cons]
          simp only [hb, Bool.false_eq_true, if_false]
          exact e
        · rcases List.mem_cons.mp hy with rfl | hy
          · exact absurd hf hk
          · exact h2 y hy hf
  obtain ⟨cl, e, h1, h2, _⟩ := key scope.names [] h (fun x c e => by simp at e)
  refine ⟨cl, ?_, h1, h2⟩
  unfold closureFor
  have e2 : (forIn scope.names ([] : List (Str × Addr)) (fun (x : Str × NameKind) r => match x with
        | (name, kind) => if (kind == NameKind.free) = true then do let a ← cellOf env name; pure (ForInStep.yield ((name, a) :: r)) else pure (ForInStep.yield r)) : Sem (List (Str × Addr))) = pure cl := e
  first
    | (rw [e2]; rfl)
    | (simp only [e2]; rfl)
    | (show (forIn scope.names ([] : List (Str × Addr)) _ >>= _) = _; rw [e2]; rfl)

/-- the names of the scope, as the block sees them -/
theorem relabel_lookup {scope : Scope} {env : Env} {x : Str} {k : NameKind} (h : (relabel scope env).names.lookup x = some k) :
    ∃ k', scope.names.lookup x = some k' ∧ (k = k' ∨ (k' = .free ∧ k = .cell)) := by
  have key : ∀ ns : List (Str × NameKind), (ns.map fun (n, k) => if (k == NameKind.free && env.scope.kind == .function && env.kindOf n == some .cell) then (n, NameKind.cell) else (n, k)).lookup x = some k →
      ∃ k', ns.lookup x = some k' ∧ (k = k' ∨ (k' = .free ∧ k = .cell)) := by
    intro ns
    induction ns with
    | nil => intro h; simp at h
    | cons a ns ih =>
      obtain ⟨n, kd⟩ := a
      intro h
      rw [List.map_cons] at h
      by_cases hc : (kd == NameKind.free && env.scope.kind == .function && env.kindOf n == some .cell) = true
      · have h' : List.lookup x ((n, NameKind.cell) :: ns.map fun (n, k) => if (k == NameKind.free && env.scope.kind == .function && env.kindOf n == some .cell) then (n, NameKind.cell) else (n, k)) = some k := by
          simpa only [hc, if_true] using h
        rw [List.lookup_cons] at h' ⊢
        cases hx : x == n with
        | true =>
          rw [hx] at h'; cases h'
          simp only [Bool.and_eq_true, beq_iff_eq] at hc
          exact ⟨kd, rfl, .inr ⟨hc.1.1, rfl⟩⟩
        | false => rw [hx] at h'; exact ih h'
      · have h' : List.lookup x ((n, kd) :: ns.map fun (n, k) => if (k == NameKind.free && env.scope.kind == .function && env.kindOf n == some .cell) then (n, NameKind.cell) else (n, k)) = some k := by
          simpa only [Bool.not_eq_true _ ▸ hc, Bool.false_eq_true, if_false] using h
        rw [List.lookup_cons] at h' ⊢
        cases hx : x == n with
        | true => rw [hx] at h'; cases h'; exact ⟨k, rfl, .inl rfl⟩
        | false => rw [hx] at h'; exact ih h'
  exact key scope.names h

/-- the block's context: N its names (its own first, then those that it reads from around) -/
def compCx (X : Cx) (scope : Scope) (N : List Str) (cl : List (Str × Addr)) (C : Addr) (s₀ : Shared) (H₀ : Hp) (ex : List Addr) : Cx where
  prog := X.prog
  w := X.w
  K := X.K
  mg := X.mg
  base := X.base
  A := X.A
  N := N
  s₀ := s₀
  H₀ := H₀
  env := compEnvC scope cl C X.env
  outer := X.stack
  stack := X.stack
  ex := ex
  fn := fun _ => false
  calm := X.calm
  pn := []
  xe := fun _ _ => False

/-- the block's slots at a turn's start: its own names are free, the others by their slots outside -/
def capSt (k : Nat) (caps : List Nat) (σ : L2.St) : L2.St := List.replicate k none ++ caps.map fun j => (σ[j]?).getD none

/-- what the scope of a block must be -/
structure CompScope (sc scope : Scope) (N N' : List Str) (k : Nat) (caps : List Nat) : Prop where
  kind : scope.kind = .function
  nocell : ∀ y ∈ scope.names, y.2 ≠ .cell
  loc : ∀ y ∈ scope.names, y.2 = .local → scope.names.lookup y.1 = some .local
  free : ∀ y ∈ scope.names, y.2 = .free → sc.names.lookup y.1 = some .cell
  len : N'.length = k + caps.length
  cap : ∀ i j, caps[i]? = some j → ∃ x, N[j]? = some x ∧ N'[k + i]? = some x ∧ scope.names.lookup x = some .free
/-- the same by computation -/
def capsOk (scope : Scope) (N N' : List Str) (k : Nat) (caps : List Nat) : Bool := (List.range caps.length).all fun i => match caps[i]? with
  | none => true
  | some j => match N[j]?, N'[k + i]? with
    | some x, some y => decide (x = y) && decide (scope.names.lookup x = some .free)
    | _, _ => false
theorem caps_of {scope : Scope} {N N' : List Str} {k : Nat} {caps : List Nat} (h : capsOk scope N N' k caps = true) : ∀ i j, caps[i]? = some j → ∃ x, N[j]? = some x ∧ N'[k + i]? = some x ∧ scope.names.lookup x = some .free := by
  intro i j hj
  have hi : i < caps.length := (List.getElem?_eq_some_iff.mp hj).1
  have q := (List.all_eq_true.mp h) i (List.mem_range.mpr hi)
  rw [hj] at q
  dsimp only at q
  cases e1 : N[j]? with
  | none => rw [e1] at q; cases q
  | some x =>
    cases e2 : N'[k + i]? with
    | none => rw [e1, e2] at q; cases q
    | some y =>
      rw [e1, e2] at q
      simp only [Bool.and_eq_true, decide_eq_true_eq] at q
      obtain ⟨rfl, q⟩ := q
      exact ⟨x, rfl, rfl, q⟩
theorem compScope_of {sc scope : Scope} {N N' : List Str} {k : Nat} {caps : List Nat} (h1 : scope.kind = .function) (h2 : (scope.names.all fun y => decide (y.2 ≠ .cell)) = true)
    (h3 : (scope.names.all fun y => decide (y.2 = .local → scope.names.lookup y.1 = some .local)) = true) (h4 : (scope.names.all fun y => decide (y.2 = .free → sc.names.lookup y.1 = some .cell)) = true)
    (h5 : N'.length = k + caps.length) (h6 : capsOk scope N N' k caps = true) : CompScope sc scope N N' k caps :=
  ⟨h1, fun y hy => of_decide_eq_true ((List.all_eq_true.mp h2) y hy), fun y hy => of_decide_eq_true ((List.all_eq_true.mp h3) y hy), fun y hy => of_decide_eq_true ((List.all_eq_true.mp h4) y hy), h5, caps_of h6⟩

/-- the turns of a comprehension: W the invariant by the turn and a measure, N what a turn is to reach -/
def CompW (J : It) (g : TG) (tc : TT) (te : TE) (σ₀ : L2.St) (H : Hp) (Q : VK) : Prop := ∃ W : Nat → Nat → List V → Hp → Prop, (∃ m, W 0 m [] H) ∧ ∀ i m ys H, W i m ys H →
  (J.stop i H ∧ ys.length ≤ sizeLine ∧ ∀ l, H l = none → Q (.ref l) (upd H l (.lst ys))) ∨
  (J.go i H ∧ ys.length < sizeLine ∧ ∃ N : List V → Hp → Prop, (∀ ys' H', N ys' H' → ∃ m', m' < m ∧ W (i + 1) m' ys' H') ∧ ∀ x H', J.yld i H x H' → g x σ₀ H' fun σ2 H2 => tc σ2 H2 fun b H3 => if b = true then te σ2 H3 fun y H4 => N (ys ++ [y]) H4 else N ys H3)
def tComp (k : Nat) (caps : List Nat) (wi : TI) (g : TG) (tc : TT) (te : TE) : TE := fun σ H Q => wi σ H fun J H1 => CompW J g tc te (capSt k caps σ) H1 Q
def tYes : TT := fun _ H Q => Q true H

section
variable {X : Cx}
/-- the test of a clause: none, or one -/
def PIfs (X : Cx) (ifs : List Expr) (t : TT) : Prop := (ifs = [] ∧ t = tYes) ∨ ∃ c, ifs = [c] ∧ PT X c t
theorem pif0 : PIfs X [] tYes := .inl ⟨rfl, rfl⟩
theorem pif1 {c : Expr} {t : TT} (h : PT X c t) : PIfs X [c] t := .inr ⟨c, rfl, h⟩

theorem compLoop_any {prog : Program} {w : World} {A : Around} {s : Shared} {R : Result → Shared → Prop} {elt target iter : Expr} {ifs : List Expr} {scope : Scope} {pos : Pos} {it acc : Value} {env : Env} (I : Nat → Shared → Prop)
    (turn : ∀ n s, I n s → wpAny (model prog w) A (pyNext it) (fun r s₁ => match r with
      | none => R (.ok .next) s₁
      | some v => wpAny (model prog w) A (letOwnedTupleGo target it v) (fun _ s₁' => wpAny (model prog w) A (assign target env v) (fun _ s₂ =>
          wpAny (model prog w) A (forIn ifs true fun c r => if r = true then do let ok ← isTrue c env (eval c env); pure (ForInStep.yield ok) else pure (ForInStep.yield r)) (fun ok s₃ =>
            if ok = true then wpAny (model prog w) A (eval elt env) (fun x s₄ =>
              wpAny (model prog w) A (call (.builtin "list.append") [acc, x]) (fun _ s₅ => ∃ m, m < n ∧ I m s₅) (notedBy (model prog w) A env fun e s' => R (.error e) s') s₄) (notedBy (model prog w) A env fun e s' => R (.error e) s') s₃
            else ∃ m, m < n ∧ I m s₃) (notedBy (model prog w) A env fun e s' => R (.error e) s') s₂) (notedBy (model prog w) A env fun e s' => R (.error e) s') s₁') (notedBy (model prog w) A env fun e s' => R (.error e) s') s₁) (notedBy (model prog w) A env fun e s' => R (.error e) s') s)
    (n : Nat) (h : I n s) :
    codeAny (model prog w) A (.compLoop (.ListComp elt [⟨target, iter, ifs, 0⟩] scope pos) 0 it acc env) R s := by
  refine codeAny_loop rfl I (fun n s hI => ?_) n h
  show wpAny _ A ((compTurn (.ListComp elt [⟨target, iter, ifs, 0⟩] scope pos) 0 it acc env).onRaise (fun x => do noteFrame x env; theTreesLotGoes x)) _ _ s
  refine wpAny_noted ?_
  rw [compTurn_list]
  refine wpAny_bind (wpAny_standAt (wpAny_bind (wpAny_mono (turn n s hI) (fun r s₁ h₁ => ?_) fun _ _ h' => h')))
  cases r with
  | none => exact wpAny_pure h₁
  | some v =>
    refine wpAny_bind (wpAny_mono h₁ (fun _ s₁' h₁' => ?_) fun _ _ h' => h')
    refine wpAny_bind (wpAny_mono h₁' (fun _ s₂ h₂ => wpAny_bind (wpAny_mono h₂ (fun ok s₃ h₃ => ?_) fun _ _ h' => h')) fun _ _ h' => h')
    cases ok with
    | false => exact wpAny_pure ⟨rfl, h₃⟩
    | true =>
      exact wpAny_bind (wpAny_bind (wpAny_mono h₃ (fun x s₄ h₄ => wpAny_bind (wpAny_mono h₄ (fun _ s₅ h₅ => wpAny_pure (wpAny_pure ⟨rfl, h₅⟩)) fun _ _ h' => h')) fun _ _ h' => h'))

theorem capSt_len (k : Nat) (caps : List Nat) (σ : L2.St) : (capSt k caps σ).length = k + caps.length := by simp [capSt]
theorem capSt_get {k : Nat} {caps : List Nat} {σ : L2.St} {i : Nat} {v : V} (h : (capSt k caps σ)[i]? = some (some v)) : ∃ i' j, i = k + i' ∧ caps[i']? = some j ∧ σ[j]? = some (some v) := by
  unfold capSt at h
  by_cases hi : i < k
  · rw [List.getElem?_append_left (by simpa using hi), List.getElem?_replicate, if_pos hi] at h; cases h
  · rw [List.getElem?_append_right (by simpa using hi), List.length_replicate, List.getElem?_map] at h
    cases e : caps[i - k]? with
    | none => rw [e] at h; cases h
    | some j =>
      rw [e] at h
      have h' : (σ[j]?).getD none = some v := Option.some.inj h
      refine ⟨i - k, j, by omega, e, ?_⟩
      cases q : σ[j]? with
      | none => rw [q] at h'; cases h'
      | some o => rw [q] at h'; exact congrArg some h'

/-- the targets store below k alone -/
def Rl (k : Nat) (σ₀ σ : L2.St) : Prop := σ.length = σ₀.length ∧ ∀ i, k ≤ i → σ[i]? = σ₀[i]?
theorem Rl.refl (k : Nat) (σ : L2.St) : Rl k σ σ := ⟨rfl, fun _ _ => rfl⟩
def GK (k : Nat) (g : TG) : Prop := ∀ (σ₀ σ : L2.St) (x : V) (H : Hp) (Q : L2.St → Hp → Prop), Rl k σ₀ σ → g x σ H Q → g x σ H fun σ2 H2 => Rl k σ₀ σ2 ∧ Q σ2 H2
def GKs (k : Nat) (g : TGs) : Prop := ∀ (σ₀ σ : L2.St) (xs : List V) (H : Hp) (Q : L2.St → Hp → Prop), Rl k σ₀ σ → g xs σ H Q → g xs σ H fun σ2 H2 => Rl k σ₀ σ2 ∧ Q σ2 H2
theorem gk_name {k i : Nat} (h : i < k) : GK k (gName i) := fun σ₀ σ x H Q r q => ⟨⟨by rw [List.length_set]; exact r.1, fun j hj => by rw [List.getElem?_set_ne (by omega)]; exact r.2 j hj⟩, q⟩
theorem gks_nil {k : Nat} : GKs k gNil := fun σ₀ σ xs H Q r q => ⟨q.1, r, q.2⟩
theorem gks_cons {k i : Nat} {u : TGs} (h : i < k) (h2 : GKs k u) : GKs k (gCons (gName i) u) := fun σ₀ σ xs H Q rl q => by
  obtain ⟨v, r, e, q⟩ := q
  have h1 := gk_name h σ₀ σ v H (fun σ1 H1 => u r σ1 H1 Q) rl q
  exact ⟨v, r, e, h2 σ₀ _ r H Q h1.1 h1.2⟩
theorem gk_tup {K : PySem.W.Frag} {k n : Nat} {t : TGs} (h : GKs k t) : GK k (gTup K n t) := fun σ₀ σ x H Q rl q => by
  obtain ⟨a, xs, e, hq, hl, q⟩ := q
  exact ⟨a, xs, e, hq, hl, h σ₀ σ _ _ _ rl q⟩

/-- what a block leaves: the list at D, the outer invariant with the block's own namespace still there -/
def CompEnds (X : Cx) (pins : List (Addr × Obj)) (σ : L2.St) (Q : VK) (acc : Value) (C : Addr) (s' : Shared) : Prop :=
  ∃ D H', acc = .ref D ∧ Inv X pins σ H' s' ∧ FpOk X pins H' C ∧ (∃ m, s'.heap.Ns C m) ∧ Q (.ref D) H'

theorem comp_core {tg iter elt : Expr} {ifs : List Expr} {scope : Scope} {pos : Pos} {N' : List Str} {k : Nat} {caps : List Nat} {wi : TI} {g : TG} {tc : TT} {te : TE} {cl : List (Str × Addr)}
    {pins : List (Addr × Obj)} {s : Shared} {σ : L2.St} {H : Hp} {Q : VK} {E : Value → Shared → Prop} {RR : Value → Addr → Result → Shared → Prop}
    (hc : X.calm = true) (S : CompScope X.env.scope scope X.N N' k caps) (hi : PI X tg iter wi)
    (hgk : GK k g) (hin : ∀ cl C s₀ H₀ ex, PG (compCx X scope N' cl C s₀ H₀ ex) tg g ∧ PIfs (compCx X scope N' cl C s₀ H₀ ex) ifs tc ∧ PE (compCx X scope N' cl C s₀ H₀ ex) elt te)
    (hcl1 : ∀ x c, cl.lookup x = some c → X.env.cells.lookup x = some c) (hcl2 : ∀ y ∈ scope.names, y.2 = .free → ∃ c, cl.lookup y.1 = some c)
    (I : Inv X pins σ H s) (h : tComp k caps wi g tc te σ H Q) (hxe : ∀ e s', X.xe e s' → E e s') (hE : ∀ v C s', CompEnds X pins σ Q v C s' → RR v C (.ok .next) s') :
    wpAny (model X.prog X.w) X.A (eval iter X.env) (fun x s₁ => wpAny (model X.prog X.w) X.A (pyIter x) (fun it s₂ => wpAny (model X.prog X.w) X.A (newList []) (fun acc s₃ =>
      wpAny (model X.prog X.w) X.A (newFunctionEnv scope X.env.globals cl [] X.env.qual none .none (some X.env)) (fun cenv s₄ =>
        codeAny (model X.prog X.w) X.A (.compStart (.ListComp elt [⟨tg, iter, ifs, 0⟩] scope pos) 0 it acc { cenv with scope := relabel scope X.env }) (RR acc cenv.locals) s₄) E s₃) E s₂) E s₁) E s := by
  refine wpAny_mono (hi pins s σ H _ I h) (fun v s1 h1 => wpAny_mono h1 (fun itv s2 h2 => ?_) hxe) hxe
  obtain ⟨it, fp, tn, J, H2, rfl, I2, T, st2, f2, W, ⟨m0, w0⟩, turn⟩ := h2
  refine wpAny_newObj_type (wpAny_newFunctionEnv S.nocell (by intro y hy; simp at hy) (fun h₁ hns₁ hsb₁ => ?_) S.kind)
  dsimp only at hns₁ hsb₁ ⊢
  -- the state with the new list
  generalize hs3 : ({ s2 with heap := s2.heap.push { cls := .type "list", dict := none, data := .seq ([] : List Value).toArray } } : Shared) = s3 at *
  have hH3 : s3.heap = s2.heap.push { cls := .type "list", dict := none, data := .seq ([] : List Value).toArray } := by rw [← hs3]
  rw [← hH3] at hns₁ hsb₁ ⊢
  have I3 : Inv X pins σ H2 s3 := by rw [← hs3]; exact I2.kept (t' := s2.toks) fun b o e => Heap.get?_push_of_some _ e
  have hC : s3.heap.objs.size = s2.heap.objs.size + 1 := by rw [hH3, Heap.size_push]
  generalize hDd : s2.heap.objs.size = D at *
  generalize hCd : s3.heap.objs.size = C at *
  have hDltC : (D : Nat) < C := by omega
  have hDC : D ≠ C := nea (.inl hDltC)
  have hDo : s3.heap.get? D = some { cls := .type "list", dict := none, data := .seq ([] : List Value).toArray } := by
    rw [hH3, ← hDd]; exact Heap.get?_push_size _ rfl
  have old : ∀ b o, s3.heap.get? b = some o → h₁.get? b = some o := fun b o e => hsb₁.extBut b o (nea (.inl (hCd ▸ Heap.lt_size e))) (Heap.get?_push_of_some _ e)
  have fpLt : ∀ b ∈ fp, b < D := fun b hb => by
    obtain ⟨o, e, _⟩ := T.obj _ _ st2 b hb
    rw [← hDd]; exact Heap.lt_size e
  have fr : ∀ a, D ≤ a → H2 a = none := fun a ha => I2.hok.fresh (by rw [hDd]; exact ha)
  have cellLt : ∀ x c, X.env.cells.lookup x = some c → c < D := fun x c e => by
    obtain ⟨v, o, ho, _⟩ := I2.cell x c e
    rw [← hDd]; exact Heap.lt_size ho
  have locLt : X.env.locals < D := by rw [← hDd]; exact I2.lt
  have nofsD : ∀ a, D ≤ a → a ∉ X.fs := fun a ha => I2.nofs (by rw [hDd]; exact ha)
  -- the block's context
  have okY : (compCx X scope N' cl C s3 H2 (D :: fp)).Ok := by
    refine ⟨I2.ok.mod, S.kind, I2.ok.glob, I2.ok.blt, ?_, fun x y c e1 e2 => I2.ok.inj x y c (hcl1 x c e1) (hcl1 y c e2), fun x hx => ?_, fun x c e _ => (by cases e), I2.ok.hd, I2.ok.frames, .inl rfl, fun b hb => ?_, fun b o e => ?_, ?_, fun b o e hb => ?_, fun b hb hz => ?_, I3.stack, I3.stkFree⟩
    · show s3.heap.objs.size ≤ C
      rw [hCd]; exact Nat.le_refl _
    · have hx' : (relabel scope X.env).names.lookup x = some .cell ∨ (relabel scope X.env).names.lookup x = some .free := hx
      have key : ∃ kk, scope.names.lookup x = some kk ∧ kk = .free := by
        rcases hx' with q | q
        · obtain ⟨k', e, r⟩ := relabel_lookup q
          rcases r with r | r
          · exact absurd r.symm (S.nocell _ (PySem.mem_of_lookup e))
          · exact ⟨k', e, r.1⟩
        · obtain ⟨k', e, r⟩ := relabel_lookup q
          rcases r with r | r
          · exact ⟨k', e, r.symm⟩
          · exact absurd r.2 (by decide)
      obtain ⟨kk, e, rfl⟩ := key
      exact hcl2 (x, .free) (PySem.mem_of_lookup e) rfl
    · rcases List.mem_cons.mp hb with rfl | hb
      · exact ⟨hDC, fun x c e => Nat.ne_of_lt (cellLt x c (hcl1 x c e))⟩
      · refine ⟨?_, fun x c e => (f2 b hb).2.2.2.2.1 x c (hcl1 x c e)⟩
        exact nea (.inl (Nat.lt_trans (fpLt b hb) hDltC))
    · exact ⟨(I3.bs b o e).1, (I3.bs b o e).2⟩
    · exact Nat.le_trans I3.ok.bsz I3.sz
    · have e' : X.base.get? b = some o := e
      rcases List.mem_cons.mp hb with rfl | hb
      · have h1 := Heap.lt_size (I2.bs b o e').1
        rw [hDd] at h1
        exact absurd h1 (Nat.lt_irrefl _)
      · rcases (f2 b hb).2.2.2.1 with z | z
        · exact I2.ok.noex b o e' z
        · exact absurd (Nat.lt_of_lt_of_le (Heap.lt_size e') (Nat.le_trans I2.ok.bsz z)) (Nat.lt_irrefl _)
    · have hz' : b ∈ frs X.stack := hz
      rcases List.mem_cons.mp (I2.stkSub b hz') with e | e
      · rcases List.mem_cons.mp hb with rfl | hb
        · exact nea (.inr locLt) e
        · exact (f2 b hb).2.1 e
      · rcases List.mem_cons.mp hb with rfl | hb
        · exact nofsD b (Nat.le_refl _) e
        · exact (f2 b hb).2.2.1 e
  obtain ⟨hG, hT, hEl⟩ := hin cl C s3 H2 (D :: fp)
  generalize hY : compCx X scope N' cl C s3 H2 (D :: fp) = Y at *
  have yenv : Y.env = compEnvC scope cl C X.env := by rw [← hY]; rfl
  have yloc : Y.env.locals = C := by rw [yenv]; rfl
  have ycell : Y.env.cells = cl := by rw [yenv]; rfl
  have ys0 : Y.s₀ = s3 := by rw [← hY]; rfl
  have yH0 : Y.H₀ = H2 := by rw [← hY]; rfl
  have yex : Y.ex = D :: fp := by rw [← hY]; rfl
  have yfs : Y.fs = frs X.stack := by rw [← hY]; rfl
  have ypn : Y.pn = [] := by rw [← hY]; rfl
  have yN : Y.N = N' := by rw [← hY]; rfl
  have yA : Y.A = X.A := by rw [← hY]; rfl
  have yp : Y.prog = X.prog := by rw [← hY]; rfl
  have yw : Y.w = X.w := by rw [← hY]; rfl
  have yK : Y.K = X.K := by rw [← hY]; rfl
  have yc : Y.calm = true := by rw [← hY]; exact hc
  have yxe : ∀ e s', Y.xe e s' → False := by rw [← hY]; exact fun _ _ z => z
  -- the block's invariant at the start
  have I4 : Inv Y [] (capSt k caps σ) H2 { s3 with heap := h₁, toks := s3.toks + ([] : List (Str × Value)).length } := by
    refine ⟨okY, by rw [ys0], I3.bare, by rw [ys0, yH0]; exact Un.kept old, ⟨_, by rw [yloc]; exact hns₁, fun i x v e1 e2 e3 => ?_⟩, fun x c e => ?_, by rw [yloc]; exact fr C (by omega), fun x c e => ?_, fun p hp => ?_, ?_, ?_⟩
    · rw [yN] at e1
      obtain ⟨i', j, rfl, hj, hv⟩ := capSt_get e2
      obtain ⟨y, y1, y2, y3⟩ := S.cap i' j hj
      rw [y2] at e1; cases e1
      have hfree : (x, NameKind.free) ∈ scope.names := PySem.mem_of_lookup y3
      obtain ⟨c, hc1⟩ := hcl2 _ hfree rfl
      have hcx := hcl1 _ c hc1
      obtain ⟨m, hn, hl⟩ := I3.loc
      have hcellk : X.env.scope.names.lookup x = some .cell := S.free _ hfree rfl
      obtain ⟨u, r, l⟩ := hl j x v y1 hv (.inr (.inl hcellk))
      refine ⟨u, r, .inr ⟨?_, c, by rw [ycell]; exact hc1, ?_⟩⟩
      · rw [yenv]
        have e3' : Vis (relabel scope X.env) x := by rw [yenv] at e3; exact e3
        rcases e3' with q | q | q
        · obtain ⟨k', e, r'⟩ := relabel_lookup q
          rw [y3] at e; cases e
          rcases r' with r' | r'
          · cases r'
          · exact absurd r'.2 (by decide)
        · exact .inl q
        · exact .inr q
      · rcases l with ⟨q, _⟩ | ⟨_, c', e, z⟩
        · have q' : X.env.scope.names.lookup x = some .local := q
          rw [hcellk] at q'; cases q'
        · rw [hcx] at e; cases e
          obtain ⟨o, ho, hd⟩ := z
          exact ⟨o, old _ _ ho, hd⟩
    · rw [ycell] at e
      obtain ⟨v, o, ho, hd⟩ := I3.cell x c (hcl1 x c e)
      exact ⟨v, o, old _ _ ho, hd⟩
    · rw [ycell] at e
      exact I3.freeC x c (hcl1 x c e)
    · rw [ypn] at hp; simp at hp
    · rw [yp, yw]; exact I3.hok.kept old
    · rw [capSt_len, yN, S.len]
  have stF : ∀ {H' : Hp}, (∀ b ∈ fp, H' b = none) → ∀ b ∈ fp, FpOk Y [] H' b := fun hn b hb => by
    refine ⟨hn b hb, ?_, ?_, .inl (by rw [yex]; exact List.mem_cons_of_mem _ hb), fun x c e => ?_, fun p hp => ?_⟩
    · rw [yloc]; exact nea (.inl (Nat.lt_trans (fpLt b hb) hDltC))
    · rw [yfs]; intro z
      rcases List.mem_cons.mp (I2.stkSub b z) with e | e
      · exact (f2 b hb).2.1 e
      · exact (f2 b hb).2.2.1 e
    · rw [ycell] at e; exact (f2 b hb).2.2.2.2.1 x c (hcl1 x c e)
    · rw [ypn] at hp; simp at hp
  have stD : ∀ {H' : Hp}, H' D = none → FpOk Y [] H' D := fun hn => by
    refine ⟨hn, by rw [yloc]; exact hDC, ?_, .inl (by rw [yex]; exact List.mem_cons_self), fun x c e => ?_, fun p hp => ?_⟩
    · rw [yfs]; intro z
      rcases List.mem_cons.mp (I2.stkSub D z) with e | e
      · exact nea (.inr locLt) e
      · exact nofsD D (Nat.le_refl _) e
    · rw [ycell] at e; exact Nat.ne_of_lt (cellLt x c (hcl1 x c e))
    · rw [ypn] at hp; simp at hp
  -- the end of the loop
  have fin : ∀ (σ' : L2.St) (H' : Hp) (s' : Shared) (ys : List V) (its : List Value) (n : Nat), Inv Y [] σ' H' s' → H' D = none → s'.heap.get? D = some { cls := .type "list", data := .seq its.toArray n } → Vals ys its → ys.length ≤ sizeLine →
      (∀ l, H' l = none → Q (.ref l) (upd H' l (.lst ys))) → CompEnds X pins σ Q (.ref D) C s' := by
    intro σ' H' s' ys its n IY hDn hDo' rv hz q
    have un := IY.base
    rw [ys0, yH0, yex, yfs] at un
    have nC : H' C = none := by have := IY.free; rw [yloc] at this; exact this
    have hok' : HOk X.prog X.w (upd H' D (.lst ys)) s'.heap := fun b u e => by
      by_cases hb : b = D
      · subst hb
        rw [upd_same] at e; cases e
        exact ⟨hz, its, n, rv, hDo'⟩
      · rw [upd_ne hb] at e
        have ok0 := IY.hok b u e
        rw [yp, yw] at ok0
        refine ok0.stay (fun c v _ e => e) (fun c e => by rw [upd_ne (ne_of_none e hDn)]; exact e) (fun c xs e => by rw [upd_ne (ne_of_none e hDn)]; exact e)
    have un' : Un (frs X.stack) (D :: fp) H2 (upd H' D (.lst ys)) s3.heap s'.heap := by
      refine ⟨un.keep, un.slot, fun b o e nb hx => ?_, un.there, fun b xs e => ?_, fun b o u e => ?_, fun b ps e => ?_⟩
      · rw [upd_ne (fun z => hx (by rw [z]; exact List.mem_cons_self))]; exact un.free b o e nb hx
      · have z := un.tups b xs e; rw [upd_ne (ne_of_none z hDn)]; exact z
      · have z := un.frzs b o u e; rw [upd_ne (ne_of_none z hDn)]; exact z
      · obtain ⟨more, z⟩ := un.tbls b ps e; exact ⟨more, by rw [upd_ne (ne_of_none z hDn)]; exact z⟩
    have IX : Inv X pins σ (upd H' D (.lst ys)) s' := by
      refine I3.call' (ch := D :: fp) ?_ un' hok' IY.bare fun b hb => ?_
      · have := IY.os; rw [ys0] at this; exact this
      · rcases List.mem_cons.mp hb with rfl | hb
        · refine ⟨.inr ?_, nea (.inr locLt), fun x c e => Nat.ne_of_lt (cellLt x c e), fun p hp => ?_⟩
          · rw [← hDd]; exact I2.sz
          · have := Heap.lt_size (I2.pin p hp).1
            rw [hDd] at this
            exact Nat.ne_of_lt this
        · obtain ⟨_, a1, _, a3, a4, a5⟩ := f2 b hb
          exact ⟨a3, a1, a4, a5⟩
    have nsC : ∃ m, s'.heap.Ns C m := by
      obtain ⟨m, hn, _⟩ := IY.loc
      rw [yloc] at hn
      exact ⟨m, hn⟩
    refine ⟨D, upd H' D (.lst ys), rfl, IX, ⟨by rw [upd_ne (Ne.symm hDC)]; exact nC, nea (.inr (Nat.lt_trans locLt hDltC)), nofsD C (show (D : Nat) ≤ C by omega), .inr ?_, fun x c e => ?_, fun p hp => ?_⟩, nsC, q D hDn⟩
    · have := I2.sz; rw [hDd] at this; omega
    · exact nea (.inl (Nat.lt_trans (cellLt x c e) hDltC))
    · have := Heap.lt_size (I2.pin p hp).1
      rw [hDd] at this
      exact nea (.inl (Nat.lt_trans this hDltC))
  have loop : ∀ s₃ : Shared, s₃ = { s3 with heap := h₁, toks := s3.toks + ([] : List (Str × Value)).length } →
      codeAny (model X.prog X.w) X.A (.compLoop (.ListComp elt [⟨tg, iter, ifs, 0⟩] scope pos) 0 (.ref it) (.ref D) (compEnvC scope cl C X.env)) (RR (.ref D) C) s₃ := by
    rintro s₃ rfl
    refine compLoop_any (fun n s' => ∃ i H' ys its c, Inv Y [] (capSt k caps σ) H' s' ∧ tn i s'.heap ∧ (∀ b ∈ fp, H' b = none) ∧ H' D = none ∧ s'.heap.get? D = some { cls := .type "list", data := .seq its.toArray c } ∧ Vals ys its ∧ W i n ys H') ?_ m0
      ⟨0, H2, [], [], 0, I4, T.keep _ _ _ st2 (fun b _ o e => old b o (by rw [hH3]; exact Heap.get?_push_of_some _ e)), fun b hb => (f2 b hb).1, fr D (Nat.le_refl _), old _ _ hDo, .nil, w0⟩
    rintro n s' ⟨i, H', ys, its, c, IY, st', fr', frD, hD', rv, w'⟩
    have hlen := rv.length
    have noE : ∀ (E' : Value → Shared → Prop) (e : Value) (s'' : Shared), Y.xe e s'' → E' e s'' := fun _ e s'' z => (yxe e s'' z).elim
    have oD : ∃ o : Obj, o = { cls := .type "list", data := .seq its.toArray c } := ⟨_, rfl⟩
    obtain ⟨o, ho⟩ := oD
    rw [← ho] at hD'
    have IP : Inv Y [(D, o)] (capSt k caps σ) H' s' := IY.pins_of fun p hp => by
      have e : p = (D, o) := by simpa using hp
      subst e
      exact ⟨hD', frD, by rw [yloc]; exact hDC, (stD frD).2.2.1, fun v z => by rw [ho] at z; cases z⟩
    have stP : ∀ {H' : Hp}, (∀ b ∈ fp, H' b = none) → ∀ b ∈ fp, FpOk Y [(D, o)] H' b := fun hn b hb => by
      obtain ⟨a0, a1, a2, a3, a4, _⟩ := stF hn b hb
      refine ⟨a0, a1, a2, a3, a4, fun p hp => ?_⟩
      rw [ypn] at hp
      have e : p = (D, o) := by simpa using hp
      subst e
      exact nea (.inr (fpLt b hb))
    rcases turn i n ys H' w' with ⟨stop, hz, qn⟩ | ⟨go, hz, N, hN, step⟩
    · have d := T.done Y yp yw yK yc i [(D, o)] s' _ H' (fun _ _ => False) IP (stP fr') st' stop
      rw [yA] at d
      refine wpAny_mono d (fun r s4 ⟨hr, I5⟩ => ?_) (fun _ _ z => z.elim)
      subst hr
      have hD5 := (I5.pin (D, o) (by simp)).1
      rw [ho] at hD5
      exact hE _ _ _ (fin _ H' s4 ys its c (I5.pins_of fun p hp => nomatch hp) frD hD5 rv hz qn)
    · have d := T.item Y yp yw yK yc i [(D, o)] s' _ H' (fun _ _ => False) IP (stP fr') st' go
      rw [yA] at d
      refine wpAny_mono d (fun r s4 ⟨u, hr, h4⟩ => ?_) (fun _ _ z => z.elim)
      subst hr
      show wpAny _ _ (letOwnedTupleGo tg (.ref it) u) _ _ s4
      refine wpAny_mono h4 (fun _ s5 ⟨x, H5, I5, r5, y5, st5, fr5⟩ => ?_) (fun _ _ z => z.elim)
      have I5' := I5.pinned (stP fr5) (T.obj _ _ st5)
      have q5 := hgk (capSt k caps σ) _ _ _ _ (Rl.refl _ _) (step x H5 y5)
      have a5 := hG _ s5 _ H5 x u _ I5' r5 q5
      rw [yA, yp, yw, yenv] at a5
      refine wpAny_mono a5 (fun _ s6 ⟨σ6, H6, I6, ⟨l6, k6⟩, q6⟩ => ?_) (noE _)
      -- behind a turn
      have again : ∀ {H7 : Hp} {s7 : Shared} {ys' : List V} {its' : List Value} {c' : Nat}, Inv Y [] σ6 H7 s7 → tn (i + 1) s7.heap → (∀ b ∈ fp, H7 b = none) → H7 D = none →
          s7.heap.get? D = some { cls := .type "list", data := .seq its'.toArray c' } → Vals ys' its' → (∃ m', m' < n ∧ W (i + 1) m' ys' H7) →
          ∃ m, m < n ∧ ∃ i H' ys its c, Inv Y [] (capSt k caps σ) H' s7 ∧ tn i s7.heap ∧ (∀ b ∈ fp, H' b = none) ∧ H' D = none ∧ s7.heap.get? D = some { cls := .type "list", data := .seq its.toArray c } ∧ Vals ys its ∧ W i m ys H' := by
        intro H7 s7 ys' its' c' I7 st7 f7 d7 o7 rv7 ⟨m', hm, w7⟩
        refine ⟨m', hm, i + 1, H7, ys', its', c', I7.weak l6.symm (fun j v e => ?_), st7, f7, d7, o7, rv7, w7⟩
        obtain ⟨i', j', rfl, _, _⟩ := capSt_get e
        rw [k6 _ (by omega)]; exact e
      have pinF : ∀ {σ' : L2.St} {H7 : Hp} {s7 : Shared}, Inv Y ([(D, o)] ++ pinsAt fp s5.heap) σ' H7 s7 → (∀ b ∈ fp, ∀ ob, s5.heap.get? b = some ob → s7.heap.get? b = some ob) ∧ (∀ b ∈ fp, H7 b = none) ∧ s7.heap.get? D = some o ∧ H7 D = none := by
        intro σ' H7 s7 I7
        refine ⟨fun b hb ob e => (I7.pin (b, ob) (List.mem_append_right _ (List.mem_append_right _ (mem_pinsAt hb e)))).1, fun b hb => ?_, (I7.pin (D, o) (by simp)).1, (I7.pin (D, o) (by simp)).2.1⟩
        obtain ⟨ob, e, _⟩ := T.obj _ _ st5 b hb
        exact (I7.pin (b, ob) (List.mem_append_right _ (List.mem_append_right _ (mem_pinsAt hb e)))).2.1
      have body : ∀ (b : Bool) (s7 : Shared) (H7 : Hp), Inv Y ([(D, o)] ++ pinsAt fp s5.heap) σ6 H7 s7 → (if b = true then te σ6 H7 fun y H4 => N (ys ++ [y]) H4 else N ys H7) →
          if b = true then wpAny (model X.prog X.w) X.A (eval elt (compEnvC scope cl C X.env)) (fun x s₄ => wpAny (model X.prog X.w) X.A (call (.builtin "list.append") [.ref D, x]) (fun _ s₅ => ∃ m, m < n ∧ ∃ i H' ys its c, Inv Y [] (capSt k caps σ) H' s₅ ∧ tn i s₅.heap ∧ (∀ b ∈ fp, H' b = none) ∧ H' D = none ∧ s₅.heap.get? D = some { cls := .type "list", data := .seq its.toArray c } ∧ Vals ys its ∧ W i m ys H') (notedBy (model X.prog X.w) X.A (compEnvC scope cl C X.env) fun e s' => RR (.ref D) C (.error e) s') s₄) (notedBy (model X.prog X.w) X.A (compEnvC scope cl C X.env) fun e s' => RR (.ref D) C (.error e) s') s7
          else ∃ m, m < n ∧ ∃ i H' ys its c, Inv Y [] (capSt k caps σ) H' s7 ∧ tn i s7.heap ∧ (∀ b ∈ fp, H' b = none) ∧ H' D = none ∧ s7.heap.get? D = some { cls := .type "list", data := .seq its.toArray c } ∧ Vals ys its ∧ W i m ys H' := by
        intro b s7 H7 I7 q7
        cases b with
        | false =>
          rw [if_neg Bool.false_ne_true] at q7 ⊢
          obtain ⟨p1, p2, p3, p4⟩ := pinF I7
          rw [ho] at p3
          exact again (I7.pins_of fun p hp => nomatch hp) (T.keep _ _ _ st5 p1) p2 p4 p3 rv (hN _ _ q7)
        | true =>
          rw [if_pos rfl] at q7 ⊢
          have a7 := hEl _ s7 σ6 H7 _ I7 q7
          rw [yA, yp, yw, yenv] at a7
          refine wpAny_mono a7 (fun y s8 ⟨vy, H8, I8, r8, q8⟩ => ?_) (noE _)
          obtain ⟨p1, p2, p3, p4⟩ := pinF I8
          rw [ho] at p3
          refine append_at p3 (fun h9 sb9 hD9 => ?_) (by rw [List.size_toArray, ← hlen]; exact Nat.le_of_lt hz)
          obtain ⟨a0, a1, a2, a3, a4, a5⟩ := stD p4
          have I9 : Inv Y [] σ6 H8 { s8 with heap := h9 } := (I8.pins_of (pins' := []) fun p hp => nomatch hp).turned (t' := s8.toks) (fun b ob hb e => sb9.extBut b ob hb e) a0 a1 a3 a4 a5
          refine again (its' := its ++ [y]) (c' := c + 1) I9 (T.keep _ _ _ st5 fun b hb ob e => sb9.extBut b ob (nea (.inl (fpLt b hb))) (p1 b hb ob e)) p2 p4 (by rw [← List.push_toArray]; exact hD9) (rv.append (.cons r8 .nil)) (hN _ _ q8)
      rcases hT with ⟨rfl, rfl⟩ | ⟨ct, rfl, hT⟩
      · refine wpAny_tests_nil ?_
        exact body true s6 H6 I6 q6
      · refine wpAny_tests_one ?_
        have a6 := hT _ s6 σ6 H6 _ I6 q6
        rw [yA, yp, yw, yenv] at a6
        exact wpAny_mono a6 (fun b s7 ⟨H7, I7, q7⟩ => body b s7 H7 I7 q7) (noE _)
  exact codeAny_compStart_list (loop _ (by rw [← hs3])) (T.self _ 0 _ _ _ (T.keep _ _ _ st2 (fun b _ o e => old b o (by rw [hH3]; exact Heap.get?_push_of_some _ e))) (loop _ (by rw [← hs3])))

/-! the forms one uses: over a text, a range, a list, a tuple -/
section
variable {g : TG} {tc : TT} {te : TE} {σ₀ : L2.St} {H : Hp} {Q : VK}
theorem comp_by {J : It} (n : Nat) (hn : n ≤ sizeLine) (Pv : Nat → List V → Hp → Prop) (h0 : Pv 0 [] H) (hlen : ∀ i ys H, Pv i ys H → ys.length ≤ i) (hgo : ∀ i ys H, i < n → Pv i ys H → J.go i H) (hstop : ∀ ys H, Pv n ys H → J.stop n H)
    (hs : ∀ i ys H, i < n → Pv i ys H → ∀ x H', J.yld i H x H' → g x σ₀ H' fun σ2 H2 => tc σ2 H2 fun b H3 => if b = true then te σ2 H3 fun y H4 => Pv (i + 1) (ys ++ [y]) H4 else Pv (i + 1) ys H3)
    (hd : ∀ ys H, Pv n ys H → ∀ l, H l = none → Q (.ref l) (upd H l (.lst ys))) :
    CompW J g tc te σ₀ H Q := by
  refine ⟨fun i m ys H => m = n - i ∧ i ≤ n ∧ Pv i ys H, ⟨n, by simp, Nat.zero_le _, h0⟩, ?_⟩
  rintro i m ys H ⟨rfl, hi, p⟩
  have hl := hlen i ys H p
  by_cases hlt : i < n
  · exact .inr ⟨hgo i ys H hlt p, by omega, fun ys' H' => Pv (i + 1) ys' H', fun ys' H' p' => ⟨n - (i + 1), by omega, rfl, hlt, p'⟩, hs i ys H hlt p⟩
  · have e : i = n := by omega
    subst e
    exact .inl ⟨hstop ys H p, by omega, hd ys H p⟩
theorem comp_str {z : Str} (hz : z.length ≤ sizeLine) (Pv : Nat → List V → Hp → Prop) (h0 : Pv 0 [] H) (hlen : ∀ i ys H, Pv i ys H → ys.length ≤ i)
    (hs : ∀ i c ys H, (toL z)[i]? = some c → Pv i ys H → g (.str (ofL [c])) σ₀ H fun σ2 H2 => tc σ2 H2 fun b H3 => if b = true then te σ2 H3 fun y H4 => Pv (i + 1) (ys ++ [y]) H4 else Pv (i + 1) ys H3)
    (hd : ∀ ys H, Pv z.length ys H → ∀ l, H l = none → Q (.ref l) (upd H l (.lst ys))) :
    CompW (Its z) g tc te σ₀ H Q :=
  comp_by z.length hz Pv h0 hlen (fun i ys H h _ => h) (fun ys H _ => Nat.le_refl _) (fun i ys H h p x H' y => by
    obtain ⟨e, c, hc, ex⟩ := y
    subst e ex
    exact hs i c ys _ hc p) hd
theorem comp_range {lo : Int} {n : Nat} (hn : n ≤ sizeLine) (Pv : Nat → List V → Hp → Prop) (h0 : Pv 0 [] H) (hlen : ∀ i ys H, Pv i ys H → ys.length ≤ i)
    (hs : ∀ i ys H, i < n → Pv i ys H → g (.int (lo + i)) σ₀ H fun σ2 H2 => tc σ2 H2 fun b H3 => if b = true then te σ2 H3 fun y H4 => Pv (i + 1) (ys ++ [y]) H4 else Pv (i + 1) ys H3)
    (hd : ∀ ys H, Pv n ys H → ∀ l, H l = none → Q (.ref l) (upd H l (.lst ys))) :
    CompW (Itr lo n) g tc te σ₀ H Q :=
  comp_by n hn Pv h0 hlen (fun i ys H h _ => h) (fun ys H _ => Nat.le_refl _) (fun i ys H h p x H' y => by
    obtain ⟨e, ex⟩ := y
    subst e ex
    exact hs i ys _ h p) hd
theorem comp_list {K : PySem.W.Frag} {a : Addr} {xs : List V} (hn : xs.length ≤ sizeLine) (Pv : Nat → List V → Hp → Prop) (h0 : Pv 0 [] H) (hlen : ∀ i ys H, Pv i ys H → ys.length ≤ i) (hl : ∀ i ys H, Pv i ys H → SqL K H a xs)
    (hs : ∀ i x ys H, xs[i]? = some x → Pv i ys H → g x σ₀ H fun σ2 H2 => tc σ2 H2 fun b H3 => if b = true then te σ2 H3 fun y H4 => Pv (i + 1) (ys ++ [y]) H4 else Pv (i + 1) ys H3)
    (hd : ∀ ys H, Pv xs.length ys H → ∀ l, H l = none → Q (.ref l) (upd H l (.lst ys))) :
    CompW (Itl K a) g tc te σ₀ H Q :=
  comp_by xs.length hn Pv h0 hlen (fun i ys H h p => ⟨xs, xs[i], hl i ys H p, by simp [h]⟩) (fun ys H p => ⟨xs, hl _ ys H p, Nat.le_refl _⟩) (fun i ys H h p x H' y => by
    obtain ⟨e, y⟩ := y
    subst e
    exact hs i x ys _ (y xs (hl i ys _ p)) p) hd
theorem comp_tup {K : PySem.W.Frag} {a : Addr} {xs : List V} (hn : xs.length ≤ sizeLine) (Pv : Nat → List V → Hp → Prop) (h0 : Pv 0 [] H) (hlen : ∀ i ys H, Pv i ys H → ys.length ≤ i) (hl : ∀ i ys H, Pv i ys H → SqT K H a xs)
    (hs : ∀ i x ys H, xs[i]? = some x → Pv i ys H → g x σ₀ H fun σ2 H2 => tc σ2 H2 fun b H3 => if b = true then te σ2 H3 fun y H4 => Pv (i + 1) (ys ++ [y]) H4 else Pv (i + 1) ys H3)
    (hd : ∀ ys H, Pv xs.length ys H → ∀ l, H l = none → Q (.ref l) (upd H l (.lst ys))) :
    CompW (Itt K a) g tc te σ₀ H Q :=
  comp_by xs.length hn Pv h0 hlen (fun i ys H h p => ⟨xs, xs[i], hl i ys H p, by simp [h]⟩) (fun ys H p => ⟨xs, hl _ ys H p, Nat.le_refl _⟩) (fun i ys H h p x H' y => by
    obtain ⟨e, y⟩ := y
    subst e
    exact hs i x ys _ (y xs (hl i ys _ p)) p) hd
end

theorem pe_comp {tg iter elt : Expr} {ifs : List Expr} {scope : Scope} {pos : Pos} {N' : List Str} {k : Nat} {caps : List Nat} {wi : TI} {g : TG} {tc : TT} {te : TE}
    (hc : X.calm = true) (S : CompScope X.env.scope scope X.N N' k caps) (hi : PI X tg iter wi) (hgk : GK k g)
    (hin : ∀ cl C s₀ H₀ ex, PG (compCx X scope N' cl C s₀ H₀ ex) tg g ∧ PIfs (compCx X scope N' cl C s₀ H₀ ex) ifs tc ∧ PE (compCx X scope N' cl C s₀ H₀ ex) elt te)
    (hs : ∀ x, foldedSetIterable iter X.env x = pure x := by intro _; rfl) : PE X (.ListComp elt [⟨tg, iter, ifs, 0⟩] scope pos) (tComp k caps wi g tc te) := by
  intro pins s σ H Q I h
  obtain ⟨cl, hcl, h1, h2⟩ := closure_ok scope X.env fun y hy hf => I.ok.has y.1 (.inl (S.free y hy hf))
  rw [eval_ListComp]
  refine wpAny_comprehension_free (use := none) rfl hs hcl S.kind S.loc (comp_core (RR := fun acc C => compPost (model X.prog X.w) X.A X.xe none (EP X pins σ Q) acc C) hc S hi hgk hin h1 h2 I h (fun _ _ z => z) fun v C s' hE => ?_)
  obtain ⟨D, H', rfl, IX, ⟨f0, f1, f2, f3, f4, f5⟩, ⟨m, hn⟩, q⟩ := hE
  refine ⟨m, hn, fun h' sb => ⟨.ref D, H', ?_, rfl, q⟩⟩
  exact IX.turned (t' := s'.toks) (fun b o hb e => sb.extBut b o hb e) f0 f1 f3 f4 f5
/-- x = [..] -/
theorem ps_setComp {i : Nat} {x : Str} {px : Pos} {spos : Pos} {tg iter elt : Expr} {ifs : List Expr} {scope : Scope} {pos : Pos} {N' : List Str} {k : Nat} {caps : List Nat} {wi : TI} {g : TG} {tc : TT} {te : TE}
    (hN : X.N.Nodup) (hix : X.N[i]? = some x) (hx : Loc X.env.scope x) (hf : X.fn x = true ∨ X.env.scope.names.lookup x = some .local)
    (hc : X.calm = true) (S : CompScope X.env.scope scope X.N N' k caps) (hi : PI X tg iter wi) (hgk : GK k g)
    (hin : ∀ cl C s₀ H₀ ex, PG (compCx X scope N' cl C s₀ H₀ ex) tg g ∧ PIfs (compCx X scope N' cl C s₀ H₀ ex) ifs tc ∧ PE (compCx X scope N' cl C s₀ H₀ ex) elt te)
    (hsw : swapsWith (.ListComp elt [⟨tg, iter, ifs, 0⟩] scope pos) (some (.Name x px)) spos.line X.env = pure true := by rfl)
    (hs : ∀ x, foldedSetIterable iter X.env x = pure x := by intro _; rfl) : PS X (.Assign [.Name x px] (.ListComp elt [⟨tg, iter, ifs, 0⟩] scope pos) spos) (tAsg (tComp k caps wi g tc te) (gName i)) := by
  intro pins s σ H Dn I h
  obtain ⟨cl, hcl, h1, h2⟩ := closure_ok scope X.env fun y hy hf => I.ok.has y.1 (.inl (S.free y hy hf))
  rw [exec_Assign_Name_used _ _ _ _ hsw]
  refine wpAny_bind (wpAny_standAt (wpAny_bind ?_))
  show wpAny _ X.A (do let _ ← comprehension (.ListComp elt [⟨tg, iter, ifs, 0⟩] scope pos) scope X.env _ (newList []) false (eval iter X.env) (some (assign (.Name x px) X.env))) _ _ s
  refine wpAny_bind (wpAny_mono (wpAny_comprehension_free (use := some (assign (.Name x px) X.env)) (Q := fun _ s' => SP X pins Dn .next s') rfl hs hcl S.kind S.loc
    (comp_core (RR := fun acc C => compPost (model X.prog X.w) X.A X.xe (some (assign (.Name x px) X.env)) (fun _ s' => SP X pins Dn .next s') acc C) hc S hi hgk hin h1 h2 I h (fun _ _ z => z) fun v C s' hE => ?_)) (fun _ s' hq => wpAny_pure (wpAny_pure hq)) fun _ _ e => e)
  obtain ⟨D, H', rfl, IX, ⟨f0, f1, f2, f3, f4, f5⟩, ⟨m, hn⟩, q⟩ := hE
  show wpAny _ X.A (assign (.Name x px) X.env (.ref D)) _ _ s'
  refine wpAny_assign_Name (store_ok2 IX hN hix hx (v := .ref D) rfl (fun s2 I2 ⟨a, sb, ha⟩ => ?_) hf)
  have neC : C ≠ a := by
    rcases ha with rfl | ha
    · exact f1
    · exact fun z => f4 x a ha z.symm
  refine ⟨m, hn.sameBut sb neC, fun h' sb2 => ⟨_, H', I2.turned (t' := s2.toks) (fun b o hb e => sb2.extBut b o hb e) f0 f1 f3 f4 f5, q⟩⟩
end
end Ext

namespace Ext
open PySem PySem.Spec PyProof.Rows L2

/-! ### == and != of lists and tuples of any depth -/
mutual
inductive Rep (K : PySem.W.Frag) (H : Hp) : V → PyData → Prop
  | non : Rep K H .non .none
  | bl (b) : Rep K H (.bl b) (.bool b)
  | int (i) : Rep K H (.int i) (.int i)
  | str (x) : Rep K H (.str x) (.str x)
  | lst {a xs ds} : SqL K H a xs → Reps K H xs ds → Rep K H (.ref a) (.list ds)
  | tup {a xs ds} : SqT K H a xs → Reps K H xs ds → Rep K H (.ref a) (.tuple ds)
inductive Reps (K : PySem.W.Frag) (H : Hp) : List V → List PyData → Prop
  | nil : Reps K H [] []
  | cons {x xs d ds} : Rep K H x d → Reps K H xs ds → Reps K H (x :: xs) (d :: ds)
end
section
variable {X : Cx} {pins : List (Addr × Obj)} {σ : L2.St} {H : Hp} {s : Shared}
mutual
theorem Rep.reads (I : Inv X pins σ H s) : ∀ {x : V} {d : PyData} {v : Value}, Rep X.K H x d → RelV x v → ∃ as, Reads s.heap v d as
  | _, _, _, .non, r => by cases r; exact ⟨_, .none⟩
  | _, _, _, .bl b, r => by cases r; exact ⟨_, .bool b⟩
  | _, _, _, .int i, r => by obtain ⟨t, rfl⟩ := r; exact ⟨_, .int i t⟩
  | _, _, _, .str x, r => by obtain ⟨t, rfl⟩ := r; exact ⟨_, .str x t⟩
  | _, _, _, .lst q rs, r => by
    cases r
    obtain ⟨its, rv, ⟨o, n, e, hc, hd, hs⟩, _⟩ := I.list q
    obtain ⟨as, ra⟩ := Reps.reads I rs rv
    exact ⟨_, .list e hc hs (by simpa using ra)⟩
  | _, _, _, .tup q rs, r => by
    cases r
    obtain ⟨its, rv, ⟨o, e, hc, n, hs⟩, _⟩ := I.tuple q
    obtain ⟨as, ra⟩ := Reps.reads I rs rv
    exact ⟨_, .tuple e hc hs (by simpa using ra)⟩
theorem Reps.reads (I : Inv X pins σ H s) : ∀ {xs : List V} {ds : List PyData} {vs : List Value}, Reps X.K H xs ds → Vals xs vs → ∃ as, ReadsAll s.heap vs ds as
  | _, _, _, .nil, r => by cases r; exact ⟨_, .nil⟩
  | _, _, _, .cons q rs, r => by
    cases r with
    | cons r rr =>
      obtain ⟨as, h1⟩ := Rep.reads I q r
      obtain ⟨bs, h2⟩ := Reps.reads I rs rr
      exact ⟨_, .cons h1 h2⟩
end
end
/-- the heap may grow -/
theorem SqT.same {K : PySem.W.Frag} {H H' : Hp} {a : Addr} {xs : List V} (e : Same H H') (h : SqT K H a xs) : SqT K H' a xs := by
  rcases h with (h | ⟨o, h⟩) | h
  · exact .inl (.inl (e _ _ h))
  · exact .inl (.inr ⟨o, e _ _ h⟩)
  · exact .inr h
mutual
theorem Rep.same {K : PySem.W.Frag} {H H' : Hp} (e : Same H H') : ∀ {x : V} {d : PyData}, Rep K H x d → Rep K H' x d
  | _, _, .non => .non
  | _, _, .bl b => .bl b
  | _, _, .int i => .int i
  | _, _, .str x => .str x
  | _, _, .lst q rs => .lst (e.seq q) (Reps.same e rs)
  | _, _, .tup q rs => .tup (SqT.same e q) (Reps.same e rs)
theorem Reps.same {K : PySem.W.Frag} {H H' : Hp} (e : Same H H') : ∀ {xs : List V} {ds : List PyData}, Reps K H xs ds → Reps K H' xs ds
  | _, _, .nil => .nil
  | _, _, .cons q rs => .cons (Rep.same e q) (Reps.same e rs)
end
theorem Reps.length {K : PySem.W.Frag} {H : Hp} : ∀ {xs : List V} {ds : List PyData}, Reps K H xs ds → xs.length = ds.length
  | _, _, .nil => rfl
  | _, _, .cons _ rs => by simp [Reps.length rs]
theorem Reps.snoc {K : PySem.W.Frag} {H : Hp} {x : V} {d : PyData} : ∀ {xs : List V} {ds : List PyData}, Reps K H xs ds → Rep K H x d → Reps K H (xs ++ [x]) (ds ++ [d])
  | _, _, .nil, r => .cons r .nil
  | _, _, .cons q rs, r => .cons q (Reps.snoc rs r)
theorem Reps.get {K : PySem.W.Frag} {H : Hp} : ∀ {xs : List V} {ds : List PyData} {i : Nat} {x : V}, Reps K H xs ds → xs[i]? = some x → ∃ d, ds[i]? = some d ∧ Rep K H x d
  | _, _, _, _, .nil, e => by simp at e
  | _, _, 0, _, .cons q _, e => by simp at e; subst e; exact ⟨_, rfl, q⟩
  | _, _, i + 1, _, .cons _ rs, e => by
    obtain ⟨d, h1, h2⟩ := Reps.get (i := i) rs (by simpa using e)
    exact ⟨d, by simpa using h1, h2⟩
theorem reps_ints {K : PySem.W.Frag} {H : Hp} : ∀ ns : List Int, Reps K H (ns.map V.int) (ns.map PyData.int)
  | [] => .nil
  | n :: ns => .cons (.int n) (reps_ints ns)

section
variable {X : Cx}
theorem op_eqD (hu : X.A.units + 64 < cLine) : OpR X (compareOp .Eq) (fun x y H Q => ∃ d e, Rep X.K H x d ∧ Rep X.K H y e ∧ SeqAt.shaped d = true ∧ SeqAt.shaped e = true ∧ Q (.bl (PyData.eqv d e)) H) := by
  intro pins s σ H x y v u Q I rx ry h
  obtain ⟨d, e, r1, r2, s1, s2, q⟩ := h
  obtain ⟨as, ra⟩ := Rep.reads I r1 rx
  obtain ⟨bs, rb⟩ := Rep.reads I r2 ry
  exact SeqAt.compareEq_shaped ra rb s1 s2 hu ⟨.bl _, H, I, rfl, q⟩
theorem op_neD (hu : X.A.units + 64 < cLine) : OpR X (compareOp .NotEq) (fun x y H Q => ∃ d e, Rep X.K H x d ∧ Rep X.K H y e ∧ SeqAt.shaped d = true ∧ SeqAt.shaped e = true ∧ Q (.bl (!PyData.eqv d e)) H) := by
  intro pins s σ H x y v u Q I rx ry h
  obtain ⟨d, e, r1, r2, s1, s2, q⟩ := h
  obtain ⟨as, ra⟩ := Rep.reads I r1 rx
  obtain ⟨bs, rb⟩ := Rep.reads I r2 ry
  exact SeqAt.compareNe_shaped ra rb s1 s2 hu ⟨.bl _, H, I, rfl, q⟩
/-- a list == [] -/
theorem op_eqE (hu : X.A.units < cLine) : OpR X (compareOp .Eq) (fun x y H Q => ∃ a b xs, x = .ref a ∧ y = .ref b ∧ SqL X.K H a xs ∧ SqL X.K H b [] ∧ Q (.bl xs.isEmpty) H) := by
  intro pins s σ H x y v u Q I rx ry h
  obtain ⟨a, b, xs, rfl, rfl, h1, h2, q⟩ := h
  cases rx; cases ry
  obtain ⟨its, r1, p1, _⟩ := I.list h1
  obtain ⟨its2, r2, p2, _⟩ := I.list h2
  cases r2
  cases r1 with
  | nil => exact SeqAt.eq_listAt (e := fun _ => true) p1.isList p2.isList rfl hu (fun j h1 _ => absurd h1 (by simp)) ⟨.bl true, H, I, rfl, q⟩
  | cons r rr => exact SeqAt.eq_list_lengthsAt p1.isList p2.isList (by simp) hu ⟨.bl false, H, I, rfl, q⟩
theorem op_neE (hu : X.A.units < cLine) : OpR X (compareOp .NotEq) (fun x y H Q => ∃ a b xs, x = .ref a ∧ y = .ref b ∧ SqL X.K H a xs ∧ SqL X.K H b [] ∧ Q (.bl (!xs.isEmpty)) H) := by
  intro pins s σ H x y v u Q I rx ry h
  obtain ⟨a, b, xs, rfl, rfl, h1, h2, q⟩ := h
  cases rx; cases ry
  obtain ⟨its, r1, p1, _⟩ := I.list h1
  obtain ⟨its2, r2, p2, _⟩ := I.list h2
  cases r2
  cases r1 with
  | nil => exact SeqAt.RcNeAt.lists (e := fun _ => true) p1.isList p2.isList rfl hu (fun j h1 _ => absurd h1 (by simp)) _ _ _ _ ⟨.bl false, H, I, rfl, q⟩
  | cons r rr => exact SeqAt.RcNeAt.lists_lengths p1.isList p2.isList (by simp) hu _ _ _ _ ⟨.bl true, H, I, rfl, q⟩
end

/-! ### the same rules with the module's objects named (within a comprehension) -/
section
variable {X : Cx} {K : PySem.W.Frag}
theorem ix_tupK (h : X.K = K) : IxR X (rIxT K) := h ▸ ix_tup
theorem ix_listK (h : X.K = K) : IxR X (rIxL K) := h ▸ ix_list
theorem sl_listK (h : X.K = K) : SlR X (rSlL K) := h ▸ sl_list
theorem sl_tupK (h : X.K = K) : SlR X (rSlT K) := h ▸ sl_tup
theorem call_isiK (h : X.K = K) : CallR X (.builtin "isinstance") (fun xs H Q => ∃ x T t b, xs = [x, .ty T] ∧ TyOf K H x t ∧ PySem.W.kitOne K t (.type T) = some b ∧ Q (.bl b) H) := by subst h; exact call_isi
theorem call_len_seqK (h : X.K = K) : CallR X (.builtin "len") (fun xs H Q => ∃ p ys, xs = [.ref p] ∧ (SqL K H p ys ∨ SqT K H p ys) ∧ Q (.int ys.length) H) := by subst h; exact call_len_seq
theorem op_eqDK (h : X.K = K) (hu : X.A.units + 64 < cLine) : OpR X (compareOp .Eq) (fun x y H Q => ∃ d e, Rep K H x d ∧ Rep K H y e ∧ SeqAt.shaped d = true ∧ SeqAt.shaped e = true ∧ Q (.bl (PyData.eqv d e)) H) := by subst h; exact op_eqD hu
theorem op_neDK (h : X.K = K) (hu : X.A.units + 64 < cLine) : OpR X (compareOp .NotEq) (fun x y H Q => ∃ d e, Rep K H x d ∧ Rep K H y e ∧ SeqAt.shaped d = true ∧ SeqAt.shaped e = true ∧ Q (.bl (!PyData.eqv d e)) H) := by subst h; exact op_neD hu
theorem op_eqEK (h : X.K = K) (hu : X.A.units < cLine) : OpR X (compareOp .Eq) (fun x y H Q => ∃ a b xs, x = .ref a ∧ y = .ref b ∧ SqL K H a xs ∧ SqL K H b [] ∧ Q (.bl xs.isEmpty) H) := by subst h; exact op_eqE hu
theorem op_neEK (h : X.K = K) (hu : X.A.units < cLine) : OpR X (compareOp .NotEq) (fun x y H Q => ∃ a b xs, x = .ref a ∧ y = .ref b ∧ SqL K H a xs ∧ SqL K H b [] ∧ Q (.bl (!xs.isEmpty)) H) := by subst h; exact op_neE hu
theorem pg_tupK {pos : Pos} {es : List Expr} {k : Nat} {t : TGs} {n : Nat} (h : X.K = K) (hc : X.calm = true) (hs : PGs X es t)
    (hn : (assignEach es X.env).length = n := by rfl) (hst : (assignEach es X.env).findIdx? (·.1) = none := by rfl) : PG X (.Tuple es k pos) (gTup K n t) := by subst h; exact pg_tup hc hs hn hst
theorem pe_findK {o e : Expr} {es : List Expr} {to : TE} {t : TA} {apos cpos : Pos} (h : X.K = K) (ho : PE X o to) (ha : PA X (e :: es) t)
    (hbase : attributeBase o "find" X.env (eval o X.env) = eval o X.env := by rfl)
    (hfew : ((backTo cpos (starEach (e :: es) X.env)).all (fun x => !x.1) && (backToKw cpos (keywordEach [] X.env)).all (fun x => x.1.isSome)
      && decide ((e :: es).length + ([] : List Keyword).length + (if ([] : List Keyword).isEmpty then 0 else 1) < 30)) = true := by rfl)
    (hline : (apos.endLine == cpos.line) = true := by rfl) (hs : starEach (e :: es) X.env = (false, eval e X.env) :: starEach es X.env := by rfl) (hplain : (backTo cpos (starEach es X.env)).any (·.1) = false := by rfl) :
    PE X (.Call (.Attribute o "find" apos) (e :: es) [] cpos) (tBM K "str" (fun x xs H Q => ∃ z y, x = .str z ∧ xs = [.str y] ∧ Q (.int (Txt.find z y)) H) to t) := by
  subst h
  exact pe_bm PySem.F.plainAttrs_str PySem.F.slot_str_find PySem.F.type_str_find mt_find ho ha hbase hfew hline hs hplain
end
end Ext

/-! plain mathematics: texts as lists of numbers -/
namespace Mth
/-- what stands in a row of a table of pairs -/
def row (f : Nat → Nat → Bool) (p m : Nat) : List (Nat × Nat) := ((List.range m).filter (fun t => f p (t + 1))).map (fun t => (p, t + 1))
theorem row_succ (f : Nat → Nat → Bool) (p m : Nat) : row f p (m + 1) = row f p m ++ (if f p (m + 1) = true then [(p, m + 1)] else []) := by
  unfold row
  rw [List.range_succ, List.filter_append, List.map_append]
  congr 1
  by_cases h : f p (m + 1) = true
  · simp [h]
  · simp [h]
def rows (f : Nat → Nat → Bool) (b : Nat → Nat) (n : Nat) : List (Nat × Nat) := (List.range n).flatMap (fun p => row f p (b p))
theorem rows_succ (f : Nat → Nat → Bool) (b : Nat → Nat) (n : Nat) : rows f b (n + 1) = rows f b n ++ row f n (b n) := by
  unfold rows
  rw [List.range_succ, List.flatMap_append]
  simp
theorem row_len (f : Nat → Nat → Bool) (p m : Nat) : (row f p m).length ≤ m := by
  unfold row
  rw [List.length_map]
  exact Nat.le_trans (List.length_filter_le _ _) (by simp)
theorem rows_len (f : Nat → Nat → Bool) (b : Nat → Nat) (n c : Nat) (h : ∀ p, p < n → b p ≤ c) : (rows f b n).length ≤ n * c := by
  induction n with
  | zero => simp [rows]
  | succ n ih =>
    rw [rows_succ, List.length_append, Nat.succ_mul]
    have := ih fun p hp => h p (Nat.lt_succ_of_lt hp)
    have h2 := row_len f n (b n)
    have h3 := h n (Nat.lt_succ_self n)
    omega
theorem mem_row {f : Nat → Nat → Bool} {p m : Nat} {q : Nat × Nat} : q ∈ row f p m ↔ q.1 = p ∧ 1 ≤ q.2 ∧ q.2 ≤ m ∧ f p q.2 = true := by
  unfold row
  simp only [List.mem_map, List.mem_filter, List.mem_range]
  constructor
  · rintro ⟨t, ⟨h1, h2⟩, rfl⟩
    exact ⟨rfl, by simp, h1, h2⟩
  · rintro ⟨h1, h2, h3, h4⟩
    obtain ⟨a, b⟩ := q
    simp only at h1 h2 h3 h4
    subst h1
    refine ⟨b - 1, ⟨by omega, ?_⟩, ?_⟩
    · rw [show b - 1 + 1 = b by omega]; exact h4
    · rw [show b - 1 + 1 = b by omega]
theorem mem_rows {f : Nat → Nat → Bool} {b : Nat → Nat} {n : Nat} {q : Nat × Nat} : q ∈ rows f b n ↔ q.1 < n ∧ 1 ≤ q.2 ∧ q.2 ≤ b q.1 ∧ f q.1 q.2 = true := by
  unfold rows
  simp only [List.mem_flatMap, List.mem_range, mem_row]
  constructor
  · rintro ⟨p, hp, h1, h2⟩
    subst h1
    exact ⟨hp, h2⟩
  · rintro ⟨h1, h2⟩
    exact ⟨q.1, h1, rfl, h2⟩
/-- beyond m nothing is found -/
theorem row_more (f : Nat → Nat → Bool) (p m : Nat) (k : Nat) (h : ∀ t, m < t → t ≤ m + k → f p t = false) : row f p (m + k) = row f p m := by
  induction k with
  | zero => rfl
  | succ k ih =>
    rw [← Nat.add_assoc, row_succ, ih fun t h1 h2 => h t h1 (by omega), h (m + k + 1) (by omega) (by omega)]
    simp
theorem row_congr {f g : Nat → Nat → Bool} {p m : Nat} (h : ∀ t, 1 ≤ t → t ≤ m → f p t = g p t) : row f p m = row g p m := by
  induction m with
  | zero => rfl
  | succ m ih =>
    rw [row_succ, row_succ, ih fun t h1 h2 => h t h1 (by omega), h (m + 1) (by omega) (by omega)]

/-- the two ways of asking for a double -/
def isD (l : List Nat) (p h : Nat) : Bool := decide ((l.drop p).take h = (l.drop (p + h)).take h)
def isD' (l : List Nat) (p h : Nat) : Bool := decide (((l.drop p).take h).length = h) && decide ((l.drop (p + h)).take h = (l.drop p).take h)
theorem isD'_room {l : List Nat} {p h : Nat} (hp : p < l.length) (h1 : 1 ≤ h) (e : isD' l p h = true) : p + 2 * h ≤ l.length := by
  unfold isD' at e
  simp only [Bool.and_eq_true, decide_eq_true_eq] at e
  obtain ⟨e1, e2⟩ := e
  have e3 := congrArg List.length e2
  rw [e1, List.length_take, List.length_drop] at e3
  omega
theorem isD_eq {l : List Nat} {p h : Nat} (hr : p + 2 * h ≤ l.length) : isD l p h = isD' l p h := by
  unfold isD isD'
  have e : ((l.drop p).take h).length = h := by rw [List.length_take, List.length_drop]; omega
  rw [decide_eq_true e, Bool.true_and]
  by_cases q : (l.drop p).take h = (l.drop (p + h)).take h
  · rw [decide_eq_true q, decide_eq_true q.symm]
  · rw [decide_eq_false q, decide_eq_false (fun z => q z.symm)]
theorem doubles_eq (l : List Nat) : rows (isD l) (fun p => (l.length - p) / 2) l.length = rows (isD' l) (fun _ => l.length - 1) l.length := by
  have key : ∀ n, n ≤ l.length → rows (isD l) (fun p => (l.length - p) / 2) n = rows (isD' l) (fun _ => l.length - 1) n := by
    intro n
    induction n with
    | zero => intro _; rfl
    | succ n ih =>
      intro hn
      rw [rows_succ, rows_succ, ih (by omega)]
      congr 1
      rw [row_congr (g := isD' l) (fun t h1 h2 => isD_eq (by omega))]
      have e : l.length - 1 = (l.length - n) / 2 + (l.length - 1 - (l.length - n) / 2) := by omega
      rw [e]
      symm
      rw [show (l.length - n) / 2 + (l.length - 1 - (l.length - n) / 2) = (l.length - n) / 2 + (l.length - 1 - (l.length - n) / 2) from rfl]
      refine row_more (isD' l) n _ _ fun t h1 h2 => ?_
      cases q : isD' l n t with
      | false => rfl
      | true =>
        have := isD'_room (by omega) (by omega) q
        omega
  exact key l.length (Nat.le_refl _)
/-- doubles by the plain count -/
def dbl (l : List Nat) : List (Nat × Nat) := rows (isD' l) (fun _ => l.length - 1) l.length
theorem mem_dbl {l : List Nat} {q : Nat × Nat} (h : q ∈ dbl l) : 1 ≤ q.2 ∧ q.1 + 2 * q.2 ≤ l.length ∧ (l.drop (q.1 + q.2)).take q.2 = (l.drop q.1).take q.2 := by
  obtain ⟨h1, h2, h3, h4⟩ := mem_rows.mp h
  refine ⟨h2, isD'_room h1 h2 h4, ?_⟩
  unfold isD' at h4
  simp only [Bool.and_eq_true, decide_eq_true_eq] at h4
  exact h4.2
theorem dbl_len (l : List Nat) : (dbl l).length ≤ l.length * l.length := rows_len _ _ _ _ fun _ _ => Nat.sub_le _ _
/-- the first letters of both halves -/
theorem dbl_first {l : List Nat} {q : Nat × Nat} (h : q ∈ dbl l) : l[q.1 + q.2]? = l[q.1]? := by
  obtain ⟨h1, h2, h3⟩ := mem_dbl h
  have e := congrArg (fun x : List Nat => x[0]?) h3
  simp only [List.getElem?_take, List.getElem?_drop] at e
  rw [if_pos (by omega), if_pos (by omega)] at e
  simpa using e
/-- one more letter, told in two ways -/
theorem further_eq {l : List Nat} {q : Nat × Nat} (h : q ∈ dbl l) :
    ((l.drop (q.1 + 2 * q.2)).take 1 = (l[q.1]?).toList) ↔ (q.1 + 2 * q.2 < l.length ∧ l[q.1 + 2 * q.2]? = l[q.1 + 2 * q.2 - q.2]?) := by
  obtain ⟨h1, h2, h3⟩ := mem_dbl h
  have hf := dbl_first h
  have e0 : q.1 + 2 * q.2 - q.2 = q.1 + q.2 := by omega
  rw [e0, hf]
  have hp : q.1 < l.length := by omega
  by_cases c : q.1 + 2 * q.2 < l.length
  · rw [List.take_one, List.head?_drop]
    have z1 : l[q.1]? = some l[q.1] := List.getElem?_eq_getElem hp
    have z2 : l[q.1 + 2 * q.2]? = some l[q.1 + 2 * q.2] := List.getElem?_eq_getElem c
    rw [z1, z2]
    simp [c]
  · have z1 : l[q.1]? = some l[q.1] := List.getElem?_eq_getElem hp
    rw [List.drop_of_length_le (by omega), z1]
    simp [c]

/-- beats -/
def hb (l : List Nat) (b : Nat) : Prop := l.take (l.length - b) = l.drop b
instance (l : List Nat) (b : Nat) : Decidable (hb l b) := by unfold hb; infer_instance
structure IsLB (l : List Nat) (b : Nat) : Prop where
  lo : 1 ≤ b
  hi : b ≤ l.length
  is : hb l b
  least : ∀ t, 1 ≤ t → t < b → ¬ hb l t
theorem IsLB.unique {l : List Nat} {a b : Nat} (x : IsLB l a) (y : IsLB l b) : a = b := by
  rcases Nat.lt_trichotomy a b with h | h | h
  · exact absurd x.is (y.least a x.lo h)
  · exact h
  · exact absurd y.is (x.least b y.lo h)
theorem hb_len (l : List Nat) : hb l l.length := by simp [hb]
end Mth

namespace Bt
open PySem PySem.Spec PyProof.Rows L2 Ext

/-! ### small things -/
theorem small {n : Nat} (h : n ≤ 100000) : n ≤ sizeLine := Nat.le_trans h (by decide)
theorem same_new {H : Hp} {p : Addr} (h : H p = none) (o : HO) : Same H (upd H p o) := fun b u q => by rw [upd_ne (ne_of_none q h)]; exact q
def Low (l : List Nat) : Prop := ∀ c ∈ l, 97 ≤ c ∧ c ≤ 122
theorem Low.nil : Low [] := fun _ h => nomatch h
theorem Low.app {l m : List Nat} (h1 : Low l) (h2 : Low m) : Low (l ++ m) := fun c hc => (List.mem_append.mp hc).elim (h1 c) (h2 c)
theorem Low.take {l : List Nat} (h : Low l) (n : Nat) : Low (l.take n) := fun c hc => h c (List.mem_of_mem_take hc)
theorem Low.drop {l : List Nat} (h : Low l) (n : Nat) : Low (l.drop n) := fun c hc => h c (List.mem_of_mem_drop hc)
theorem Low.cut {l : List Nat} (h : Low l) (a b : Option Int) : Low (cutN l a b) := (h.drop _).take _
theorem Low.rep {l : List Nat} (h : Low l) (n : Int) : Low (rep l n) := fun c hc => by
  unfold Ext.rep at hc
  obtain ⟨x, h1, h2⟩ := List.mem_flatten.mp hc
  rw [(List.mem_replicate.mp h1).2] at h2
  exact h c h2
theorem Low.one {c : Nat} (h1 : 97 ≤ c) (h2 : c ≤ 122) : Low [c] := fun x hx => by
  have : x = c := by simpa using hx
  subst this; exact ⟨h1, h2⟩
instance (l : List Nat) : Decidable (Low l) := by unfold Low; infer_instance
theorem at_ints {ns : List Int} {k : Int} (h0 : 0 ≤ k) (h : k < (ns.length : Int)) : ∃ v : Int, atI (ns.map V.int) k = some (.int v) := by
  have hk : k.toNat < ns.length := by omega
  have ek : k = ((k.toNat : Nat) : Int) := by omega
  have q : atI (ns.map V.int) ((k.toNat : Nat) : Int) = some (.int ns[k.toNat]) := atI_nat (by rw [List.getElem?_map, List.getElem?_eq_getElem hk] <;> rfl)
  rw [← ek] at q
  exact ⟨_, q⟩
theorem at_some {α : Type} {l : List α} {k : Int} (h0 : 0 ≤ k) (h : k < (l.length : Int)) : ∃ v, atI l k = some v ∧ l[k.toNat]? = some v ∧ v ∈ l := by
  have hk : k.toNat < l.length := by omega
  have ek : k = ((k.toNat : Nat) : Int) := by omega
  have e : l[k.toNat]? = some l[k.toNat] := List.getElem?_eq_getElem hk
  have q : atI l ((k.toNat : Nat) : Int) = some l[k.toNat] := atI_nat e
  rw [← ek] at q
  exact ⟨_, q, e, List.getElem_mem hk⟩

/-- a tracked pair of short texts -/
def Tup2 (H : Hp) (p : Addr) : Prop := ∃ a b : Str, H p = some (.tup [.str a, .str b]) ∧ (Low (toL a) ∧ 1 ≤ a.length ∧ a.length ≤ 3) ∧ (Low (toL b) ∧ 1 ≤ b.length ∧ b.length ≤ 3)
theorem Tup2.keep {H : Hp} {p r : Addr} {o : HO} (h : Tup2 H p) (hr : H r = none) : Tup2 (upd H r o) p := by
  obtain ⟨a, b, e, r1, r2⟩ := h
  exact ⟨a, b, by rw [upd_ne (ne_of_none e hr)]; exact e, r1, r2⟩
theorem Tup2.new {H : Hp} {r : Addr} {a b : Str} (h1 : Low (toL a) ∧ 1 ≤ a.length ∧ a.length ≤ 3) (h2 : Low (toL b) ∧ 1 ≤ b.length ∧ b.length ≤ 3) : Tup2 (upd H r (.tup [.str a, .str b])) r := ⟨a, b, upd_same, h1, h2⟩
theorem at_01 {α : Type} {x y : α} {c : Prop} [Decidable c] : atI [x, y] (if decide c = true then 1 else 0) = some (if decide c = true then y else x) := by
  by_cases h : c
  · simp [h, atI, ixN]
  · simp [h, atI, ixN]
/-- tracked: a tuple or a list -/
def Trk (H : Hp) (p : Addr) : Prop := (∃ xs, H p = some (.tup xs)) ∨ ∃ xs, H p = some (.lst xs)
theorem Trk.keep {H : Hp} {p r : Addr} {o : HO} (h : Trk H p) (hr : H r = none) : Trk (upd H r o) p := by
  rcases h with ⟨xs, e⟩ | ⟨xs, e⟩
  · exact .inl ⟨xs, by rw [upd_ne (ne_of_none e hr)]; exact e⟩
  · exact .inr ⟨xs, by rw [upd_ne (ne_of_none e hr)]; exact e⟩
theorem Trk.tup {H : Hp} {r : Addr} {xs : List V} : Trk (upd H r (.tup xs)) r := .inl ⟨xs, upd_same⟩
theorem Trk.lst {H : Hp} {r : Addr} {xs : List V} : Trk (upd H r (.lst xs)) r := .inr ⟨xs, upd_same⟩
/-- a row of written texts -/
def strsE : List (Str × Nat × Pos) → List Expr := fun l => l.map fun x => .Constant (.str x.1) x.2.1 x.2.2
theorem pa_cs {X : Cx} : ∀ (l : List (Str × Nat × Pos)), (∀ m, starEach (strsE m) X.env = (strsE m).map fun e => (false, eval e X.env)) → PA X (strsE l) (fun σ H Q => Q (l.map fun x => V.str x.1) H)
  | [], _ => pa_nil
  | x :: l, hs => by
    have ih := pa_cs l hs
    have e1 : starEach (strsE (x :: l)) X.env = (false, eval (.Constant (.str x.1) x.2.1 x.2.2) X.env) :: starEach (strsE l) X.env := by
      rw [hs, hs]; rfl
    exact pa_cons (te := tC (.str x.1)) (es := strsE l) pe_str ih e1

/-! ### what the law's own small defs promise -/
def spCell (K : PySem.W.Frag) : Sp := fun vs H Q _ => ∃ (a : Addr) (ns : List Int) (k : Int), vs = [.ref a, .int k] ∧ SqL K H a (ns.map V.int) ∧ 0 ≤ k ∧ ∀ z : Int, Q (.int z) H
def spMixed (K : PySem.W.Frag) : Sp := fun vs H Q _ => ∃ (a : Addr) (ns : List Int) (k : Int), vs = [.ref a, .int k] ∧ SqL K H a (ns.map V.int) ∧ 0 ≤ k ∧ ∀ z : Int, 0 ≤ z → Q (.int z) H
def spDrawn : Sp := fun vs H Q _ => ∃ n k : Int, vs = [.int n, .int k] ∧ ∀ z : Int, 0 ≤ z → Q (.int z) H
def spText : Sp := fun vs H Q _ => ∃ n m : Int, vs = [.int n, .int m] ∧ 0 ≤ n ∧ 0 ≤ m ∧ m ≤ 60 ∧ ∀ (x : Str) (H' : Hp), Same H H' → Low (toL x) → (x.length : Int) ≤ m → Q (.str x) H'
def spLaw (K : PySem.W.Frag) : Sp := fun vs H Q _ => ∃ (a : Addr) (ns : List Int), vs = [.ref a] ∧ SqL K H a (ns.map V.int) ∧ ns.length ≤ 63 ∧ ∀ H', Q (.bl true) H'
end Bt

namespace Bt
open PySem PySem.Spec PyProof.Rows L2 Ext

/-! ### isinstance of plain kinds -/
theorem kit_same {K : PySem.W.Frag} {T : Value} (h : (T == T) = true) : PySem.W.kitOne K T T = some true := by
  unfold PySem.W.kitOne
  rw [if_pos h]
theorem kit_no {K : PySem.W.Frag} {T U : String} {b : Bool} (h1 : (Value.type T == Value.type U) = false) (h2 : PySem.W.kitMeta U = true) (h3 : (fastBuiltinMro T).map (·.contains (.type U)) = some b) : PySem.W.kitOne K (.type T) (.type U) = some b := by
  unfold PySem.W.kitOne
  rw [if_neg (by rw [h1]; exact Bool.false_ne_true)]
  show (if PySem.W.kitMeta U = true then PySem.W.subIn K (.type T) (.type U) else none) = some b
  rw [if_pos h2]
  exact h3
theorem kit_str {K : PySem.W.Frag} : PySem.W.kitOne K (.type "str") (.type "str") = some true := kit_same (by decide +kernel)
theorem kit_bool {K : PySem.W.Frag} : PySem.W.kitOne K (.type "bool") (.type "bool") = some true := kit_same (by decide +kernel)
theorem kit_int {K : PySem.W.Frag} : PySem.W.kitOne K (.type "int") (.type "int") = some true := kit_same (by decide +kernel)
theorem kit_int_bool {K : PySem.W.Frag} : PySem.W.kitOne K (.type "int") (.type "bool") = some false := kit_no (by decide +kernel) (by decide +kernel) (by decide +kernel)

/-! ### rows of pairs -/
def IsPr (H : Hp) (v : V) (q : Nat × Nat) : Prop := ∃ r, v = .ref r ∧ H r = some (.tup [.int (q.1 : Nat), .int (q.2 : Nat)])
abbrev RepP (H : Hp) : List V → List (Nat × Nat) → Prop := Paired (IsPr H)
theorem RepP.length {H : Hp} {xs : List V} {ds : List (Nat × Nat)} (r : RepP H xs ds) : xs.length = ds.length := Paired.length r
theorem RepP.same {H H' : Hp} {xs : List V} {ds : List (Nat × Nat)} (r : RepP H xs ds) (e : Same H H') : RepP H' xs ds := Paired.mapP r fun v q ⟨a, h1, h2⟩ => ⟨a, h1, e _ _ h2⟩
theorem RepP.get : ∀ {H : Hp} {xs : List V} {ds : List (Nat × Nat)} {i : Nat} {x : V}, RepP H xs ds → xs[i]? = some x → ∃ q, ds[i]? = some q ∧ IsPr H x q
  | _, _, _, _, _, .nil, e => by simp at e
  | _, _, _, 0, _, .cons r _, e => by simp at e; subst e; exact ⟨_, rfl, r⟩
  | _, _, _, i + 1, x, .cons _ t, e => by
    obtain ⟨u, h1, h2⟩ := RepP.get (i := i) (x := x) t (by simpa using e)
    exact ⟨u, by simpa using h1, h2⟩
theorem same_upd {H H2 : Hp} {l : Addr} {o : HO} (s : Same H H2) (h : H l = none) : Same H (upd H2 l o) := fun b u e => by
  rw [upd_ne (ne_of_none e h)]
  exact s b u e
theorem pair_one {F : V → (Nat × Nat) → Prop} {x : V} {q : Nat × Nat} : ∀ {xs : List V} {ds : List (Nat × Nat)}, Paired F xs ds → F x q → Paired F (xs ++ [x]) (ds ++ [q])
  | _, _, .nil, h => .cons h .nil
  | _, _, .cons r t, h => .cons r (pair_one t h)
theorem RepP.add {H : Hp} {l p : Addr} {xs : List V} {ds : List (Nat × Nat)} {i j : Int} {a b : Nat} (r : RepP H xs ds) (hx : H l = some (.lst xs)) (hp : H p = none) (ha : i = (a : Nat)) (hb : j = (b : Nat)) :
    RepP (upd (upd H p (.tup [.int i, .int j])) l (.lst (xs ++ [.ref p]))) (xs ++ [.ref p]) (ds ++ [(a, b)]) := by
  have npl : p ≠ l := (ne_of_none hx hp).symm
  refine pair_one (Paired.mapP r fun v q ⟨c, h1, h2⟩ => ⟨c, h1, ?_⟩) ⟨p, rfl, ?_⟩
  · rw [upd_ne (ne_of h2 hx (by intro z; cases z)), upd_ne (ne_of_none h2 hp)]
    exact h2
  · rw [upd_ne npl, upd_same, ha, hb]
def pD (q : Nat × Nat) : PyData := .tuple [.int (q.1 : Nat), .int (q.2 : Nat)]
theorem RepP.reps {K : PySem.W.Frag} {H : Hp} : ∀ {xs : List V} {ds : List (Nat × Nat)}, RepP H xs ds → Reps K H xs (ds.map pD)
  | _, _, .nil => .nil
  | _, _, .cons ⟨a, h1, h2⟩ t => by
    subst h1
    exact .cons (.tup (SqT.of h2) (.cons (.int _) (.cons (.int _) .nil))) (RepP.reps t)
theorem lay_pairs : ∀ ds : List (Nat × Nat), PyData.canLayAll0 (ds.map pD) = true ∧ PyData.depthAll (ds.map pD) ≤ 1
  | [] => ⟨by simp [PyData.canLayAll0], by simp [PyData.depthAll]⟩
  | q :: ds => by
    obtain ⟨h1, h2⟩ := lay_pairs ds
    constructor
    · simp [PyData.canLayAll0, pD, PyData.canLay0, h1]
    · simp only [List.map_cons, PyData.depthAll, pD, PyData.depth]
      omega
theorem shaped_pairs (ds : List (Nat × Nat)) : SeqAt.shaped (.tuple (ds.map pD)) = true := by
  obtain ⟨h1, h2⟩ := lay_pairs ds
  unfold SeqAt.shaped
  have e1 : (PyData.tuple (ds.map pD)).canLay0 = true := by simpa only [PyData.canLay0] using h1
  have e2 : (PyData.tuple (ds.map pD)).depth ≤ 64 := by
    simp only [PyData.depth]
    omega
  rw [e1, Bool.true_and]
  exact decide_eq_true e2
theorem eqv_self : ∀ ds : List (Nat × Nat), PyData.eqvAll (ds.map pD) (ds.map pD) = true
  | [] => by simp [PyData.eqvAll]
  | q :: ds => by simp [PyData.eqvAll, pD, PyData.eqv, eqv_self ds]
theorem eqv_pairs {ds : List (Nat × Nat)} : (!PyData.eqv (.tuple (ds.map pD)) (.tuple (ds.map pD))) = false := by
  simp only [PyData.eqv, eqv_self]
  rfl

/-! ### the promises of beats -/
def Further (l : List Nat) (q : Nat × Nat) : Prop := q.1 + 2 * q.2 < l.length ∧ l[q.1 + 2 * q.2]? = l[q.1 + 2 * q.2 - q.2]?
def spHB : Sp := fun vs H Q _ => ∃ (z : Str) (b : Int), vs = [.str z, .int b] ∧ z.length ≤ 100 ∧ 0 ≤ b ∧ b ≤ z.length ∧ ∀ c : Bool, (c = true ↔ Mth.hb (toL z) b.toNat) → Q (.bl c) H
def spLB : Sp := fun vs H Q _ => ∃ z : Str, vs = [.str z] ∧ 1 ≤ z.length ∧ z.length ≤ 100 ∧ ∀ b : Nat, Mth.IsLB (toL z) b → Q (.int b) H
def spDb : Sp := fun vs H Q _ => ∃ (z : Str) (p h : Int), vs = [.str z, .int p, .int h] ∧ z.length ≤ 100 ∧ 0 ≤ p ∧ 0 ≤ h ∧ ∀ c : Bool, c = Mth.isD (toL z) p.toNat h.toNat → Q (.bl c) H
def spDoubles : Sp := fun vs H Q _ => ∃ z : Str, vs = [.str z] ∧ z.length ≤ 100 ∧ ∀ (a : Addr) (xs : List V) (H' : Hp), Same H H' → H' a = some (.tup xs) → RepP H' xs (Mth.dbl (toL z)) → Q (.ref a) H'
def spDoublesL : Sp := fun vs H Q _ => ∃ z : Str, vs = [.str z] ∧ z.length ≤ 100 ∧ ∀ (a : Addr) (xs : List V) (H' : Hp), Same H H' → H' a = some (.lst xs) → RepP H' xs (Mth.dbl (toL z)) → Q (.ref a) H'
def spFree : Sp := fun vs H Q _ => ∃ z : Str, vs = [.str z] ∧ z.length ≤ 100 ∧ ∀ H' : Hp, Same H H' → Q (.bl (Mth.dbl (toL z)).isEmpty) H'
def spGF : Sp := fun vs H Q _ => ∃ (z : Str) (p h : Nat), vs = [.str z, .int (p : Nat), .int (h : Nat)] ∧ z.length ≤ 100 ∧ 1 ≤ h ∧ ∀ c : Bool, (c = true ↔ Further (toL z) (p, h)) → Q (.bl c) H
def spCalm : Sp := fun vs H Q _ => ∃ z : Str, vs = [.str z] ∧ z.length ≤ 100 ∧ ∀ H' : Hp, Same H H' → ∀ c : Bool, (c = true ↔ ∀ q ∈ Mth.dbl (toL z), ¬ Further (toL z) q) → Q (.bl c) H'
def spNum : Sp := fun vs H Q _ => ∃ t lo hi : Int, vs = [.int t, .int lo, .int hi] ∧ lo ≤ t ∧ t ≤ hi ∧ Q (.bl true) H
end Bt

/-! plain mathematics: beats of stretches, and the least rotations -/
namespace Lyn
/-- the stretch from i up to j has the beat p -/
def P (w : Nat → Int) (i j p : Nat) : Prop := ∀ t, i ≤ t → t + p < j → w t = w (t + p)
theorem P.sub {w : Nat → Int} {i j p a b : Nat} (h : P w i j p) (h1 : i ≤ a) (h2 : b ≤ j) : P w a b p := fun t q1 q2 => h t (by omega) (by omega)
theorem P.mul {w : Nat → Int} {i j p : Nat} (h : P w i j p) : ∀ (k t : Nat), i ≤ t → t + k * p < j → w t = w (t + k * p)
  | 0, t, _, _ => by simp
  | k + 1, t, h1, h2 => by
    have e : t + (k + 1) * p = t + k * p + p := by rw [Nat.succ_mul]; omega
    rw [e] at h2 ⊢
    rw [← h (t + k * p) (by omega) h2]
    exact P.mul h k t h1 (by omega)
theorem P.cong {w : Nat → Int} {i j p : Nat} (h : P w i j p) {x y : Nat} (hx : i ≤ x) (hxj : x < j) (hy : i ≤ y) (hyj : y < j) (e : x % p = y % p) : w x = w y := by
  have key : ∀ x y, i ≤ x → x ≤ y → y < j → x % p = y % p → w x = w y := by
    intro x y hx hxy hyj e
    have d : p ∣ y - x := Nat.dvd_of_mod_eq_zero (Nat.sub_mod_eq_zero_of_mod_eq e.symm)
    obtain ⟨k, hk⟩ := d
    have e2 : y = x + k * p := by rw [Nat.mul_comm k p]; omega
    rw [e2] at hyj ⊢
    exact h.mul k x hx hyj
  rcases Nat.le_total x y with q | q
  · exact key x y hx q hyj e
  · exact (key y x hy q hxj e.symm).symm
/-- two beats of a long stretch -/
theorem fw {w : Nat → Int} {i j : Nat} : ∀ (n p q : Nat), p + q ≤ n → P w i j p → P w i j q → i + p + q ≤ j → P w i j (Nat.gcd p q) := by
  intro n
  induction n with
  | zero =>
    intro p q h hp hq _
    have e1 : p = 0 := by omega
    have e2 : q = 0 := by omega
    subst e1 e2
    simpa using hp
  | succ n ih =>
    intro p q h hp hq hl
    rcases Nat.eq_zero_or_pos p with rfl | hp0
    · simpa using hq
    rcases Nat.eq_zero_or_pos q with rfl | hq0
    · simpa using hp
    rcases Nat.le_total p q with hpq | hpq
    · have d : P w i j (q - p) := fun t h1 h2 => by
        by_cases c : t + q < j
        · rw [hq t h1 c, hp (t + (q - p)) (by omega) (by omega)]
          congr 1; omega
        · have e1 := hp (t - p) (by omega) (by omega)
          have e2 := hq (t - p) (by omega) (by omega)
          rw [show t - p + p = t by omega] at e1
          rw [show t - p + q = t + (q - p) by omega] at e2
          rw [← e1, e2]
      have r := ih p (q - p) (by omega) hp d (by omega)
      rw [Nat.gcd_sub_self_right hpq] at r
      exact r
    · have d : P w i j (p - q) := fun t h1 h2 => by
        by_cases c : t + p < j
        · rw [hp t h1 c, hq (t + (p - q)) (by omega) (by omega)]
          congr 1; omega
        · have e1 := hq (t - q) (by omega) (by omega)
          have e2 := hp (t - q) (by omega) (by omega)
          rw [show t - q + q = t by omega] at e1
          rw [show t - q + p = t + (p - q) by omega] at e2
          rw [← e1, e2]
      have r := ih (p - q) q (by omega) d hq (by omega)
      rw [Nat.gcd_sub_self_left hpq] at r
      exact r
theorem fineWilf {w : Nat → Int} {i j p q : Nat} (hp : P w i j p) (hq : P w i j q) (hl : i + p + q ≤ j) : P w i j (Nat.gcd p q) := fw (p + q) p q (Nat.le_refl _) hp hq hl
/-- a place of the window of q places from a on that is congruent to x -/
theorem shift (a q x : Nat) (hq : 0 < q) : ∃ y, a ≤ y ∧ y < a + q ∧ y % q = x % q := by
  refine ⟨a + (x + q - a % q) % q, Nat.le_add_right _ _, by have := Nat.mod_lt (x + q - a % q) hq; omega, ?_⟩
  have h1 : a % q < q := Nat.mod_lt a hq
  rw [Nat.add_mod, Nat.mod_mod, ← Nat.add_mod]
  have e : a + (x + q - a % q) = x + q * (a / q + 1) := by
    have := Nat.div_add_mod a q
    rw [Nat.mul_add, Nat.mul_one]
    omega
  rw [e, Nat.add_mul_mod_self_left]
/-- a beat of a window as long as the beat q, which goes into q, is a beat of all of it -/
theorem P.window {w : Nat → Int} {i j q a b d : Nat} (h : P w i j q) (ha : i ≤ a) (hb : b ≤ j) (hab : a + q ≤ b) (hq : 0 < q) (hd : d ∣ q) (hw : P w a b d) : P w i j d := by
  intro t h1 h2
  obtain ⟨x, x1, x2, x3⟩ := shift a q t hq
  obtain ⟨y, y1, y2, y3⟩ := shift a q (t + d) hq
  have e1 : w t = w x := h.cong h1 (by omega) (by omega) (by omega) x3.symm
  have e2 : w (t + d) = w y := h.cong (by omega) h2 (by omega) (by omega) y3.symm
  rw [e1, e2]
  refine hw.cong x1 (by omega) y1 (by omega) ?_
  obtain ⟨k, rfl⟩ := hd
  have f1 : x % d = t % d := by
    rw [← Nat.mod_mul_right_mod x d k, x3, Nat.mod_mul_right_mod]
  have f2 : y % d = (t + d) % d := by
    rw [← Nat.mod_mul_right_mod y d k, y3, Nat.mod_mul_right_mod]
  rw [f1, f2, Nat.add_mod_right]

/-! ### rows of p letters compared -/
def Ls (p : Nat) (u v : Nat → Int) : Prop := ∃ m, m < p ∧ (∀ t, t < m → u t = v t) ∧ u m < v m
theorem Ls.asymm {p : Nat} {u v : Nat → Int} (a : Ls p u v) (b : Ls p v u) : False := by
  obtain ⟨m, hm, em, lm⟩ := a
  obtain ⟨k, hk, ek, lk⟩ := b
  rcases Nat.lt_trichotomy m k with h | h | h
  · have := ek m h; omega
  · subst h; omega
  · have := em k h; omega
theorem Ls.tri (u v : Nat → Int) : ∀ p, Ls p u v ∨ Ls p v u ∨ ∀ t, t < p → u t = v t
  | 0 => .inr (.inr fun t h => absurd h (Nat.not_lt_zero t))
  | p + 1 => by
    rcases Ls.tri u v p with ⟨m, a, b, c⟩ | ⟨m, a, b, c⟩ | h
    · exact .inl ⟨m, by omega, b, c⟩
    · exact .inr (.inl ⟨m, by omega, b, c⟩)
    · rcases Int.lt_trichotomy (u p) (v p) with q | q | q
      · exact .inl ⟨p, by omega, h, q⟩
      · refine .inr (.inr fun t ht => ?_)
        rcases Nat.lt_or_eq_of_le (Nat.le_of_lt_succ ht) with r | r
        · exact h t r
        · subst r; exact q
      · exact .inr (.inl ⟨p, by omega, fun t ht => (h t ht).symm, q⟩)
theorem Ls.trans {p : Nat} {u v x : Nat → Int} (a : Ls p u v) (b : Ls p v x) : Ls p u x := by
  obtain ⟨m, hm, em, lm⟩ := a
  obtain ⟨k, hk, ek, lk⟩ := b
  rcases Nat.lt_trichotomy m k with h | h | h
  · exact ⟨m, hm, fun t ht => (em t ht).trans (ek t (by omega)), by have := ek m h; omega⟩
  · subst h; exact ⟨m, hm, fun t ht => (em t ht).trans (ek t ht), by omega⟩
  · exact ⟨k, hk, fun t ht => (em t (by omega)).trans (ek t ht), by have := em k h; omega⟩
theorem Ls.congr {p : Nat} {u v u' v' : Nat → Int} (a : Ls p u v) (hu : ∀ t, t < p → u t = u' t) (hv : ∀ t, t < p → v t = v' t) : Ls p u' v' := by
  obtain ⟨m, hm, em, lm⟩ := a
  exact ⟨m, hm, fun t ht => by rw [← hu t (by omega), ← hv t (by omega)]; exact em t ht, by rw [← hu m hm, ← hv m hm]; exact lm⟩
/-- p letters from i on, the first a put behind the others -/
def rt (w : Nat → Int) (i p a : Nat) : Nat → Int := fun t => w (i + (t + a) % p)
/-- they are ahead of all that come of them so -/
def Least (w : Nat → Int) (i p : Nat) : Prop := ∀ a, 1 ≤ a → a < p → Ls p (rt w i p 0) (rt w i p a)
theorem rt_lo {w : Nat → Int} {i p a t : Nat} (h : t + a < p) : rt w i p a t = w (i + (t + a)) := by unfold rt; rw [Nat.mod_eq_of_lt h]
theorem rt_hi {w : Nat → Int} {i p a t : Nat} (h1 : p ≤ t + a) (h2 : t + a < 2 * p) : rt w i p a t = w (i + (t + a - p)) := by
  unfold rt
  rw [Nat.mod_eq_sub_mod h1, Nat.mod_eq_of_lt (by omega)]
theorem rt_0 {w : Nat → Int} {i p t : Nat} (h : t < p) : rt w i p 0 t = w (i + t) := rt_lo (by omega)
/-- first and last letter -/
theorem Least.ends {w : Nat → Int} {i q : Nat} (h : Least w i q) (hq : 2 ≤ q) : w i < w (i + q - 1) := by
  obtain ⟨m, hm, em, lm⟩ := h (q - 1) (by omega) (by omega)
  rcases Nat.eq_zero_or_pos m with rfl | hm0
  · rw [rt_0 (by omega), rt_lo (by omega)] at lm
    rw [show i + q - 1 = i + (0 + (q - 1)) by omega]
    simpa using lm
  · have same : ∀ t, t < m → w (i + t) = w i := by
      intro t
      induction t with
      | zero => intro _; rfl
      | succ t ih =>
        intro ht
        have e := em (t + 1) ht
        rw [rt_0 (by omega), rt_hi (by omega) (by omega)] at e
        rw [e, show i + (t + 1 + (q - 1) - q) = i + t by omega]
        exact ih (by omega)
    rw [rt_0 hm, rt_hi (by omega) (by omega), show i + (m + (q - 1) - q) = i + (m - 1) by omega, same (m - 1) (by omega)] at lm
    exfalso
    refine Ls.asymm (h m hm0 hm) ⟨0, by omega, fun t ht => absurd ht (Nat.not_lt_zero t), ?_⟩
    rw [rt_lo (by omega), rt_0 (by omega)]
    simpa using lm
/-- one order: no shorter beat goes on from the same place -/
theorem Least.no_shorter {w : Nat → Int} {i p q e n : Nat} (h : Least w i q) (hp : 1 ≤ p) (hpq : p < q) (hP : P w i e p) (he : i + p ≤ e) (hq : i + q ≤ n) (hend : e = n ∨ w e < w (e - p)) : False := by
  by_cases c : e < i + q
  · have lt : w e < w (e - p) := by
      rcases hend with r | r
      · omega
      · exact r
    refine Ls.asymm (h p hp hpq) ⟨e - i - p, by omega, fun t ht => ?_, ?_⟩
    · rw [rt_lo (by omega), rt_0 (by omega), ← Nat.add_assoc]
      exact (hP (i + t) (by omega) (by omega)).symm
    · rw [rt_lo (by omega), rt_0 (by omega), show i + (e - i - p + p) = e by omega, show i + (e - i - p) = e - p by omega]
      exact lt
  · obtain ⟨m, hm, em, lm⟩ := h p hp hpq
    have hmq : q - p ≤ m := by
      refine Nat.le_of_not_lt fun z => ?_
      rw [rt_0 hm, rt_lo (by omega), ← Nat.add_assoc, ← hP (i + m) (by omega) (by omega)] at lm
      omega
    refine Ls.asymm (h (q - p) (by omega) (by omega)) ⟨m - (q - p), by omega, fun t ht => ?_, ?_⟩
    · have e1 := em (q - p + t) (by omega)
      rw [rt_0 (by omega), rt_hi (by omega) (by omega)] at e1
      rw [rt_lo (by omega), rt_0 (by omega), show i + (t + (q - p)) = i + (q - p + t) by omega, e1]
      congr 1; omega
    · rw [rt_0 hm, rt_hi (by omega) (by omega)] at lm
      rw [rt_lo (by omega), rt_0 (by omega), show i + (m - (q - p) + (q - p)) = i + m by omega]
      rw [show i + (m - (q - p)) = i + (m + p - q) by omega]
      exact lm

/-! ### runs -/
structure Run (w : Nat → Int) (n f e p : Nat) : Prop where
  p1 : 1 ≤ p
  two : f + 2 * p ≤ e
  en : e ≤ n
  per : P w f e p
  least : ∀ d, 1 ≤ d → d < p → ¬ P w f e d
  left : f = 0 ∨ w (f - 1) ≠ w (f - 1 + p)
  right : e = n ∨ w e ≠ w (e - p)
/-- two runs with one beat that share p places -/
theorem Run.same {w : Nat → Int} {n f e p f' e' : Nat} (r : Run w n f e p) (s : Run w n f' e' p) {x : Nat} (h1 : f ≤ x) (h2 : x + p ≤ e) (h3 : f' ≤ x) (h4 : x + p ≤ e') : f = f' ∧ e = e' := by
  have key : ∀ {f e f' e' : Nat}, Run w n f e p → Run w n f' e' p → f ≤ x → x + p ≤ e → f' ≤ x → x + p ≤ e' → f' ≤ f ∧ e ≤ e' := by
    intro f e f' e' r s h1 h2 h3 h4
    constructor
    · refine Nat.le_of_not_lt fun z => ?_
      rcases s.left with q | q
      · omega
      · exact q (r.per (f' - 1) (by omega) (by omega))
    · refine Nat.le_of_not_lt fun z => ?_
      rcases s.right with q | q
      · have := r.en; omega
      · have := r.per (e' - p) (by omega) (by omega)
        rw [show e' - p + p = e' by have := s.two; omega] at this
        exact q this.symm
  obtain ⟨a1, a2⟩ := key r s h1 h2 h3 h4
  obtain ⟨b1, b2⟩ := key s r h3 h4 h1 h2
  omega
/-- the order of a run: the sign that is put ahead of its letters -/
def up (w : Nat → Int) (n e p : Nat) : Prop := e = n ∨ w e < w (e - p)
def neg (w : Nat → Int) : Nat → Int := fun t => - w t
theorem P.neg {w : Nat → Int} {i j p : Nat} (h : P w i j p) : P (Lyn.neg w) i j p := fun t h1 h2 => by unfold Lyn.neg; rw [h t h1 h2]
/-- x is a place of its own of the run -/
def Own (w : Nat → Int) (n f e p x : Nat) : Prop := f < x ∧ x + p ≤ e ∧ ((up w n e p ∧ Least w x p) ∨ (¬ up w n e p ∧ Least (neg w) x p))
theorem own_apart {w : Nat → Int} {n f e p f' e' p' x : Nat} (r : Run w n f e p) (s : Run w n f' e' p') (a : Own w n f e p x) (b : Own w n f' e' p' x) : f = f' ∧ e = e' ∧ p = p' := by
  obtain ⟨a1, a2, a3⟩ := a
  obtain ⟨b1, b2, b3⟩ := b
  have fin : p = p' → f = f' ∧ e = e' ∧ p = p' := fun q => by
    subst q
    obtain ⟨c1, c2⟩ := r.same s (x := x) (by omega) a2 (by omega) b2
    exact ⟨c1, c2, rfl⟩
  have er : w (x - 1) = w (x + p - 1) := by
    have := r.per (x - 1) (by omega) (by have := r.p1; omega)
    rw [this]; congr 1; omega
  have es : w (x - 1) = w (x + p' - 1) := by
    have := s.per (x - 1) (by omega) (by have := s.p1; omega)
    rw [this]; congr 1; omega
  have p1 := r.p1
  have p1' := s.p1
  have dn : ∀ {e p : Nat}, ¬ up w n e p → (e = n ∨ w e ≠ w (e - p)) → neg w e < neg w (e - p) := by
    intro e p h1 h2
    unfold up at h1
    unfold neg
    have h3 : e ≠ n := fun z => h1 (.inl z)
    have h4 : ¬ w e < w (e - p) := fun z => h1 (.inr z)
    rcases h2 with q | q
    · exact absurd q h3
    · omega
  rcases a3 with ⟨u1, l1⟩ | ⟨u1, l1⟩
  · rcases b3 with ⟨u2, l2⟩ | ⟨u2, l2⟩
    · rcases Nat.lt_trichotomy p p' with q | q | q
      · exact (l2.no_shorter p1 q (r.per.sub (by omega) (Nat.le_refl _)) a2 (Nat.le_trans b2 s.en) u1).elim
      · exact fin q
      · exact (l1.no_shorter p1' q (s.per.sub (by omega) (Nat.le_refl _)) b2 (Nat.le_trans a2 r.en) u2).elim
    · rcases Nat.lt_or_ge p 2 with q | q
      · rcases Nat.lt_or_ge p' 2 with q' | q'
        · exact fin (by omega)
        · have h2 := l2.ends q'
          unfold neg at h2
          have e1 : p = 1 := by omega
          subst e1
          rw [show x + 1 - 1 = x by omega] at er
          omega
      · have h1 := l1.ends q
        rcases Nat.lt_or_ge p' 2 with q' | q'
        · have e1 : p' = 1 := by omega
          subst e1
          rw [show x + 1 - 1 = x by omega] at es
          omega
        · have h2 := l2.ends q'
          unfold neg at h2
          omega
  · rcases b3 with ⟨u2, l2⟩ | ⟨u2, l2⟩
    · rcases Nat.lt_or_ge p 2 with q | q
      · rcases Nat.lt_or_ge p' 2 with q' | q'
        · exact fin (by omega)
        · have h2 := l2.ends q'
          have e1 : p = 1 := by omega
          subst e1
          rw [show x + 1 - 1 = x by omega] at er
          omega
      · have h1 := l1.ends q
        unfold neg at h1
        rcases Nat.lt_or_ge p' 2 with q' | q'
        · have e1 : p' = 1 := by omega
          subst e1
          rw [show x + 1 - 1 = x by omega] at es
          omega
        · have h2 := l2.ends q'
          omega
    · rcases Nat.lt_trichotomy p p' with q | q | q
      · exact (l2.no_shorter p1 q (r.per.neg.sub (by omega) (Nat.le_refl _)) a2 (Nat.le_trans b2 s.en) (.inr (dn u1 r.right))).elim
      · exact fin q
      · exact (l1.no_shorter p1' q (s.per.neg.sub (by omega) (Nat.le_refl _)) b2 (Nat.le_trans a2 r.en) (.inr (dn u2 s.right))).elim
end Lyn

/-! plain mathematics: each run has places of its own; fewer runs than letters -/
namespace Lyn
theorem add_mod_mod' (x y p : Nat) : (x + y % p) % p = (x + y) % p := by rw [Nat.add_mod, Nat.mod_mod, ← Nat.add_mod]
/-- the rows of p letters within a run are those of p places -/
theorem rt_row {w : Nat → Int} {f e p x a : Nat} (per : P w f e p) (hp : 1 ≤ p) (two : f + 2 * p ≤ e) (h1 : f < x) (h2 : x ≤ f + p) (ha : a < p) :
    ∃ y, f < y ∧ y ≤ f + p ∧ (y = x + a ∨ y + p = x + a) ∧ ∀ t, t < p → rt w x p a t = w (y + t) := by
  have main : ∀ y, f < y → y ≤ f + p → (y = x + a ∨ y + p = x + a) → ∀ t, t < p → rt w x p a t = w (y + t) := by
    intro y y1 y2 y3 t ht
    unfold rt
    have m := Nat.mod_lt (t + a) (show 0 < p by omega)
    refine per.cong (by omega) (by omega) (by omega) (by omega) ?_
    rw [add_mod_mod']
    rcases y3 with rfl | y3
    · congr 1; omega
    · rw [show x + (t + a) = y + t + p by omega, Nat.add_mod_right]
  by_cases c : x + a ≤ f + p
  · exact ⟨x + a, by omega, c, .inl rfl, main _ (by omega) c (.inl rfl)⟩
  · exact ⟨x + a - p, by omega, by omega, .inr (by omega), main _ (by omega) (by omega) (.inr (by omega))⟩
/-- two rows of p letters are unlike -/
theorem rows_unlike {w : Nat → Int} {f e p x y : Nat} (per : P w f e p) (hp : 1 ≤ p) (two : f + 2 * p ≤ e) (least : ∀ d, 1 ≤ d → d < p → ¬ P w f e d) (h1 : f < x) (hxy : x < y) (h2 : y ≤ f + p) (eq : ∀ t, t < p → w (x + t) = w (y + t)) : False := by
  have d : P w x (y + p) (y - x) := fun t q1 q2 => by
    have := eq (t - x) (by omega)
    rw [show x + (t - x) = t by omega, show y + (t - x) = t + (y - x) by omega] at this
    exact this
  have g := fineWilf (per.sub (a := x) (b := y + p) (by omega) (by omega)) d (by omega)
  have g0 : 0 < Nat.gcd p (y - x) := Nat.gcd_pos_of_pos_left _ (by omega)
  have g1 : Nat.gcd p (y - x) ≤ y - x := Nat.gcd_le_right _ (by omega)
  exact least _ g0 (by omega) (per.window (a := x) (b := y + p) (by omega) (by omega) (by omega) (by omega) (Nat.gcd_dvd_left _ _) g)
theorem least_row (w : Nat → Int) (f p : Nat) : ∀ k, 1 ≤ k → ∃ x, f < x ∧ x ≤ f + k ∧ ∀ y, f < y → y ≤ f + k → ¬ Ls p (fun t => w (y + t)) (fun t => w (x + t)) := by
  intro k
  induction k with
  | zero => intro h; omega
  | succ k ih =>
    intro _
    rcases Nat.eq_zero_or_pos k with rfl | hk
    · refine ⟨f + 1, by omega, by omega, fun y h1 h2 q => ?_⟩
      have : y = f + 1 := by omega
      subst this
      exact q.asymm q
    · obtain ⟨x, x1, x2, x3⟩ := ih hk
      rcases Ls.tri (fun t => w (f + k + 1 + t)) (fun t => w (x + t)) p with q | q | q
      · refine ⟨f + k + 1, by omega, by omega, fun y h1 h2 z => ?_⟩
        rcases Nat.lt_or_ge y (f + k + 1) with r | r
        · exact x3 y h1 (by omega) (z.trans q)
        · have : y = f + k + 1 := by omega
          subst this
          exact z.asymm z
      · refine ⟨x, x1, by omega, fun y h1 h2 z => ?_⟩
        rcases Nat.lt_or_ge y (f + k + 1) with r | r
        · exact x3 y h1 (by omega) z
        · have : y = f + k + 1 := by omega
          subst this
          exact z.asymm q
      · refine ⟨x, x1, by omega, fun y h1 h2 z => ?_⟩
        rcases Nat.lt_or_ge y (f + k + 1) with r | r
        · exact x3 y h1 (by omega) z
        · have : y = f + k + 1 := by omega
          subst this
          obtain ⟨m, m1, _, m3⟩ := z
          have := q m m1
          simp only at this m3
          omega
theorem least_exists {w : Nat → Int} {f e p : Nat} (per : P w f e p) (hp : 1 ≤ p) (two : f + 2 * p ≤ e) (least : ∀ d, 1 ≤ d → d < p → ¬ P w f e d) : ∃ x, f < x ∧ x ≤ f + p ∧ Least w x p := by
  obtain ⟨x, x1, x2, x3⟩ := least_row w f p p hp
  refine ⟨x, x1, x2, fun a a1 a2 => ?_⟩
  obtain ⟨y, y1, y2, y3, y4⟩ := rt_row per hp two x1 x2 a2
  have r0 : ∀ t, t < p → rt w x p 0 t = w (x + t) := fun t ht => rt_0 ht
  have key : Ls p (fun t => w (x + t)) (fun t => w (y + t)) := by
    rcases Ls.tri (fun t => w (x + t)) (fun t => w (y + t)) p with q | q | q
    · exact q
    · exact absurd q (x3 y y1 y2)
    · exfalso
      rcases Nat.lt_trichotomy x y with z | z | z
      · exact rows_unlike per hp two least x1 z y2 q
      · omega
      · exact rows_unlike per hp two least y1 z x2 (fun t ht => (q t ht).symm)
  exact key.congr (fun t ht => (r0 t ht).symm) (fun t ht => (y4 t ht).symm)
theorem Least.next {w : Nat → Int} {f e p x : Nat} (h : Least w x p) (per : P w f e p) (h1 : f ≤ x) (h2 : x + 2 * p ≤ e) (hp : 1 ≤ p) : Least w (x + p) p := by
  have key : ∀ a t, rt w x p a t = rt w (x + p) p a t := fun a t => by
    unfold rt
    have m := Nat.mod_lt (t + a) (show 0 < p by omega)
    rw [per (x + (t + a) % p) (by omega) (by omega)]
    congr 1; omega
  intro a a1 a2
  exact (h a a1 a2).congr (fun t _ => key 0 t) (fun t _ => key a t)
theorem Least.many {w : Nat → Int} {f e p x : Nat} (h : Least w x p) (per : P w f e p) (h1 : f ≤ x) (hp : 1 ≤ p) : ∀ k, x + k * p + p ≤ e → Least w (x + k * p) p
  | 0, _ => by simpa using h
  | k + 1, q => by
    rw [Nat.succ_mul] at q ⊢
    have := (Least.many h per h1 hp k (by omega)).next per (by omega) (by omega) hp
    rw [Nat.add_assoc] at this
    exact this
theorem Run.least_neg {w : Nat → Int} {n f e p : Nat} (r : Run w n f e p) : ∀ d, 1 ≤ d → d < p → ¬ P (neg w) f e d := fun d h1 h2 h => r.least d h1 h2 fun t q1 q2 => by
  have := h t q1 q2
  unfold neg at this
  omega
/-- own places: at least one less than how often the beat goes into the run -/
theorem Run.own {w : Nat → Int} {n f e p : Nat} (r : Run w n f e p) : ∃ x, f < x ∧ x ≤ f + p ∧ ∀ k, x + k * p + p ≤ e → Own w n f e p (x + k * p) := by
  by_cases u : up w n e p
  · obtain ⟨x, x1, x2, x3⟩ := least_exists r.per r.p1 r.two r.least
    exact ⟨x, x1, x2, fun k hk => ⟨by omega, hk, .inl ⟨u, x3.many r.per (by omega) r.p1 k hk⟩⟩⟩
  · obtain ⟨x, x1, x2, x3⟩ := least_exists r.per.neg r.p1 r.two r.least_neg
    exact ⟨x, x1, x2, fun k hk => ⟨by omega, hk, .inr ⟨u, x3.many r.per.neg (by omega) r.p1 k hk⟩⟩⟩
theorem Run.own_one {w : Nat → Int} {n f e p : Nat} (r : Run w n f e p) : ∃ x, Own w n f e p x := by
  obtain ⟨x, x1, x2, x3⟩ := r.own
  have := x3 0 (by have := r.two; omega)
  exact ⟨_, this⟩

/-! ### counting -/
theorem nodup_bound : ∀ (n : Nat) (l : List Nat), l.Nodup → (∀ x ∈ l, 1 ≤ x ∧ x < n) → l.length ≤ n - 1 := by
  intro n
  induction n with
  | zero =>
    intro l _ h
    cases l with
    | nil => simp
    | cons a l => have := h a List.mem_cons_self; omega
  | succ n ih =>
    intro l nd h
    by_cases c : n ∈ l
    · have nd2 : (l.erase n).Nodup := nd.erase n
      have len : (l.erase n).length = l.length - 1 := List.length_erase_of_mem c
      have := ih (l.erase n) nd2 fun x hx => by
        have h1 := h x (List.mem_of_mem_erase hx)
        have h2 : x ≠ n := fun z => by
          subst z
          exact (List.Nodup.not_mem_erase nd) hx
        omega
      have hc := h n c
      have pos : 0 < l.length := List.length_pos_of_mem c
      omega
    · have := ih l nd fun x hx => by
        have h1 := h x hx
        have h2 : x ≠ n := fun z => c (z ▸ hx)
        omega
      omega
abbrev Tri := Nat × Nat × Nat
/-- the first own places of a run -/
structure Places (w : Nat → Int) (n : Nat) (r : Tri) (l : List Nat) : Prop where
  own : ∀ x ∈ l, Own w n r.1 r.2.1 r.2.2 x
  nd : l.Nodup
  len : (r.2.1 - r.1) / r.2.2 ≤ l.length + 1
  one : 1 ≤ l.length
theorem places_of {w : Nat → Int} {n : Nat} {r : Tri} (h : Run w n r.1 r.2.1 r.2.2) : ∃ l, Places w n r l := by
  obtain ⟨f, e, p⟩ := r
  simp only at h
  obtain ⟨x, x1, x2, x3⟩ := h.own
  have hp := h.p1
  have two := h.two
  have hm : 2 ≤ (e - f) / p := by rw [Nat.le_div_iff_mul_le (by omega)]; omega
  have hq : (e - f) / p * p ≤ e - f := Nat.div_mul_le_self _ _
  refine ⟨(List.range ((e - f) / p - 1)).map fun k => x + k * p, fun y hy => ?_, ?_, ?_, ?_⟩
  · obtain ⟨k, hk, rfl⟩ := List.mem_map.mp hy
    rw [List.mem_range] at hk
    refine x3 k ?_
    have : (k + 2) * p ≤ (e - f) / p * p := Nat.mul_le_mul_right p (by omega)
    rw [Nat.add_mul] at this
    omega
  · unfold List.Nodup
    rw [List.pairwise_map]
    refine (List.nodup_range (n := (e - f) / p - 1)).imp fun {a b} hab q => hab ?_
    have q' : x + a * p = x + b * p := q
    exact Nat.eq_of_mul_eq_mul_right (by omega : 0 < p) (by omega)
  · show (e - f) / p ≤ _
    simp only [List.length_map, List.length_range]
    omega
  · simp only [List.length_map, List.length_range]
    omega
/-- all together -/
theorem places_all {w : Nat → Int} {n : Nat} : ∀ (rs : List Tri), rs.Nodup → (∀ r ∈ rs, Run w n r.1 r.2.1 r.2.2) →
    ∃ l : List Nat, l.Nodup ∧ (∀ x ∈ l, ∃ r ∈ rs, Own w n r.1 r.2.1 r.2.2 x) ∧ rs.length ≤ l.length ∧ (rs.map fun r => (r.2.1 - r.1) / r.2.2).sum ≤ l.length + rs.length := by
  intro rs
  induction rs with
  | nil => intro _ _; exact ⟨[], List.nodup_nil, (fun x hx => absurd hx (by simp)), Nat.le_refl _, Nat.le_refl _⟩
  | cons r rs ih =>
    intro nd h
    obtain ⟨nd1, nd2⟩ := List.nodup_cons.mp nd
    obtain ⟨l, l1, l2, l3, l4⟩ := ih nd2 fun s hs => h s (List.mem_cons_of_mem _ hs)
    obtain ⟨m, m1⟩ := places_of (h r List.mem_cons_self)
    refine ⟨m ++ l, ?_, fun x hx => ?_, ?_, ?_⟩
    · rw [List.nodup_append]
      refine ⟨m1.nd, l1, fun a ha b hb q => ?_⟩
      subst q
      obtain ⟨s, hs, os⟩ := l2 a hb
      obtain ⟨e1, e2, e3⟩ := own_apart (h r List.mem_cons_self) (h s (List.mem_cons_of_mem _ hs)) (m1.own a ha) os
      apply nd1
      have : r = s := by
        obtain ⟨a1, a2, a3⟩ := r
        obtain ⟨b1, b2, b3⟩ := s
        simp only at e1 e2 e3
        subst e1 e2 e3
        rfl
      rw [this]; exact hs
    · rcases List.mem_append.mp hx with q | q
      · exact ⟨r, List.mem_cons_self, m1.own x q⟩
      · obtain ⟨s, hs, os⟩ := l2 x q
        exact ⟨s, List.mem_cons_of_mem _ hs, os⟩
    · have := m1.one
      simp only [List.length_cons, List.length_append]
      omega
    · have := m1.len
      simp only [List.map_cons, List.sum_cons, List.length_cons, List.length_append]
      omega
theorem own_range {w : Nat → Int} {n f e p x : Nat} (r : Run w n f e p) (o : Own w n f e p x) : 1 ≤ x ∧ x < n := by
  obtain ⟨h1, h2, _⟩ := o
  have := r.p1
  have := r.en
  omega
/-- fewer runs than letters; how often they come again, added -/
theorem runs_few {w : Nat → Int} {n : Nat} {rs : List Tri} (nd : rs.Nodup) (h : ∀ r ∈ rs, Run w n r.1 r.2.1 r.2.2) :
    rs.length ≤ n - 1 ∧ (rs.map fun r => (r.2.1 - r.1) / r.2.2).sum ≤ 2 * (n - 1) := by
  obtain ⟨l, l1, l2, l3, l4⟩ := places_all rs nd h
  have b := nodup_bound n l l1 fun x hx => by
    obtain ⟨r, hr, o⟩ := l2 x hx
    exact own_range (h r hr) o
  omega
theorem runs_sum {w : Nat → Int} {n : Nat} {rs : List Tri} (nd : rs.Nodup) (h : ∀ r ∈ rs, Run w n r.1 r.2.1 r.2.2) (W : Nat) (hW : ∀ r ∈ rs, r.2.2 ∣ W) :
    (rs.map fun r => (r.2.1 - r.1) * (W / r.2.2)).sum ≤ 3 * n * W := by
  obtain ⟨h1, h2⟩ := runs_few nd h
  have key : ∀ ts : List Tri, (∀ r ∈ ts, r.2.2 ∣ W ∧ 1 ≤ r.2.2) → (ts.map fun r => (r.2.1 - r.1) * (W / r.2.2)).sum ≤ ((ts.map fun r => (r.2.1 - r.1) / r.2.2).sum + ts.length) * W := by
    intro ts
    induction ts with
    | nil => intro _; simp
    | cons r ts ih =>
      intro hd
      have i := ih fun s hs => hd s (List.mem_cons_of_mem _ hs)
      obtain ⟨⟨c, hc⟩, p1⟩ := hd r List.mem_cons_self
      simp only [List.map_cons, List.sum_cons, List.length_cons]
      have e1 : W / r.2.2 = c := by rw [hc, Nat.mul_div_cancel_left _ (by omega)]
      have e2 : r.2.1 - r.1 ≤ ((r.2.1 - r.1) / r.2.2 + 1) * r.2.2 := by
        have a := Nat.div_add_mod (r.2.1 - r.1) r.2.2
        have b := Nat.mod_lt (r.2.1 - r.1) (show 0 < r.2.2 by omega)
        rw [Nat.add_mul, Nat.mul_comm]
        omega
      have e3 : (r.2.1 - r.1) * (W / r.2.2) ≤ ((r.2.1 - r.1) / r.2.2 + 1) * W := by
        rw [e1]
        calc (r.2.1 - r.1) * c ≤ ((r.2.1 - r.1) / r.2.2 + 1) * r.2.2 * c := Nat.mul_le_mul_right c e2
          _ = ((r.2.1 - r.1) / r.2.2 + 1) * W := by rw [Nat.mul_assoc, ← hc]
      calc (r.2.1 - r.1) * (W / r.2.2) + (ts.map fun r => (r.2.1 - r.1) * (W / r.2.2)).sum
          ≤ ((r.2.1 - r.1) / r.2.2 + 1) * W + ((ts.map fun r => (r.2.1 - r.1) / r.2.2).sum + ts.length) * W := Nat.add_le_add e3 i
        _ = ((r.2.1 - r.1) / r.2.2 + (ts.map fun r => (r.2.1 - r.1) / r.2.2).sum + (ts.length + 1)) * W := by
          rw [← Nat.add_mul]; congr 1; omega
  refine Nat.le_trans (key rs fun r hr => ⟨hW r hr, (h r hr).p1⟩) (Nat.mul_le_mul_right W ?_)
  omega
end Lyn

/-! plain mathematics: doubles and runs; lists and places -/
namespace Lyn
structure LB (w : Nat → Int) (a b q : Nat) : Prop where
  q1 : 1 ≤ q
  per : P w a b q
  least : ∀ d, 1 ≤ d → d < q → ¬ P w a b d
theorem LB.unique {w : Nat → Int} {a b q q' : Nat} (x : LB w a b q) (y : LB w a b q') : q = q' := by
  rcases Nat.lt_trichotomy q q' with h | h | h
  · exact absurd x.per (y.least q x.q1 h)
  · exact h
  · exact absurd y.per (x.least q' y.q1 h)
theorem lb_exists {w : Nat → Int} {a b : Nat} : ∀ h, 1 ≤ h → P w a b h → ∃ q, q ≤ h ∧ LB w a b q := by
  intro h
  induction h using Nat.strongRecOn with
  | _ h ih =>
    intro h1 hp
    by_cases c : ∃ d, 1 ≤ d ∧ d < h ∧ P w a b d
    · obtain ⟨d, d1, d2, d3⟩ := c
      obtain ⟨q, q1, q2⟩ := ih d d2 d1 d3
      exact ⟨q, by omega, q2⟩
    · exact ⟨h, Nat.le_refl _, h1, hp, fun d d1 d2 d3 => c ⟨d, d1, d2, d3⟩⟩
theorem go_left {w : Nat → Int} {b q : Nat} : ∀ a, P w a b q → ∃ f, f ≤ a ∧ P w f b q ∧ (f = 0 ∨ w (f - 1) ≠ w (f - 1 + q)) := by
  intro a
  induction a with
  | zero => intro h; exact ⟨0, Nat.le_refl _, h, .inl rfl⟩
  | succ a ih =>
    intro h
    by_cases c : w a = w (a + q)
    · obtain ⟨f, f1, f2, f3⟩ := ih fun t q1 q2 => by
        rcases Nat.lt_or_ge a t with z | z
        · exact h t z q2
        · have : t = a := by omega
          subst this; exact c
      exact ⟨f, by omega, f2, f3⟩
    · exact ⟨a + 1, Nat.le_refl _, h, .inr (by simpa using c)⟩
theorem go_right {w : Nat → Int} {a q n : Nat} : ∀ k b, n - b = k → b ≤ n → q ≤ b → P w a b q → ∃ e, b ≤ e ∧ e ≤ n ∧ P w a e q ∧ (e = n ∨ w e ≠ w (e - q)) := by
  intro k
  induction k with
  | zero => intro b h1 h2 _ h; exact ⟨b, Nat.le_refl _, h2, h, .inl (by omega)⟩
  | succ k ih =>
    intro b h1 h2 h3 h
    by_cases c : w b = w (b - q)
    · obtain ⟨e, e1, e2, e3, e4⟩ := ih (b + 1) (by omega) (by omega) (by omega) fun t q1 q2 => by
        rcases Nat.lt_or_ge (t + q) b with z | z
        · exact h t q1 z
        · have : t + q = b := by omega
          rw [this, c]; congr 1; omega
      exact ⟨e, by omega, e2, e3, e4⟩
    · exact ⟨b, Nat.le_refl _, h2, h, .inr c⟩
/-- the least beat of a double's stretch goes into its half -/
theorem lb_dvd {w : Nat → Int} {a h q : Nat} (h1 : 1 ≤ h) (hp : P w a (a + 2 * h) h) (x : LB w a (a + 2 * h) q) (hq : q ≤ h) : q ∣ h := by
  have g := fineWilf x.per hp (by omega)
  have g0 : 0 < Nat.gcd q h := Nat.gcd_pos_of_pos_right _ (by omega)
  have g1 : Nat.gcd q h ≤ q := Nat.gcd_le_left _ (by have := x.q1; omega)
  have e : Nat.gcd q h = q := by
    rcases Nat.lt_or_eq_of_le g1 with z | z
    · exact absurd g (x.least _ g0 z)
    · exact z
  rw [← e]; exact Nat.gcd_dvd_right _ _
theorem double_run {w : Nat → Int} {n a h : Nat} (h1 : 1 ≤ h) (hn : a + 2 * h ≤ n) (hp : P w a (a + 2 * h) h) : ∃ f e q, Run w n f e q ∧ f ≤ a ∧ a + 2 * h ≤ e ∧ q ∣ h := by
  obtain ⟨q, q1, x⟩ := lb_exists h h1 hp
  obtain ⟨f, f1, f2, f3⟩ := go_left a x.per
  obtain ⟨e, e1, e2, e3, e4⟩ := go_right _ (a + 2 * h) rfl hn (by omega) x.per
  have per : P w f e q := fun t t1 t2 => by
    rcases Nat.lt_or_ge (t + q) (a + 2 * h) with z | z
    · exact f2 t t1 z
    · exact e3 t (by omega) t2
  exact ⟨f, e, q, ⟨x.q1, by omega, e2, per, fun d d1 d2 d3 => x.least d d1 d2 (d3.sub f1 e1), f3, e4⟩, f1, e1, lb_dvd h1 hp x q1⟩
/-- a run's beat is the least one of every stretch in it that is twice as long -/
theorem Run.lb {w : Nat → Int} {n f e q a b : Nat} (r : Run w n f e q) (h1 : f ≤ a) (h2 : b ≤ e) (h3 : a + 2 * q ≤ b) : LB w a b q := by
  refine ⟨r.p1, r.per.sub h1 h2, fun d d1 d2 d3 => ?_⟩
  have g := fineWilf (r.per.sub h1 h2) d3 (by omega)
  have g0 : 0 < Nat.gcd q d := Nat.gcd_pos_of_pos_right _ (by omega)
  have g1 : Nat.gcd q d ≤ d := Nat.gcd_le_right _ (by omega)
  exact r.least _ g0 (by omega) (r.per.window h1 h2 (by omega) (by omega) (Nat.gcd_dvd_left _ _) g)
theorem run_unique {w : Nat → Int} {n a h f e q f' e' q' : Nat} (h1 : 1 ≤ h) (r : Run w n f e q) (s : Run w n f' e' q') (r1 : f ≤ a) (r2 : a + 2 * h ≤ e) (r3 : q ∣ h) (s1 : f' ≤ a) (s2 : a + 2 * h ≤ e') (s3 : q' ∣ h) : f = f' ∧ e = e' ∧ q = q' := by
  have b1 := Nat.le_of_dvd (by omega) r3
  have b2 := Nat.le_of_dvd (by omega) s3
  have l1 := r.lb (a := a) (b := a + 2 * h) r1 r2 (by omega)
  have l2 := s.lb (a := a) (b := a + 2 * h) s1 s2 (by omega)
  have e1 := l1.unique l2
  subst e1
  obtain ⟨c1, c2⟩ := r.same s (x := a) r1 (by omega) s1 (by omega)
  exact ⟨c1, c2, rfl⟩
/-- a run has a double at its first place, as long as its beat -/
theorem Run.double {w : Nat → Int} {n f e q : Nat} (r : Run w n f e q) : P w f (f + 2 * q) q := r.per.sub (Nat.le_refl _) r.two

/-! ### lists -/
def wl (l : List Nat) : Nat → Int := fun t => (l.getD t 0 : Nat)
theorem wl_eq {l : List Nat} {x y : Nat} (hx : x < l.length) (hy : y < l.length) : wl l x = wl l y ↔ l[x]? = l[y]? := by
  unfold wl
  rw [List.getD_eq_getElem?_getD, List.getD_eq_getElem?_getD, List.getElem?_eq_getElem hx, List.getElem?_eq_getElem hy]
  simp only [Option.getD_some, Option.some.injEq]
  omega
theorem hb_iff (m : List Nat) (b : Nat) : Mth.hb m b ↔ ∀ t, t + b < m.length → m[t]? = m[t + b]? := by
  unfold Mth.hb
  constructor
  · intro h t ht
    have e := congrArg (fun x : List Nat => x[t]?) h
    simp only [List.getElem?_take, List.getElem?_drop] at e
    rw [if_pos (by omega)] at e
    rw [e, Nat.add_comm]
  · intro h
    apply List.ext_getElem?
    intro t
    rw [List.getElem?_take, List.getElem?_drop]
    by_cases c : t < m.length - b
    · rw [if_pos c, h t (by omega), Nat.add_comm]
    · rw [if_neg c, List.getElem?_eq_none (by omega)]
theorem cut_get {l : List Nat} {f e t : Nat} (h : t < e - f) : ((l.drop f).take (e - f))[t]? = l[f + t]? := by
  rw [List.getElem?_take, if_pos h, List.getElem?_drop]
theorem hb_cut {l : List Nat} {f e b : Nat} (he : e ≤ l.length) (hf : f ≤ e) : Mth.hb ((l.drop f).take (e - f)) b ↔ P (wl l) f e b := by
  rw [hb_iff]
  have len : ((l.drop f).take (e - f)).length = e - f := by rw [List.length_take, List.length_drop]; omega
  rw [len]
  constructor
  · intro h t h1 h2
    have := h (t - f) (by omega)
    rw [cut_get (by omega), cut_get (by omega), show f + (t - f) = t by omega, show f + (t - f + b) = t + b by omega] at this
    exact (wl_eq (by omega) (by omega)).mpr this
  · intro h t ht
    rw [cut_get (by omega), cut_get (by omega)]
    have := (wl_eq (by omega) (by omega)).mp (h (f + t) (by omega) (by omega))
    rw [this]; congr 1; omega
theorem isLB_cut {l : List Nat} {f e b : Nat} (he : e ≤ l.length) (hf : f ≤ e) : Mth.IsLB ((l.drop f).take (e - f)) b ↔ (LB (wl l) f e b ∧ b ≤ e - f) := by
  have len : ((l.drop f).take (e - f)).length = e - f := by rw [List.length_take, List.length_drop]; omega
  constructor
  · intro x
    have := x.hi
    rw [len] at this
    exact ⟨⟨x.lo, (hb_cut he hf).mp x.is, fun d d1 d2 d3 => x.least d d1 d2 ((hb_cut he hf).mpr d3)⟩, this⟩
  · rintro ⟨x, h⟩
    exact ⟨x.q1, by rw [len]; exact h, (hb_cut he hf).mpr x.per, fun d d1 d2 d3 => x.least d d1 d2 ((hb_cut he hf).mp d3)⟩
/-- a double by places -/
theorem dbl_P {l : List Nat} {a h : Nat} (hn : a + 2 * h ≤ l.length) : ((l.drop (a + h)).take h = (l.drop a).take h) ↔ P (wl l) a (a + 2 * h) h := by
  constructor
  · intro e t h1 h2
    have q := congrArg (fun x : List Nat => x[t - a]?) e
    simp only [List.getElem?_take, List.getElem?_drop] at q
    rw [if_pos (by omega), if_pos (by omega), show a + h + (t - a) = t + h by omega, show a + (t - a) = t by omega] at q
    exact (wl_eq (by omega) (by omega)).mpr q.symm
  · intro p
    apply List.ext_getElem?
    intro t
    rw [List.getElem?_take, List.getElem?_take, List.getElem?_drop, List.getElem?_drop]
    by_cases c : t < h
    · rw [if_pos c, if_pos c]
      have := (wl_eq (by omega) (by omega)).mp (p (a + t) (by omega) (by omega))
      rw [this]; congr 1; omega
    · rw [if_neg c, if_neg c]
end Lyn

namespace Lyn
/-! ### the rising row of all runs -/
def cd (r : Tri) : Nat := (r.1 * 1000 + r.2.1) * 1000 + r.2.2
theorem cd_inj {a b : Tri} (ha : a.2.1 < 1000 ∧ a.2.2 < 1000) (hb : b.2.1 < 1000 ∧ b.2.2 < 1000) (e : cd a = cd b) : a = b := by
  obtain ⟨a1, a2, a3⟩ := a
  obtain ⟨b1, b2, b3⟩ := b
  unfold cd at e
  simp only at *
  have e3 : a3 = b3 := by omega
  have e2 : a2 = b2 := by omega
  have e1 : a1 = b1 := by omega
  subst e1; subst e2; subst e3; rfl
def Rise (rs : List Tri) : Prop := rs.Pairwise fun a b => cd a < cd b
theorem rise_uniq : ∀ {a b : List Tri}, Rise a → Rise b → (∀ r, r ∈ a ↔ r ∈ b) → a = b
  | [], [], _, _, _ => rfl
  | [], y :: _, _, _, h => absurd ((h y).mpr List.mem_cons_self) (by simp)
  | x :: _, [], _, _, h => absurd ((h x).mp List.mem_cons_self) (by simp)
  | x :: a, y :: b, ha, hb, h => by
    have ha' := List.pairwise_cons.mp ha
    have hb' := List.pairwise_cons.mp hb
    have e : x = y := by
      rcases List.mem_cons.mp ((h x).mp List.mem_cons_self) with z | z
      · exact z
      · rcases List.mem_cons.mp ((h y).mpr List.mem_cons_self) with z' | z'
        · exact z'.symm
        · have := hb'.1 x z
          have := ha'.1 y z'
          omega
    subst e
    rw [rise_uniq ha'.2 hb'.2 fun r => ?_]
    have q := h r
    rw [List.mem_cons, List.mem_cons] at q
    constructor
    · intro z
      rcases q.mp (.inr z) with z' | z'
      · subst z'; exact absurd (ha'.1 r z) (Nat.lt_irrefl _)
      · exact z'
    · intro z
      rcases q.mpr (.inr z) with z' | z'
      · subst z'; exact absurd (hb'.1 r z) (Nat.lt_irrefl _)
      · exact z'
theorem Rise.nodup {a : List Tri} (h : Rise a) : a.Nodup := h.imp fun z e => by subst e; exact Nat.lt_irrefl _ z
structure Rl (l : List Nat) (rs : List Tri) : Prop where
  rise : Rise rs
  mem : ∀ r, r ∈ rs ↔ Run (wl l) l.length r.1 r.2.1 r.2.2
theorem Rl.uniq {l : List Nat} {a b : List Tri} (x : Rl l a) (y : Rl l b) : a = b := rise_uniq x.rise y.rise fun r => (x.mem r).trans (y.mem r).symm
theorem Rl.few {l : List Nat} {rs : List Tri} (x : Rl l rs) : rs.length ≤ l.length - 1 := (runs_few x.rise.nodup fun r hr => (x.mem r).mp hr).1
theorem Run.low {w : Nat → Int} {n : Nat} {r : Tri} (h : Run w n r.1 r.2.1 r.2.2) : r.1 ≤ n ∧ r.2.1 ≤ n ∧ r.2.2 ≤ n := by
  have := h.two
  have := h.en
  omega
/-- what the two loops reach -/
theorem run_of_spec {w : Nat → Int} {n a h q f e : Nat} (h1 : 1 ≤ h) (hn : a + 2 * h ≤ n) (hp : P w a (a + 2 * h) h) (x : LB w a (a + 2 * h) q)
    (f1 : f ≤ a) (f2 : ∀ t, f ≤ t → t < a → w t = w (t + q)) (f3 : f = 0 ∨ w (f - 1) ≠ w (f - 1 + q))
    (e1 : a + 2 * h ≤ e) (e2 : e ≤ n) (e3 : ∀ t, a + 2 * h ≤ t → t < e → w t = w (t - q)) (e4 : e = n ∨ w e ≠ w (e - q)) : Run w n f e q ∧ q ∣ h := by
  obtain ⟨q', hq', x'⟩ := lb_exists h h1 hp
  have eq := x.unique x'
  subst eq
  have per : P w f e q := fun t t1 t2 => by
    rcases Nat.lt_or_ge t a with z | z
    · exact f2 t t1 z
    · rcases Nat.lt_or_ge (t + q) (a + 2 * h) with z' | z'
      · exact x.per t z z'
      · have := e3 (t + q) z' t2
        rw [show t + q - q = t by omega] at this
        exact this.symm
  exact ⟨⟨x.q1, by omega, e2, per, fun d d1 d2 d3 => x.least d d1 d2 (d3.sub f1 e1), f3, e4⟩, lb_dvd h1 hp x hq'⟩
/-- the run of a double -/
def RunOf (l : List Nat) (d : Nat × Nat) (r : Tri) : Prop := Run (wl l) l.length r.1 r.2.1 r.2.2 ∧ r.1 ≤ d.1 ∧ d.1 + 2 * d.2 ≤ r.2.1 ∧ r.2.2 ∣ d.2
theorem RunOf.uniq {l : List Nat} {d : Nat × Nat} {r s : Tri} (h1 : 1 ≤ d.2) (a : RunOf l d r) (b : RunOf l d s) : r = s := by
  obtain ⟨a1, a2, a3⟩ := r
  obtain ⟨b1, b2, b3⟩ := s
  obtain ⟨x1, x2, x3, x4⟩ := a
  obtain ⟨y1, y2, y3, y4⟩ := b
  obtain ⟨z1, z2, z3⟩ := run_unique h1 x1 y1 x2 x3 x4 y2 y3 y4
  simp only at z1 z2 z3
  subst z1; subst z2; subst z3; rfl
/-- every run has its double at its first place -/
theorem Run.mem_dbl {l : List Nat} {r : Tri} (h : Run (wl l) l.length r.1 r.2.1 r.2.2) : (r.1, r.2.2) ∈ Mth.dbl l ∧ RunOf l (r.1, r.2.2) r := by
  have h1 := h.p1
  have h2 := h.two
  have h3 := h.en
  refine ⟨?_, h, Nat.le_refl _, h.two, Nat.dvd_refl _⟩
  unfold Mth.dbl
  rw [Mth.mem_rows]
  refine ⟨by show r.1 < l.length; omega, h1, by show r.2.2 ≤ l.length - 1; omega, ?_⟩
  unfold Mth.isD'
  rw [Bool.and_eq_true, decide_eq_true_eq, decide_eq_true_eq]
  refine ⟨?_, (dbl_P (by omega)).mpr h.double⟩
  rw [List.length_take, List.length_drop]
  show min r.2.2 (l.length - r.1) = r.2.2
  omega
theorem dbl_double {l : List Nat} {d : Nat × Nat} (h : d ∈ Mth.dbl l) : 1 ≤ d.2 ∧ d.1 + 2 * d.2 ≤ l.length ∧ P (wl l) d.1 (d.1 + 2 * d.2) d.2 := by
  obtain ⟨h1, h2, h3⟩ := Mth.mem_dbl h
  exact ⟨h1, h2, (dbl_P h2).mp h3⟩
/-- the rising row of the runs of all doubles -/
theorem Rl.of_doubles {l : List Nat} {rs : List Tri} (hr : Rise rs) (h1 : ∀ d ∈ Mth.dbl l, ∃ r ∈ rs, RunOf l d r) (h2 : ∀ r ∈ rs, ∃ d ∈ Mth.dbl l, RunOf l d r) : Rl l rs := by
  refine ⟨hr, fun r => ⟨fun h => ?_, fun h => ?_⟩⟩
  · obtain ⟨d, _, x⟩ := h2 r h
    exact x.1
  · obtain ⟨m, x⟩ := Run.mem_dbl h
    obtain ⟨r', hr', y⟩ := h1 _ m
    rw [RunOf.uniq (dbl_double m).1 x y]
    exact hr'

/-! ### all stretches, one after the other -/
structure Due (l : List Nat) (i j : Nat) (ds : List Tri) : Prop where
  rise : Rise ds
  mem : ∀ r, r ∈ ds ↔ Run (wl l) l.length r.1 r.2.1 r.2.2 ∧ (r.1 < i ∨ (r.1 = i ∧ r.2.1 < i + 2 + j))
theorem Due.zero (l : List Nat) : Due l 0 0 [] := ⟨List.Pairwise.nil, fun r => ⟨(fun h => nomatch h), fun ⟨h, h2⟩ => by
  have := h.two
  have := h.p1
  omega⟩⟩
theorem Due.few {l : List Nat} {i j : Nat} {ds : List Tri} (d : Due l i j ds) : ds.length ≤ l.length - 1 := (runs_few d.rise.nodup fun r hr => ((d.mem r).mp hr).1).1
theorem Due.no {l : List Nat} {i j : Nat} {ds : List Tri} (d : Due l i j ds) (h : ∀ p, ¬ Run (wl l) l.length i (i + 2 + j) p) : Due l i (j + 1) ds := by
  refine ⟨d.rise, fun r => (d.mem r).trans ⟨fun ⟨h1, h2⟩ => ⟨h1, by omega⟩, fun ⟨h1, h2⟩ => ⟨h1, ?_⟩⟩⟩
  rcases h2 with z | ⟨z1, z2⟩
  · exact .inl z
  · refine .inr ⟨z1, ?_⟩
    rcases Nat.lt_or_ge r.2.1 (i + 2 + j) with y | y
    · exact y
    · have e : r.2.1 = i + 2 + j := by omega
      rw [z1, e] at h1
      exact absurd h1 (h _)
theorem Due.yes {l : List Nat} {i j p : Nat} {ds : List Tri} (d : Due l i j ds) (h : Run (wl l) l.length i (i + 2 + j) p) (hl : l.length < 1000) : Due l i (j + 1) (ds ++ [(i, i + 2 + j, p)]) := by
  refine ⟨List.pairwise_append.mpr ⟨d.rise, List.pairwise_singleton _ _, fun a ha b hb => ?_⟩, fun r => ?_⟩
  · rw [List.mem_singleton.mp hb]
    obtain ⟨h1, h2⟩ := (d.mem a).mp ha
    have l1 := h1.low
    have l2 := Run.low (r := (i, i + 2 + j, p)) h
    simp only at l2
    unfold cd
    simp only
    rcases h2 with z | ⟨z1, z2⟩
    · omega
    · omega
  · rw [List.mem_append, d.mem, List.mem_singleton]
    constructor
    · rintro (⟨h1, h2⟩ | rfl)
      · exact ⟨h1, by omega⟩
      · exact ⟨h, .inr ⟨rfl, by show i + 2 + j < i + 2 + (j + 1); omega⟩⟩
    · rintro ⟨h1, h2⟩
      rcases h2 with z | ⟨z1, z2⟩
      · exact .inl ⟨h1, .inl z⟩
      · rcases Nat.lt_or_ge r.2.1 (i + 2 + j) with y | y
        · exact .inl ⟨h1, .inr ⟨z1, y⟩⟩
        · right
          have e : r.2.1 = i + 2 + j := by omega
          obtain ⟨a, b, c⟩ := r
          simp only at z1 e h1
          subst z1; subst e
          have : c = p := LB.unique ⟨h1.p1, h1.per, h1.least⟩ ⟨h.p1, h.per, h.least⟩
          rw [this]
theorem Due.row {l : List Nat} {i j : Nat} {ds : List Tri} (d : Due l i j ds) (h : i + 2 + j = l.length + 1) : Due l (i + 1) 0 ds := by
  refine ⟨d.rise, fun r => (d.mem r).trans ⟨fun ⟨h1, h2⟩ => ⟨h1, by omega⟩, fun ⟨h1, h2⟩ => ⟨h1, ?_⟩⟩⟩
  have := h1.en
  have := h1.two
  have := h1.p1
  omega
theorem Due.done {l : List Nat} {ds : List Tri} (d : Due l l.length 0 ds) : Rl l ds := by
  refine ⟨d.rise, fun r => (d.mem r).trans ⟨fun ⟨h1, _⟩ => h1, fun h1 => ⟨h1, ?_⟩⟩⟩
  have := h1.en
  have := h1.two
  have := h1.p1
  omega

/-! ### a text turned about -/
theorem P.rev {w w' : Nat → Int} {n f e p : Nat} (hw : ∀ t, t < n → w' t = w (n - 1 - t)) (he : e ≤ n) (h : P w f e p) : P w' (n - e) (n - f) p := by
  intro t h1 h2
  rw [hw t (by omega), hw (t + p) (by omega)]
  have := h (n - 1 - (t + p)) (by omega) (by omega)
  rw [this]
  congr 1
  omega
theorem Run.rev {w w' : Nat → Int} {n f e p : Nat} (hw : ∀ t, t < n → w' t = w (n - 1 - t)) (h : Run w n f e p) : Run w' n (n - e) (n - f) p := by
  have h2 := h.two
  have h3 := h.en
  have h4 := h.p1
  have hw' : ∀ t, t < n → w t = w' (n - 1 - t) := fun t ht => by rw [hw _ (by omega)]; congr 1; omega
  refine ⟨h.p1, by omega, by omega, h.per.rev hw h3, fun d d1 d2 d3 => h.least d d1 d2 ?_, ?_, ?_⟩
  · have := d3.rev hw' (by omega)
    rw [show n - (n - f) = f by omega, show n - (n - e) = e by omega] at this
    exact this
  · rcases h.right with q | q
    · left; omega
    · by_cases c : e = n
      · left; omega
      · right
        rw [hw _ (by omega), hw _ (by omega), show n - 1 - (n - e - 1) = e by omega, show n - 1 - (n - e - 1 + p) = e - p by omega]
        exact q
  · rcases h.left with q | q
    · left; omega
    · by_cases c : f = 0
      · left; omega
      · right
        rw [hw _ (by omega), hw _ (by omega), show n - 1 - (n - f) = f - 1 by omega, show n - 1 - (n - f - p) = f - 1 + p by omega]
        exact q
theorem wl_rev (l : List Nat) : ∀ t, t < l.length → wl l.reverse t = wl l (l.length - 1 - t) := by
  intro t ht
  unfold wl
  have : l.reverse.getD t 0 = l.getD (l.length - 1 - t) 0 := by
    rw [List.getD_eq_getElem?_getD, List.getD_eq_getElem?_getD, List.getElem?_reverse ht]
  rw [this]
theorem Run.turn {l : List Nat} {f e p : Nat} : Run (wl l) l.length f e p → Run (wl l.reverse) l.reverse.length (l.length - e) (l.length - f) p := fun h => by
  rw [List.length_reverse]
  exact h.rev (wl_rev l)
/-- the row of the runs, turned about -/
theorem Rl.turn {l : List Nat} {rs ys : List Tri} (h : Rl l rs) (hr : Rise ys) (hp : ys.Perm (rs.map fun r => (l.length - r.2.1, l.length - r.1, r.2.2))) : Rl l.reverse ys := by
  refine ⟨hr, fun r => ?_⟩
  rw [hp.mem_iff, List.mem_map]
  constructor
  · rintro ⟨q, hq, rfl⟩
    exact Run.turn ((h.mem q).mp hq)
  · intro z
    have z2 := Run.turn z
    rw [List.reverse_reverse, List.length_reverse] at z2
    have b1 := z.two
    have b2 := z.en
    rw [List.length_reverse] at b2
    refine ⟨(l.length - r.2.1, l.length - r.1, r.2.2), (h.mem _).mpr z2, ?_⟩
    have e1 : l.length - (l.length - r.1) = r.1 := by omega
    have e2 : l.length - (l.length - r.2.1) = r.2.1 := by omega
    show (l.length - (l.length - r.1), l.length - (l.length - r.2.1), r.2.2) = r
    rw [e1, e2]

/-! ### other letters -/
theorem Run.letters {w w' : Nat → Int} {n f e p : Nat} (hw : ∀ x y, x < n → y < n → (w' x = w' y ↔ w x = w y)) (h : Run w n f e p) : Run w' n f e p := by
  have h2 := h.two
  have h3 := h.en
  have h4 := h.p1
  refine ⟨h.p1, h.two, h.en, fun t t1 t2 => (hw _ _ (by omega) (by omega)).mpr (h.per t t1 t2), fun d d1 d2 d3 => h.least d d1 d2 fun t t1 t2 => (hw _ _ (by omega) (by omega)).mp (d3 t t1 t2), ?_, ?_⟩
  · rcases h.left with q | q
    · exact .inl q
    · by_cases c : f = 0
      · exact .inl c
      · exact .inr fun z => q ((hw _ _ (by omega) (by omega)).mp z)
  · rcases h.right with q | q
    · exact .inl q
    · by_cases c : e = n
      · exact .inl c
      · exact .inr fun z => q ((hw _ _ (by omega) (by omega)).mp z)
theorem Rl.letters {l m : List Nat} {rs : List Tri} (hl : m.length = l.length) (hw : ∀ x y : Nat, x < l.length → y < l.length → (m[x]? = m[y]? ↔ l[x]? = l[y]?)) (h : Rl l rs) : Rl m rs := by
  refine ⟨h.rise, fun r => (h.mem r).trans ⟨fun z => ?_, fun z => ?_⟩⟩
  · rw [hl]
    exact z.letters fun x y hx hy => by rw [wl_eq (by omega) (by omega), wl_eq hx hy]; exact hw x y hx hy
  · rw [hl] at z
    exact z.letters fun x y hx hy => by rw [wl_eq (l := m) (by omega) (by omega), wl_eq hx hy]; exact (hw x y hx hy).symm

/-! ### a text put behind itself -/
theorem Run.whole {l : List Nat} {b : Nat} (h0 : 1 ≤ l.length) (x : LB (wl (l ++ l)) 0 (l ++ l).length b) : Run (wl (l ++ l)) (l ++ l).length 0 (2 * l.length) b := by
  have hn : (l ++ l).length = 2 * l.length := by rw [List.length_append]; omega
  have hp : P (wl (l ++ l)) 0 (l ++ l).length l.length := by
    intro t _ ht
    rw [wl_eq (by omega) (by omega), List.getElem?_append_left (by omega), List.getElem?_append_right (by omega)]
    congr 1
    omega
  obtain ⟨q, q1, y⟩ := lb_exists l.length h0 hp
  have e := x.unique y
  subst e
  rw [hn] at x ⊢
  exact ⟨x.q1, by omega, Nat.le_refl _, x.per, x.least, .inl rfl, .inl rfl⟩
theorem Run.whole_only {w : Nat → Int} {n b p : Nat} (h : Run w n 0 n p) (x : LB w 0 n b) : p = b := LB.unique ⟨h.p1, h.per, h.least⟩ x
end Lyn

namespace STab
open PySem

/-! ### the way of a search through the table -/
def adv (mask : Nat) (p : SetTable.Probe) : SetTable.Probe :=
  if p.more > 0 then { p with j := p.j + 1, more := p.more - 1 } else
  { p with j := (p.i * 5 + 1 + p.perturb / 32) % (mask + 1), more := SetTable.runEnd mask ((p.i * 5 + 1 + p.perturb / 32) % (mask + 1)) - (p.i * 5 + 1 + p.perturb / 32) % (mask + 1), i := (p.i * 5 + 1 + p.perturb / 32) % (mask + 1), perturb := p.perturb / 32 }
theorem advance_eq (t : SetTable) (p : SetTable.Probe) : t.advance p = adv t.mask p := rfl
def it (mask : Nat) (p : SetTable.Probe) : Nat → SetTable.Probe
  | 0 => p
  | n + 1 => it mask (adv mask p) n
theorem it_add (mask : Nat) (n m : Nat) : ∀ p, it mask p (n + m) = it mask (it mask p n) m := by
  induction n with
  | zero => intro p; simp [it]
  | succ n ih => intro p; rw [show n + 1 + m = (n + m) + 1 by omega]; exact ih (adv mask p)
theorem it_succ (mask n : Nat) (p : SetTable.Probe) : it mask p (n + 1) = adv mask (it mask p n) := it_add mask n 1 p
def start (mask : Nat) (h : Int) : SetTable.Probe :=
  { j := SetTable.bits h % (mask + 1), more := SetTable.runEnd mask (SetTable.bits h % (mask + 1)) - SetTable.bits h % (mask + 1), i := SetTable.bits h % (mask + 1), perturb := SetTable.bits h, dummy := none }
theorem start_eq (t : SetTable) (h : Int) : t.probeStart h = start t.mask h := rfl
abbrev sq (mask : Nat) (h : Int) (n : Nat) : SetTable.Probe := it mask (start mask h) n
structure Val (p : SetTable.Probe) : Prop where
  more : p.more ≤ 9
  per : p.perturb < 2 ^ 64
  dum : p.dummy = none
theorem runEnd_le (mask i : Nat) : SetTable.runEnd mask i - i ≤ 9 := by
  unfold SetTable.runEnd
  split <;> omega
theorem bits_lt (h : Int) : SetTable.bits h < 2 ^ 64 := by
  unfold SetTable.bits
  have h1 := Int.emod_nonneg h (b := (2 ^ 64 : Int)) (by decide)
  have h2 := Int.emod_lt_of_pos h (b := (2 ^ 64 : Int)) (by decide)
  omega
theorem Val.start (mask : Nat) (h : Int) : Val (start mask h) := ⟨runEnd_le _ _, bits_lt h, rfl⟩
theorem Val.adv {mask : Nat} {p : SetTable.Probe} (v : Val p) : Val (adv mask p) := by
  obtain ⟨h1, h2, h3⟩ := v
  unfold STab.adv
  split
  · exact ⟨by show p.more - 1 ≤ 9; omega, h2, h3⟩
  · exact ⟨runEnd_le _ _, Nat.lt_of_le_of_lt (Nat.div_le_self _ _) h2, h3⟩
theorem Val.it {mask : Nat} : ∀ (n : Nat) {p : SetTable.Probe}, Val p → Val (it mask p n)
  | 0, _, v => v
  | n + 1, _, v => Val.it n v.adv

/-- a leap -/
def lp (mask : Nat) (p : SetTable.Probe) : SetTable.Probe :=
  { p with j := (p.i * 5 + 1 + p.perturb / 32) % (mask + 1), more := SetTable.runEnd mask ((p.i * 5 + 1 + p.perturb / 32) % (mask + 1)) - (p.i * 5 + 1 + p.perturb / 32) % (mask + 1), i := (p.i * 5 + 1 + p.perturb / 32) % (mask + 1), perturb := p.perturb / 32 }
theorem it_leap (mask : Nat) : ∀ (n : Nat) (p : SetTable.Probe), p.more = n → it mask p (n + 1) = lp mask p
  | 0, p, h => by
    show adv mask p = _
    unfold adv lp
    rw [if_neg (by omega)]
  | n + 1, p, h => by
    show it mask (adv mask p) (n + 1) = _
    have e : adv mask p = { p with j := p.j + 1, more := p.more - 1 } := by unfold adv; rw [if_pos (by omega)]
    rw [it_leap mask n (adv mask p) (by rw [e]; show p.more - 1 = n; omega), e]
    rfl
theorem it_run (mask : Nat) : ∀ (n : Nat) (p : SetTable.Probe), n ≤ p.more → it mask p n = { p with j := p.j + n, more := p.more - n }
  | 0, p, _ => rfl
  | n + 1, p, h => by
    rw [it_succ, it_run mask n p (by omega)]
    unfold adv
    rw [if_pos (by show p.more - n > 0; omega)]
    show (_ : SetTable.Probe) = _
    congr 1
def lpn (mask : Nat) (p : SetTable.Probe) : Nat → SetTable.Probe
  | 0 => p
  | n + 1 => lp mask (lpn mask p n)
theorem Val.lp {mask : Nat} {p : SetTable.Probe} (v : Val p) : Val (lp mask p) := ⟨runEnd_le _ _, Nat.lt_of_le_of_lt (Nat.div_le_self _ _) v.per, v.dum⟩
theorem Val.lpn {mask : Nat} {p : SetTable.Probe} (v : Val p) : ∀ n, Val (lpn mask p n)
  | 0 => v
  | n + 1 => (Val.lpn v n).lp
theorem it_lpn (mask : Nat) {p : SetTable.Probe} (v : Val p) : ∀ k, ∃ n, n ≤ 10 * k ∧ it mask p n = lpn mask p k
  | 0 => ⟨0, by omega, rfl⟩
  | k + 1 => by
    obtain ⟨n, h1, h2⟩ := it_lpn mask v k
    have vv := v.lpn (mask := mask) k
    refine ⟨n + ((lpn mask p k).more + 1), by have := vv.more; omega, ?_⟩
    rw [it_add, h2, it_leap mask _ _ rfl]
    rfl
theorem lpn_per (mask : Nat) (p : SetTable.Probe) : ∀ k, (lpn mask p k).perturb = p.perturb / 32 ^ k
  | 0 => by simp [lpn]
  | k + 1 => by
    show (lpn mask p k).perturb / 32 = _
    rw [lpn_per mask p k, Nat.div_div_eq_div_mul, ← Nat.pow_succ]
theorem lpn_add (mask : Nat) (p : SetTable.Probe) (a : Nat) : ∀ b, lpn mask p (a + b) = lpn mask (lpn mask p a) b
  | 0 => rfl
  | b + 1 => by show lp mask (lpn mask p (a + b)) = _; rw [lpn_add mask p a b]; rfl
/-- the row of leaps once the hash is used up -/
def lc (mask : Nat) (i : Nat) : Nat → Nat
  | 0 => i
  | n + 1 => (lc mask i n * 5 + 1) % (mask + 1)
theorem lc_add (mask i a : Nat) : ∀ b, lc mask i (a + b) = lc mask (lc mask i a) b
  | 0 => rfl
  | b + 1 => by show (lc mask i (a + b) * 5 + 1) % _ = _; rw [lc_add mask i a b]; rfl
theorem lpn_i (mask : Nat) {p : SetTable.Probe} (h : p.perturb = 0) : ∀ k, (lpn mask p k).i = lc mask p.i k
  | 0 => rfl
  | k + 1 => by
    show ((lpn mask p k).i * 5 + 1 + (lpn mask p k).perturb / 32) % (mask + 1) = (lc mask p.i k * 5 + 1) % (mask + 1)
    rw [lpn_i mask h k, lpn_per, h]
    simp
def Orb (mask : Nat) : Prop := ∀ i j, i ≤ mask → j ≤ mask → ∃ k, k ≤ mask ∧ lc mask i k = j
theorem orb_of {mask : Nat} (h1 : ((List.range (mask + 1)).all fun i => (List.range (mask + 1)).any fun a => lc mask 0 a == i) = true) (h2 : lc mask 0 (mask + 1) = 0) : Orb mask := by
  have key : ∀ i, i ≤ mask → ∃ a, a ≤ mask ∧ lc mask 0 a = i := by
    intro i hi
    have := (List.all_eq_true.mp h1) i (List.mem_range.mpr (by omega))
    obtain ⟨a, ha, e⟩ := List.any_eq_true.mp this
    exact ⟨a, by have := List.mem_range.mp ha; omega, by simpa using e⟩
  intro i j hi hj
  obtain ⟨a, ha, rfl⟩ := key i hi
  obtain ⟨b, hb, rfl⟩ := key j hj
  by_cases hab : a ≤ b
  · exact ⟨b - a, by omega, by rw [← lc_add, show a + (b - a) = b by omega]⟩
  · refine ⟨mask + 1 - a + b, by omega, ?_⟩
    rw [← lc_add, show a + (mask + 1 - a + b) = (mask + 1) + b by omega, lc_add, h2]
/-- lc by a list (quick for the kernel) -/
def lcs (mask : Nat) : Nat → Nat → List Nat
  | 0, _ => []
  | n + 1, i => i :: lcs mask n ((i * 5 + 1) % (mask + 1))
theorem lcs_get (mask : Nat) : ∀ (n i a : Nat), a < n → (lcs mask n i)[a]? = some (lc mask i a)
  | 0, _, _, h => by omega
  | n + 1, i, 0, _ => rfl
  | n + 1, i, a + 1, h => by
    show (lcs mask n ((i * 5 + 1) % (mask + 1)))[a]? = _
    rw [lcs_get mask n _ a (by omega), show a + 1 = 1 + a by omega, lc_add]
    rfl
theorem orb_of2 {mask : Nat} (h1 : ((List.range (mask + 1)).all fun i => (lcs mask (mask + 1) 0).contains i) = true) (h2 : (lcs mask (mask + 2) 0)[mask + 1]? = some 0) : Orb mask := by
  refine orb_of ?_ ?_
  · rw [List.all_eq_true] at h1 ⊢
    intro i hi
    have := h1 i hi
    rw [List.contains_iff_mem] at this
    obtain ⟨a, ha, e⟩ := List.mem_iff_getElem.mp this
    have hl : (lcs mask (mask + 1) 0).length = mask + 1 := by
      have : ∀ n i, (lcs mask n i).length = n := by
        intro n
        induction n with
        | zero => intro i; rfl
        | succ n ih => intro i; simp [lcs, ih]
      exact this _ _
    rw [List.any_eq_true]
    refine ⟨a, List.mem_range.mpr (by omega), ?_⟩
    have q := lcs_get mask (mask + 1) 0 a (by omega)
    rw [List.getElem?_eq_getElem ha, e] at q
    simpa using (Option.some.inj q).symm
  · have q := lcs_get mask (mask + 2) 0 (mask + 1) (by omega)
    rw [h2] at q
    exact (Option.some.inj q).symm
theorem orb7 : Orb 7 := orb_of2 (by decide +kernel) (by decide +kernel)
theorem orb31 : Orb 31 := orb_of2 (by decide +kernel) (by decide +kernel)
theorem orb127 : Orb 127 := orb_of2 (by decide +kernel) (by decide +kernel)
/-- every place is met -/
theorem cover_lp {mask : Nat} (o : Orb mask) {p : SetTable.Probe} (v : Val p) {j : Nat} (hj : j ≤ mask) : ∃ k, k ≤ 13 + mask ∧ (lpn mask p k).j = j := by
  have e0 : (lpn mask p 13).perturb = 0 := by
    rw [lpn_per]
    exact Nat.div_eq_of_lt (Nat.lt_of_lt_of_le v.per (by decide))
  have ei : (lpn mask p 13).i ≤ mask := by
    exact Nat.le_of_lt_succ (Nat.mod_lt ((lpn mask p 12).i * 5 + 1 + (lpn mask p 12).perturb / 32) (show 0 < mask + 1 by omega))
  obtain ⟨k, hk, e⟩ := o _ j ei hj
  have e2 : (lpn mask p (13 + k)).i = j := by rw [lpn_add, lpn_i mask e0, e]
  refine ⟨13 + k, by omega, ?_⟩
  rw [← e2, show 13 + k = (12 + k) + 1 by omega]
  rfl
theorem cover {mask : Nat} (o : Orb mask) {p : SetTable.Probe} (v : Val p) {j : Nat} (hj : j ≤ mask) : ∃ n, n ≤ 10 * (13 + mask) ∧ (it mask p n).j = j := by
  obtain ⟨k, hk, e⟩ := cover_lp o v hj
  obtain ⟨n, hn, e2⟩ := it_lpn mask v k
  exact ⟨n, by omega, by rw [e2, e]⟩

/-! ### places in order -/
theorem below_go {xs : Array Nat} {j : Nat} (hr : ∀ a b (hb : b < xs.size) (hab : a < b), xs[a] < xs[b]) : ∀ (fuel lo hi : Nat), hi - lo ≤ fuel → lo ≤ hi → hi ≤ xs.size → (∀ a (h : a < xs.size), a < lo → xs[a] < j) → (∀ a (h : a < xs.size), hi ≤ a → j ≤ xs[a]) →
    lo ≤ SetTable.below.go xs j fuel lo hi ∧ SetTable.below.go xs j fuel lo hi ≤ hi ∧ (∀ a (h : a < xs.size), a < SetTable.below.go xs j fuel lo hi → xs[a] < j) ∧ (∀ a (h : a < xs.size), SetTable.below.go xs j fuel lo hi ≤ a → j ≤ xs[a])
  | 0, lo, hi, hf, hl, hs, h1, h2 => by
    have e : lo = hi := by omega
    subst e
    exact ⟨Nat.le_refl _, Nat.le_refl _, h1, h2⟩
  | fuel + 1, lo, hi, hf, hl, hs, h1, h2 => by
    unfold SetTable.below.go
    by_cases hlt : lo < hi
    · rw [if_pos hlt]
      dsimp only
      have hm : (lo + hi) / 2 < xs.size := by omega
      have eg : xs.getD ((lo + hi) / 2) j = xs[(lo + hi) / 2] := by simp [Array.getD, hm]
      rw [eg]
      by_cases hc : xs[(lo + hi) / 2] < j
      · rw [if_pos hc]
        obtain ⟨a1, a2, a3, a4⟩ := below_go (j := j) hr fuel ((lo + hi) / 2 + 1) hi (by omega) (by omega) hs (fun a h ha => by
          rcases Nat.lt_or_ge a ((lo + hi) / 2) with z | z
          · exact Nat.lt_trans (hr a _ hm z) hc
          · have : a = (lo + hi) / 2 := by omega
            subst this; exact hc) h2
        exact ⟨by omega, a2, a3, a4⟩
      · rw [if_neg hc]
        obtain ⟨a1, a2, a3, a4⟩ := below_go (j := j) hr fuel lo ((lo + hi) / 2) (by omega) (by omega) (by omega) h1 (fun a h ha => by
          rcases Nat.lt_or_ge ((lo + hi) / 2) a with z | z
          · exact Nat.le_trans (by omega) (Nat.le_of_lt (hr _ a h z))
          · have : a = (lo + hi) / 2 := by omega
            subst this; omega)
        exact ⟨a1, by omega, a3, a4⟩
    · rw [if_neg hlt]
      have e : lo = hi := by omega
      subst e
      exact ⟨Nat.le_refl _, Nat.le_refl _, h1, h2⟩
theorem below_spec {l : List Nat} (hr : l.Pairwise (· < ·)) (j : Nat) : SetTable.below l.toArray j ≤ l.length ∧ (∀ a (h : a < l.length), a < SetTable.below l.toArray j → l[a] < j) ∧ (∀ a (h : a < l.length), SetTable.below l.toArray j ≤ a → j ≤ l[a]) := by
  have hr' : ∀ a b (hb : b < l.toArray.size) (hab : a < b), l.toArray[a] < l.toArray[b] := by
    intro a b hb hab
    have hb' : b < l.length := by simpa using hb
    have := List.pairwise_iff_getElem.mp hr a b (by omega) hb' hab
    simpa using this
  obtain ⟨_, h2, h3, h4⟩ := below_go (j := j) hr' l.toArray.size 0 l.toArray.size (by omega) (by omega) (Nat.le_refl _) (fun a _ h => by omega) (fun a h h' => by omega)
  refine ⟨by simpa [SetTable.below] using h2, fun a h ha => ?_, fun a h ha => ?_⟩
  · have := h3 a (by simpa using h) ha
    simpa using this
  · have := h4 a (by simpa using h) ha
    simpa using this
theorem below_mem {l : List Nat} (hr : l.Pairwise (· < ·)) {i : Nat} {j : Nat} (h : l[i]? = some j) : SetTable.below l.toArray j = i := by
  obtain ⟨h1, h2, h3⟩ := below_spec hr j
  obtain ⟨hi, e⟩ := List.getElem?_eq_some_iff.mp h
  rcases Nat.lt_trichotomy (SetTable.below l.toArray j) i with z | z | z
  · have a1 := h3 (SetTable.below l.toArray j) (by omega) (Nat.le_refl _)
    have a2 := List.pairwise_iff_getElem.mp hr _ i (by omega) hi z
    omega
  · exact z
  · have := h2 i hi z
    omega
theorem below_next {l : List Nat} (hr : l.Pairwise (· < ·)) {i : Nat} {j : Nat} (h : l[i]? = some j) : SetTable.below l.toArray (j + 1) = i + 1 := by
  obtain ⟨h1, h2, h3⟩ := below_spec hr (j + 1)
  obtain ⟨hi, e⟩ := List.getElem?_eq_some_iff.mp h
  rcases Nat.lt_trichotomy (SetTable.below l.toArray (j + 1)) (i + 1) with z | z | z
  · have a1 := h3 i hi (by omega)
    omega
  · exact z
  · have a0 := h2 (i + 1) (by omega) z
    have a2 := List.pairwise_iff_getElem.mp hr i (i + 1) hi (by omega) (by omega)
    omega
theorem below_zero {l : List Nat} (hr : l.Pairwise (· < ·)) : SetTable.below l.toArray 0 = 0 := by
  obtain ⟨h1, h2, h3⟩ := below_spec hr 0
  rcases Nat.eq_zero_or_pos (SetTable.below l.toArray 0) with z | z
  · exact z
  · have := h2 0 (by omega) z
    omega

/-! ### the table and its elements -/
abbrev En := Nat × Int × Value
structure TOk (t : SetTable) (L : List En) : Prop where
  place : t.place = (L.map (·.1)).toArray
  dum : t.dummies = #[]
  rise : (L.map (·.1)).Pairwise (· < ·)
  few : L.length ≤ t.mask
  orb : Orb t.mask
  low : ∀ e ∈ L, e.1 ≤ t.mask
  reach : ∀ e ∈ L, ∃ n, (sq t.mask e.2.1 n).j = e.1 ∧ ∀ m, m < n → (sq t.mask e.2.1 m).j ∈ L.map (·.1)
section
variable {t : SetTable} {L : List En}
theorem TOk.fill (T : TOk t L) : t.fill = L.length := by
  unfold SetTable.fill
  rw [T.place, T.dum]
  simp
theorem TOk.slot_in (T : TOk t L) {i : Nat} {e : En} (h : L[i]? = some e) : t.slot e.1 = .live i := by
  unfold SetTable.slot
  rw [T.place]
  have q : (L.map (·.1))[i]? = some e.1 := by rw [List.getElem?_map, h]; rfl
  have b := below_mem T.rise q
  dsimp only
  rw [b]
  simp [h]
theorem TOk.slot_out (T : TOk t L) {j : Nat} (h : j ∉ L.map (·.1)) : t.slot j = .empty := by
  unfold SetTable.slot
  dsimp only
  rw [if_neg, if_neg]
  · unfold SetTable.has
    rw [T.dum]
    simp
  · rw [T.place]
    intro z
    have z' : (L.map (·.1)).toArray[SetTable.below (L.map (·.1)).toArray j]? = some j := by simpa using z
    rw [List.getElem?_toArray] at z'
    exact h (List.mem_of_getElem? z')
theorem TOk.get (T : TOk t L) {j : Nat} (h : j ∈ L.map (·.1)) : ∃ (i : Nat) (e : En), L[i]? = some e ∧ e.1 = j := by
  obtain ⟨e, he, rfl⟩ := List.mem_map.mp h
  obtain ⟨i, hi⟩ := List.mem_iff_getElem?.mp he
  exact ⟨i, e, hi, rfl⟩
theorem TOk.inj (T : TOk t L) {e e' : En} (h : e ∈ L) (h' : e' ∈ L) (q : e.1 = e'.1) : e = e' := by
  obtain ⟨i, hi⟩ := List.mem_iff_getElem?.mp h
  obtain ⟨i', hi'⟩ := List.mem_iff_getElem?.mp h'
  have s1 := T.slot_in hi
  have s2 := T.slot_in hi'
  rw [q, s2] at s1
  cases s1
  rw [hi] at hi'
  exact Option.some.inj hi'
/-- a free place -/
theorem free_place : ∀ (l : List Nat) (m : Nat), l.length ≤ m → ∃ j, j ≤ m ∧ j ∉ l := by
  intro l m hl
  by_cases h : ∃ j, j ≤ m ∧ j ∉ l
  · exact h
  · exfalso
    have hs : (List.range (m + 1)) ⊆ l := by
      intro j hj
      by_cases hj' : j ∈ l
      · exact hj'
      · exact absurd ⟨j, by have := List.mem_range.mp hj; omega, hj'⟩ h
    have key : ∀ (a b : List Nat), a.Nodup → a ⊆ b → a.length ≤ b.length := by
      intro a
      induction a with
      | nil => intro b _ _; simp
      | cons x a ih =>
        intro b hn hs
        have hx : x ∈ b := hs List.mem_cons_self
        have hn' := List.nodup_cons.mp hn
        have := ih (b.erase x) hn'.2 (fun y hy => by
          have hyb := hs (List.mem_cons_of_mem _ hy)
          exact (List.mem_erase_of_ne (fun z => by subst z; exact hn'.1 hy)).mpr hyb)
        rw [List.length_erase_of_mem hx] at this
        have hp : 0 < b.length := List.length_pos_of_mem hx
        simp only [List.length_cons]
        omega
    have := key _ l List.nodup_range hs
    simp at this
    omega
theorem TOk.empties (T : TOk t L) {p : SetTable.Probe} (v : Val p) : ∃ n, n ≤ 10 * (13 + t.mask) ∧ (it t.mask p n).j ∉ L.map (·.1) := by
  obtain ⟨j, hj, hn⟩ := free_place (L.map (·.1)) t.mask (by simpa using T.few)
  obtain ⟨n, h1, h2⟩ := cover T.orb v hj
  exact ⟨n, h1, by rw [h2]; exact hn⟩
theorem probe_go (T : TOk t L) {hashAt : Nat → Int} (hh : ∀ i e, L[i]? = some e → hashAt i = e.2.1) (h : Int) : ∀ (fuel : Nat) (p : SetTable.Probe), p.dummy = none → (∃ m, m < fuel ∧ (it t.mask p m).j ∉ L.map (·.1)) →
    ∃ m, (∀ k, k < m → ∃ e ∈ L, e.1 = (it t.mask p k).j ∧ e.2.1 ≠ h) ∧
      ((SetTable.probe.go t hashAt h fuel p = some (.empty (it t.mask p m).j none) ∧ (it t.mask p m).j ∉ L.map (·.1)) ∨
       ∃ i e, L[i]? = some e ∧ e.1 = (it t.mask p m).j ∧ e.2.1 = h ∧ SetTable.probe.go t hashAt h fuel p = some (.candidate (it t.mask p m).j i (it t.mask p (m + 1))))
  | 0, p, _, ⟨m, h1, _⟩ => by omega
  | fuel + 1, p, hd, ⟨m, h1, h2⟩ => by
    unfold SetTable.probe.go
    by_cases hj : p.j ∈ L.map (·.1)
    · obtain ⟨i, e, hi, he⟩ := T.get hj
      have hs : t.slot p.j = .live i := by rw [← he]; exact T.slot_in hi
      rw [hs]
      dsimp only
      rw [hh i e hi, advance_eq]
      by_cases hq : e.2.1 = h
      · rw [if_pos (by simpa using hq)]
        refine ⟨0, fun k hk => by omega, .inr ⟨i, e, hi, he, hq, rfl⟩⟩
      · rw [if_neg (by simpa using hq)]
        have hm : m ≠ 0 := by rintro rfl; exact h2 hj
        obtain ⟨m', rfl⟩ : ∃ m', m = m' + 1 := ⟨m - 1, by omega⟩
        have hd' : (adv t.mask p).dummy = none := by unfold adv; split <;> exact hd
        obtain ⟨n, a1, a2⟩ := probe_go T hh h fuel (adv t.mask p) hd' ⟨m', by omega, h2⟩
        refine ⟨n + 1, fun k hk => ?_, a2⟩
        cases k with
        | zero => exact ⟨e, List.mem_of_getElem? hi, he, hq⟩
        | succ k => exact a1 k (by omega)
    · rw [T.slot_out hj]
      dsimp only
      rw [hd]
      exact ⟨0, fun k hk => by omega, .inl ⟨rfl, hj⟩⟩
end
end STab

namespace STab
open PySem

/-! ### an element is laid -/
theorem insertAt_list {α : Type} (xs : List α) (p : Nat) (x : α) : SetTable.insertAt xs.toArray p x = (xs.take p ++ x :: xs.drop p).toArray := by
  unfold SetTable.insertAt
  apply Array.toList_inj.mp
  simp [List.extract]
  rw [List.take_of_length_le (by simp)]
def ins (L : List En) (e : En) : List En := L.take (SetTable.below (L.map (·.1)).toArray e.1) ++ e :: L.drop (SetTable.below (L.map (·.1)).toArray e.1)
theorem ins_perm (L : List En) (e : En) : (ins L e).Perm (e :: L) := by
  unfold ins
  refine List.perm_middle.trans ?_
  rw [List.take_append_drop]
theorem ins_mem {L : List En} {e x : En} : x ∈ ins L e ↔ x = e ∨ x ∈ L := by
  rw [(ins_perm L e).mem_iff, List.mem_cons]
theorem ins_len (L : List En) (e : En) : (ins L e).length = L.length + 1 := by
  rw [(ins_perm L e).length_eq, List.length_cons]
section
variable {t : SetTable} {L : List En}
theorem TOk.put (T : TOk t L) {e : En} (hj : e.1 ∉ L.map (·.1)) (hl : e.1 ≤ t.mask) (hf : L.length + 1 ≤ t.mask) (hr : ∃ n, (sq t.mask e.2.1 n).j = e.1 ∧ ∀ m, m < n → (sq t.mask e.2.1 m).j ∈ L.map (·.1)) :
    TOk (t.put e.1).1 (ins L e) ∧ (t.put e.1).1.mask = t.mask ∧ (t.put e.1).1.led = t.led ∧ (t.put e.1).1.plain = t.plain ∧ SetTable.insertAt (L.map (·.2)).toArray (t.put e.1).2 e.2 = ((ins L e).map (·.2)).toArray := by
  have hd : SetTable.has t.dummies e.1 = false := by
    unfold SetTable.has
    rw [T.dum]
    simp
  obtain ⟨b1, b2, b3⟩ := below_spec T.rise e.1
  have hp2 : (t.put e.1).2 = SetTable.below (L.map (·.1)).toArray e.1 := by
    show SetTable.below t.place e.1 = _
    rw [T.place]
  have sub : ∀ j, j ∈ L.map (·.1) → j ∈ (ins L e).map (·.1) := by
    intro j h
    obtain ⟨x, hx, rfl⟩ := List.mem_map.mp h
    exact List.mem_map.mpr ⟨x, ins_mem.mpr (.inr hx), rfl⟩
  refine ⟨⟨?_, ?_, ?_, ?_, T.orb, ?_, ?_⟩, rfl, rfl, rfl, ?_⟩
  · show SetTable.insertAt t.place (SetTable.below t.place e.1) e.1 = _
    rw [T.place, insertAt_list]
    unfold ins
    simp [List.map_take, List.map_drop]
  · show (if SetTable.has t.dummies e.1 = true then _ else t.dummies) = _
    rw [hd]
    simp [T.dum]
  · unfold ins
    rw [List.map_append, List.map_cons, List.map_take, List.map_drop]
    have tk : ∀ a ∈ (L.map (·.1)).take (SetTable.below (L.map (·.1)).toArray e.1), a < e.1 := by
      intro a ha
      obtain ⟨i, hi, rfl⟩ := List.mem_iff_getElem.mp ha
      rw [List.getElem_take]
      rw [List.length_take] at hi
      exact b2 i (by omega) (by omega)
    have dr : ∀ a ∈ (L.map (·.1)).drop (SetTable.below (L.map (·.1)).toArray e.1), e.1 < a := by
      intro a ha
      obtain ⟨i, hi, rfl⟩ := List.mem_iff_getElem.mp ha
      rw [List.getElem_drop]
      rw [List.length_drop] at hi
      have q := b3 (SetTable.below (L.map (·.1)).toArray e.1 + i) (by omega) (by omega)
      rcases Nat.lt_or_ge e.1 ((L.map (·.1))[SetTable.below (L.map (·.1)).toArray e.1 + i]'(by omega)) with z | z
      · exact z
      · exact absurd (by rw [Nat.le_antisymm q z]; exact List.getElem_mem _) hj
    refine List.pairwise_append.mpr ⟨T.rise.sublist (List.take_sublist _ _), List.pairwise_cons.mpr ⟨dr, T.rise.sublist (List.drop_sublist _ _)⟩, ?_⟩
    intro a ha b hb
    rcases List.mem_cons.mp hb with rfl | hb
    · exact tk a ha
    · exact Nat.lt_trans (tk a ha) (dr b hb)
  · show (ins L e).length ≤ t.mask
    rw [ins_len]; exact hf
  · intro x hx
    rcases ins_mem.mp hx with rfl | hx
    · exact hl
    · exact T.low x hx
  · intro x hx
    rcases ins_mem.mp hx with rfl | hx
    · obtain ⟨n, h1, h2⟩ := hr
      exact ⟨n, h1, fun m hm => sub _ (h2 m hm)⟩
    · obtain ⟨n, h1, h2⟩ := T.reach x hx
      exact ⟨n, h1, fun m hm => sub _ (h2 m hm)⟩
  · rw [hp2, insertAt_list]
    unfold ins
    simp [List.map_take, List.map_drop]
end

/-! ### all elements laid anew -/
theorem runEnd_ge (mask i : Nat) : i ≤ SetTable.runEnd mask i := by
  unfold SetTable.runEnd
  split <;> omega
theorem isNone_iff {owner : Array (Option Nat)} {j : Nat} : (owner.getD j (some 0)).isNone = true ↔ owner[j]? = some none := by
  by_cases h : j < owner.size
  · simp [Array.getD, h]
  · simp [Array.getD, h]
theorem free_spec {mask : Nat} {owner : Array (Option Nat)} : ∀ (fuel : Nat) (p : SetTable.Probe), p.j = p.i → p.more = SetTable.runEnd mask p.i - p.i → (∃ k, k < fuel ∧ owner[(lpn mask p k).j]? = some none) →
    ∃ j n, SetTable.layClean.free mask owner fuel p.i p.perturb = some j ∧ (it mask p n).j = j ∧ owner[j]? = some none ∧ ∀ m, m < n → owner[(it mask p m).j]? ≠ some none
  | 0, p, _, _, ⟨k, h, _⟩ => by omega
  | fuel + 1, p, hj, hm, ⟨k, hk, hf⟩ => by
    unfold SetTable.layClean.free
    have hge := runEnd_ge mask p.i
    have hw : SetTable.runEnd mask p.i + 1 - p.i = p.more + 1 := by omega
    cases e : (List.range (SetTable.runEnd mask p.i + 1 - p.i)).find? fun k => (owner.getD (p.i + k) (some 0)).isNone with
    | some a =>
      rw [List.find?_range_eq_some] at e
      obtain ⟨e1, e2, e3⟩ := e
      have ha : a ≤ p.more := by have := List.mem_range.mp e2; omega
      dsimp only
      refine ⟨p.i + a, a, rfl, ?_, isNone_iff.mp e1, fun m hm' => ?_⟩
      · rw [it_run mask a p ha]
        show p.j + a = _
        rw [hj]
      · rw [it_run mask m p (by omega)]
        show owner[p.j + m]? ≠ _
        rw [hj]
        intro z
        have := e3 m hm'
        rw [isNone_iff.mpr z] at this
        cases this
    | none =>
      rw [List.find?_range_eq_none] at e
      dsimp only
      have no : ∀ m, m ≤ p.more → owner[(it mask p m).j]? ≠ some none := by
        intro m hm'
        rw [it_run mask m p hm']
        show owner[p.j + m]? ≠ _
        rw [hj]
        intro z
        have := e m (by omega)
        rw [isNone_iff.mpr z] at this
        cases this
      have hk0 : k ≠ 0 := by
        rintro rfl
        exact no 0 (Nat.zero_le _) hf
      obtain ⟨k', rfl⟩ : ∃ k', k = 1 + k' := ⟨k - 1, by omega⟩
      rw [lpn_add] at hf
      obtain ⟨j, n, a1, a2, a3, a4⟩ := free_spec fuel (lp mask p) rfl rfl ⟨k', by omega, hf⟩
      refine ⟨j, p.more + 1 + n, a1, ?_, a3, fun m hm' => ?_⟩
      · rw [it_add, it_leap mask _ _ rfl]; exact a2
      · by_cases hc : m ≤ p.more
        · exact no m hc
        · have em : m = p.more + 1 + (m - (p.more + 1)) := by omega
          rw [em, it_add, it_leap mask _ _ rfl]
          exact a4 _ (by omega)
structure Ow (mask : Nat) (hs : List Int) (owner : Array (Option Nat)) (S : List Nat) : Prop where
  size : owner.size = mask + 1
  len : S.length = hs.length
  nd : S.Nodup
  own : ∀ j k : Nat, owner[j]? = some (some k) ↔ S[k]? = some j
  low : ∀ j ∈ S, j ≤ mask
  reach : ∀ (k : Nat) (h : Int), hs[k]? = some h → ∃ n, S[k]? = some (sq mask h n).j ∧ ∀ m, m < n → (sq mask h m).j ∈ S
theorem Ow.in_of {mask : Nat} {hs : List Int} {owner : Array (Option Nat)} {S : List Nat} (O : Ow mask hs owner S) {j : Nat} (hj : j ≤ mask) (h : owner[j]? ≠ some none) : j ∈ S := by
  have hlt : j < owner.size := by rw [O.size]; omega
  cases e : owner[j] with
  | none => exact absurd (by rw [Array.getElem?_eq_getElem hlt, e]) h
  | some k => exact List.mem_of_getElem? ((O.own j k).mp (by rw [Array.getElem?_eq_getElem hlt, e]))
theorem sq_low (mask : Nat) (h : Int) : ∀ n, (sq mask h n).j + (sq mask h n).more ≤ mask := by
  have key : ∀ i, i ≤ mask → i + (SetTable.runEnd mask i - i) ≤ mask := by
    intro i hi
    unfold SetTable.runEnd
    split <;> omega
  intro n
  induction n with
  | zero =>
    exact key _ (Nat.le_of_lt_succ (Nat.mod_lt (SetTable.bits h) (show 0 < mask + 1 by omega)))
  | succ n ih =>
    unfold sq
    rw [it_succ]
    unfold adv
    split
    · show (it mask (start mask h) n).j + 1 + ((it mask (start mask h) n).more - 1) ≤ mask
      have ih' : (it mask (start mask h) n).j + (it mask (start mask h) n).more ≤ mask := ih
      omega
    · exact key _ (Nat.le_of_lt_succ (Nat.mod_lt ((it mask (start mask h) n).i * 5 + 1 + (it mask (start mask h) n).perturb / 32) (show 0 < mask + 1 by omega)))
theorem Ow.step {mask : Nat} {hs : List Int} {owner : Array (Option Nat)} {S : List Nat} (O : Ow mask hs owner S) (ob : Orb mask) (h : Int) (few : S.length ≤ mask) :
    ∃ j, SetTable.layClean.free mask owner (SetTable.turns mask) (SetTable.bits h % (mask + 1)) (SetTable.bits h) = some j ∧ Ow mask (hs ++ [h]) (owner.setIfInBounds j (some hs.length)) (S ++ [j]) := by
  obtain ⟨j0, h1, h2⟩ := free_place S mask few
  have hf0 : owner[j0]? = some none := by
    by_cases q : owner[j0]? = some none
    · exact q
    · exact absurd (O.in_of h1 q) h2
  obtain ⟨k, hk, ek⟩ := cover_lp ob (Val.start mask h) h1
  obtain ⟨j, n, a1, a2, a3, a4⟩ := free_spec (mask := mask) (owner := owner) (SetTable.turns mask) (start mask h) rfl rfl ⟨k, by unfold SetTable.turns; omega, by rw [ek]; exact hf0⟩
  have hjlt : j < owner.size := by
    rcases Nat.lt_or_ge j owner.size with z | z
    · exact z
    · rw [Array.getElem?_eq_none z] at a3; cases a3
  have hjS : j ∉ S := by
    intro z
    obtain ⟨k, hk⟩ := List.mem_iff_getElem?.mp z
    rw [(O.own j k).mpr hk] at a3
    cases a3
  have hsz := O.size
  refine ⟨j, a1, ⟨by simpa using O.size, by simp [O.len], ?_, fun i k => ?_, fun i hi => ?_, fun k g hk => ?_⟩⟩
  · rw [List.nodup_append]
    exact ⟨O.nd, by simp, fun a ha b hb => by
      have : b = j := by simpa using hb
      subst this
      exact fun z => hjS (z ▸ ha)⟩
  · rw [Array.getElem?_setIfInBounds]
    by_cases hij : j = i
    · subst hij
      rw [if_pos rfl, if_pos hjlt]
      constructor
      · intro z
        have : k = hs.length := by simpa using z.symm
        subst this
        rw [← O.len, List.getElem?_append_right (Nat.le_refl _)]
        simp
      · intro z
        rcases Nat.lt_trichotomy k S.length with c | c | c
        · rw [List.getElem?_append_left c] at z
          exact absurd (List.mem_of_getElem? z) hjS
        · rw [c, O.len]
        · rw [List.getElem?_eq_none (by simp; omega)] at z
          cases z
    · rw [if_neg hij, O.own i k]
      constructor
      · intro z
        rw [List.getElem?_append_left (List.getElem?_eq_some_iff.mp z).1]
        exact z
      · intro z
        rcases Nat.lt_trichotomy k S.length with c | c | c
        · rw [List.getElem?_append_left c] at z
          exact z
        · rw [c, List.getElem?_append_right (Nat.le_refl _)] at z
          simp at z
          exact absurd z hij
        · rw [List.getElem?_eq_none (by simp; omega)] at z
          cases z
  · rcases List.mem_append.mp hi with z | z
    · exact O.low i z
    · have : i = j := by simpa using z
      omega
  · rcases Nat.lt_trichotomy k hs.length with c | c | c
    · rw [List.getElem?_append_left c] at hk
      obtain ⟨n', b1, b2⟩ := O.reach k g hk
      exact ⟨n', by rw [List.getElem?_append_left (by rw [O.len]; exact c)]; exact b1, fun m hm => List.mem_append_left _ (b2 m hm)⟩
    · subst c
      have eg : g = h := by
        rw [List.getElem?_append_right (Nat.le_refl _)] at hk
        simpa using hk.symm
      subst eg
      refine ⟨n, ?_, fun m hm => List.mem_append_left _ (O.in_of (by have := sq_low mask g m; omega) (a4 m hm))⟩
      rw [← O.len, List.getElem?_append_right (Nat.le_refl _)]
      show _ = some (it mask (start mask g) n).j
      rw [a2]
      simp
    · rw [List.getElem?_eq_none (by simp; omega)] at hk
      cases hk
theorem lay_fold {mask : Nat} (ob : Orb mask) : ∀ (r hs : List Int) (owner : Array (Option Nat)) (S : List Nat), Ow mask hs owner S → (hs ++ r).length ≤ mask + 1 →
    ∃ owner' S', r.foldl (fun (acc : Option (Array (Option Nat) × Nat)) h => do
      let (owner, k) ← acc
      let j ← SetTable.layClean.free mask owner (SetTable.turns mask) (SetTable.bits h % (mask + 1)) (SetTable.bits h)
      pure (owner.setIfInBounds j (some k), k + 1)) (some (owner, hs.length)) = some (owner', (hs ++ r).length) ∧ Ow mask (hs ++ r) owner' S'
  | [], hs, owner, S, O, _ => ⟨owner, S, by simp, by simpa using O⟩
  | h :: r, hs, owner, S, O, hl => by
    obtain ⟨j, e, O'⟩ := O.step ob h (by rw [O.len]; simp at hl; omega)
    obtain ⟨ow, S', e2, O2⟩ := lay_fold ob r (hs ++ [h]) _ _ O' (by simpa using hl)
    refine ⟨ow, S', ?_, by simpa using O2⟩
    rw [List.foldl_cons]
    have e1 : (do
      let (owner, k) ← some (owner, hs.length)
      let j ← SetTable.layClean.free mask owner (SetTable.turns mask) (SetTable.bits h % (mask + 1)) (SetTable.bits h)
      pure (owner.setIfInBounds j (some k), k + 1) : Option (Array (Option Nat) × Nat)) = some (owner.setIfInBounds j (some hs.length), (hs ++ [h]).length) := by
      show (SetTable.layClean.free mask owner (SetTable.turns mask) (SetTable.bits h % (mask + 1)) (SetTable.bits h) >>= _) = _
      rw [e]
      simp
    rw [e1]
    simpa using e2
theorem layClean_spec {mask : Nat} (ob : Orb mask) (hs : List Int) (hl : hs.length ≤ mask + 1) : ∃ owner S, SetTable.layClean mask hs.toArray = some owner ∧ Ow mask hs owner S := by
  obtain ⟨ow, S, e, O⟩ := lay_fold ob hs [] (Array.replicate (mask + 1) none) [] ⟨by simp, rfl, List.nodup_nil, fun j k => by
    constructor
    · intro z
      rw [Array.getElem?_replicate] at z
      split at z <;> cases z
    · intro z
      simp at z, fun j hj => by simp at hj, fun k h hk => by simp at hk⟩ (by simpa using hl)
  refine ⟨ow, S, ?_, by simpa using O⟩
  unfold SetTable.layClean
  rw [← Array.foldl_toList]
  have e' := e
  simp only [List.length_nil, List.nil_append] at e'
  rw [e']
  rfl
theorem laid_spec {mask : Nat} (ob : Orb mask) (f m : Nat) (led plain : Bool) (Es : List (Int × Value)) (hl : Es.length ≤ mask) :
    ∃ t' order L', SetTable.laid mask f m led plain (Es.toArray.map (·.1)) = some (t', order) ∧ TOk t' L' ∧ (L'.map (·.2)).Perm Es ∧ order.filterMap (Es.toArray[·]?) = (L'.map (·.2)).toArray ∧ t'.mask = mask ∧ t'.led = led ∧ t'.plain = plain := by
  obtain ⟨ow, S, e, O⟩ := layClean_spec ob (Es.map (·.1)) (by simp; omega)
  have el : Es.toArray.map (·.1) = (Es.map (·.1)).toArray := by simp
  let live := (List.range (mask + 1)).filterMap fun j => (ow.getD j none).map (j, ·)
  have gd : ∀ j k, ow.getD j none = some k ↔ ow[j]? = some (some k) := by
    intro j k
    by_cases h : j < ow.size
    · simp [Array.getD, h]
    · simp [Array.getD, h]
  have ml : ∀ q : Nat × Nat, q ∈ live ↔ S[q.2]? = some q.1 := by
    intro q
    show q ∈ (List.range (mask + 1)).filterMap _ ↔ _
    rw [List.mem_filterMap, ← O.own]
    constructor
    · rintro ⟨j, hj, ej⟩
      obtain ⟨k, hk, rfl⟩ := Option.map_eq_some_iff.mp ej
      exact (gd j k).mp hk
    · intro z
      refine ⟨q.1, List.mem_range.mpr ?_, ?_⟩
      · have := O.low q.1 (List.mem_of_getElem? ((O.own _ _).mp z))
        omega
      · rw [(gd _ _).mpr z]; rfl
  have hlen : S.length = Es.length := by rw [O.len]; simp
  let g : Nat → Int × Value := fun k => (Es[k]?).getD (0, Value.none)
  have hk : ∀ q ∈ live, q.2 < Es.length := by
    intro q hq
    have := (List.getElem?_eq_some_iff.mp ((ml q).mp hq)).1
    omega
  have rise : (live.map (·.1)).Pairwise (· < ·) := by
    rw [List.pairwise_map]
    show ((List.range (mask + 1)).filterMap _).Pairwise _
    rw [List.pairwise_filterMap]
    refine List.pairwise_lt_range.imp ?_
    intro a b hab x hx y hy
    obtain ⟨_, _, rfl⟩ := Option.map_eq_some_iff.mp hx
    obtain ⟨_, _, rfl⟩ := Option.map_eq_some_iff.mp hy
    exact hab
  have nd1 : live.Nodup := by
    have : (live.map (·.1)).Nodup := rise.imp fun h => Nat.ne_of_lt h
    exact List.Pairwise.imp (fun h z => h (by rw [z])) (List.pairwise_map.mp this)
  have nd2 : (live.map (·.2)).Nodup := by
    unfold List.Nodup
    rw [List.pairwise_map]
    refine List.Pairwise.imp_of_mem ?_ nd1
    intro a b ha hb hab z
    apply hab
    have h1 := (ml a).mp ha
    have h2 := (ml b).mp hb
    rw [z, h2] at h1
    exact Prod.ext (Option.some.inj h1).symm z
  have pm : (live.map (·.2)).Perm (List.range Es.length) := by
    rw [List.perm_ext_iff_of_nodup nd2 List.nodup_range]
    intro k
    rw [List.mem_map, List.mem_range]
    constructor
    · rintro ⟨q, hq, rfl⟩; exact hk q hq
    · intro h
      have hS : k < S.length := by omega
      exact ⟨(S[k], k), (ml _).mpr (List.getElem?_eq_getElem hS), rfl⟩
  have gE : (List.range Es.length).map g = Es := by
    apply List.ext_getElem
    · simp
    · intro i h1 h2
      simp only [List.getElem_map, List.getElem_range]
      show (Es[i]?).getD _ = _
      rw [List.getElem?_eq_getElem h2]; rfl
  let L' : List En := live.map fun q => (q.1, g q.2)
  have e1 : L'.map (·.1) = live.map (·.1) := by
    show (live.map _).map _ = _
    rw [List.map_map]; rfl
  have e2 : L'.map (·.2) = (live.map (·.2)).map g := by
    show (live.map _).map _ = _
    rw [List.map_map, List.map_map]; rfl
  refine ⟨{ mask := mask, place := (live.map (·.1)).toArray, dummies := #[], finger := f, led := led, moves := m, plain := plain }, (live.map (·.2)).toArray, L', ?_, ⟨?_, rfl, ?_, ?_, ob, ?_, ?_⟩, ?_, ?_, rfl, rfl, rfl⟩
  · unfold SetTable.laid
    rw [el, e]
    rfl
  · rw [e1]
  · rw [e1]; exact rise
  · have := pm.length_eq
    simp only [List.length_map, List.length_range] at this
    show L'.length ≤ mask
    show (live.map _).length ≤ mask
    rw [List.length_map]
    omega
  · intro x hx
    obtain ⟨q, hq, rfl⟩ := List.mem_map.mp hx
    exact O.low _ (List.mem_of_getElem? ((ml q).mp hq))
  · intro x hx
    obtain ⟨q, hq, rfl⟩ := List.mem_map.mp hx
    have hkq := hk q hq
    have eg : g q.2 = Es[q.2] := by show (Es[q.2]?).getD _ = _; rw [List.getElem?_eq_getElem hkq]; rfl
    obtain ⟨n, a1, a2⟩ := O.reach q.2 (g q.2).1 (by rw [List.getElem?_map, List.getElem?_eq_getElem hkq, eg]; rfl)
    refine ⟨n, ?_, fun m' hm => ?_⟩
    · rw [(ml q).mp hq] at a1
      exact (Option.some.inj a1).symm
    · rw [e1]
      obtain ⟨k, hk'⟩ := List.mem_iff_getElem?.mp (a2 m' hm)
      exact List.mem_map.mpr ⟨(_, k), (ml (_, k)).mpr hk', rfl⟩
  · rw [e2]
    have := pm.map g
    rw [gE] at this
    exact this
  · rw [e2]
    apply Array.toList_inj.mp
    rw [Array.toList_filterMap]
    show (live.map (·.2)).filterMap _ = (live.map (·.2)).map g
    have : ∀ l : List Nat, (∀ k ∈ l, k < Es.length) → l.filterMap (fun k => Es.toArray[k]?) = l.map g := by
      intro l
      induction l with
      | nil => intro _; rfl
      | cons k l ih =>
        intro h
        have hk := h k List.mem_cons_self
        rw [List.filterMap_cons, List.map_cons, ih fun x hx => h x (List.mem_cons_of_mem _ hx)]
        have : Es.toArray[k]? = some (g k) := by
          show _ = some ((Es[k]?).getD _)
          rw [List.getElem?_toArray, List.getElem?_eq_getElem hk]; rfl
        rw [this]
    refine this _ fun k hk' => ?_
    obtain ⟨q, hq, rfl⟩ := List.mem_map.mp hk'
    exact hk q hq
theorem erase_perm {α : Type} : ∀ (l : List α) (i : Nat) (h : i < l.length), (l[i] :: l.eraseIdx i).Perm l
  | [], _, h => by simp at h
  | a :: l, 0, _ => List.Perm.refl _
  | a :: l, i + 1, h => by
    have h' : i < l.length := by simpa using h
    rw [List.getElem_cons_succ, List.eraseIdx_cons_succ]
    exact (List.Perm.swap _ _ _).trans ((erase_perm l i h').cons a)
theorem pick_perm {α : Type} (next : Nat → Nat) (xs : Array α) : (pickOrder next xs).toList.Perm xs.toList := by
  have key : ∀ (fuel k : Nat) (left : List α) (out : Array α), left.length = fuel → (pickOrder.go next fuel k left out).toList.Perm (out.toList ++ left) := by
    intro fuel
    induction fuel with
    | zero =>
      intro k left out h
      have : left = [] := List.eq_nil_of_length_eq_zero h
      subst this
      unfold pickOrder.go
      simp
    | succ f ih =>
      intro k left out h
      unfold pickOrder.go
      have hlt : next k % left.length < left.length := Nat.mod_lt _ (by omega)
      rw [List.getElem?_eq_getElem hlt]
      dsimp only
      refine (ih _ _ _ (by rw [List.length_eraseIdx_of_lt hlt]; omega)).trans ?_
      rw [Array.toList_push, List.append_assoc]
      refine List.Perm.append_left _ ?_
      rw [List.singleton_append]
      exact erase_perm _ _ hlt
  have := key xs.size 0 xs.toList #[] (by simp)
  unfold pickOrder
  simpa using this
end STab

namespace STab
open PySem PySem.W PyProof.Rows

/-! ### the list's own sort, asked of a rising order without equals -/
def g (p : Array Nat) (k : Nat) : Nat := p.getD k 0
structure Pm (N : Nat) (p : Array Nat) : Prop where
  perm : p.toList.Perm (List.range N)
theorem Pm.size {N : Nat} {p : Array Nat} (h : Pm N p) : p.size = N := by
  have := h.perm.length_eq
  simpa using this
theorem Pm.lt {N : Nat} {p : Array Nat} (h : Pm N p) {k : Nat} (hk : k < N) : g p k < N := by
  have hs := h.size
  unfold g
  have e : p.getD k 0 = p[k] := by simp [Array.getD, show k < p.size by omega]
  rw [e]
  have : p[k] ∈ p.toList := by simp
  exact List.mem_range.mp (h.perm.mem_iff.mp this)
theorem Pm.inj {N : Nat} {p : Array Nat} (h : Pm N p) {i k : Nat} (hi : i < N) (hk : k < N) (e : g p i = g p k) : i = k := by
  have hs := h.size
  have nd : p.toList.Nodup := h.perm.nodup_iff.mpr List.nodup_range
  have e1 : g p i = p.toList[i]'(by simpa using (by omega : i < p.size)) := by unfold g; simp [Array.getD, show i < p.size by omega]
  have e2 : g p k = p.toList[k]'(by simpa using (by omega : k < p.size)) := by unfold g; simp [Array.getD, show k < p.size by omega]
  rw [e1, e2] at e
  exact (List.getElem_inj nd).mp e
theorem Pm.range (N : Nat) : Pm N (List.toArray (List.range N)) := ⟨by simp⟩
theorem Pm.rev {N : Nat} {p : Array Nat} (h : Pm N p) (i j : Nat) : Pm N (kas_rev p i j) := ⟨((Array.perm_iff_toList_perm.mp (mirror_perm p i j _)).trans h.perm)⟩
theorem Pm.bub {N : Nat} {p : Array Nat} (h : Pm N p) (i j : Nat) : Pm N (bubble p i j) := ⟨((Array.perm_iff_toList_perm.mp (bubble_perm p i j)).trans h.perm)⟩
theorem g_rev {N : Nat} {p : Array Nat} (h : Pm N p) {n : Nat} (hn : n ≤ N) (k : Nat) : g (kas_rev p 0 n) k = if k < n then g p (n - 1 - k) else g p k := by
  have q := getElem?_mirror_all (xs := p) (i := 0) (j := n) (by rw [h.size]; exact hn) k
  have hg : ∀ (xs : Array Nat) (k : Nat), xs.getD k 0 = (xs[k]?).getD 0 := fun xs k => by simp
  unfold g kas_rev
  rw [hg, q]
  by_cases hk : k < n
  · rw [if_pos ⟨Nat.zero_le _, hk⟩, if_pos hk, hg, show 0 + n - 1 - k = n - 1 - k by omega]
  · rw [if_neg (fun z => hk z.2), if_neg hk, hg]
theorem g_bub {N : Nat} {p : Array Nat} (h : Pm N p) {k l : Nat} (hk : k < N) (hl : l ≤ k) (i : Nat) : g (bubble p k (k - l)) i = if i = l then g p k else if l < i ∧ i ≤ k then g p (i - 1) else g p i := by
  have q := getElem?_bubble (xs := p) (src := k) (by rw [h.size]; exact hk) (k - l) (by omega) i
  have hg : ∀ (xs : Array Nat) (k : Nat), xs.getD k 0 = (xs[k]?).getD 0 := fun xs k => by simp
  unfold g
  rw [hg, q, show k - (k - l) = l by omega]
  by_cases h1 : i = l
  · rw [if_pos h1, if_pos h1, hg]
  · rw [if_neg h1, if_neg h1]
    by_cases h2 : l < i ∧ i ≤ k
    · rw [if_pos h2, if_pos h2, hg]
    · rw [if_neg h2, if_neg h2, hg]

section
variable {N : Nat} {r : Nat → Int} {cmp : Nat → Nat → (Bool → Shared → Prop) → Shared → Prop} {P : Shared → Prop}
/-- what the asking answers -/
def Asks (N : Nat) (r : Nat → Int) (cmp : Nat → Nat → (Bool → Shared → Prop) → Shared → Prop) (P : Shared → Prop) : Prop :=
  ∀ i j (C : Bool → Shared → Prop) s, i < N → j < N → P s → (∀ s', P s' → C (decide (r i < r j)) s') → cmp i j C s
def Up (r : Nat → Int) (p : Array Nat) (n : Nat) : Prop := ∀ i j, i < j → j < n → r (g p i) < r (g p j)
def Dn (r : Nat → Int) (p : Array Nat) (n : Nat) : Prop := ∀ i j, i < j → j < n → r (g p j) < r (g p i)
variable (ha : Asks N r cmp P) (hi : ∀ i j, i < N → j < N → r i = r j → i = j)
include ha hi
theorem asc_wp {p : Array Nat} (hp : Pm N p) {G : Nat → Shared → Prop} : ∀ (f a : Nat) (s : Shared), 1 ≤ a → a + f ≤ N → Up r p a → P s → (∀ m s', a ≤ m → m ≤ a + f → Up r p m → (m < a + f → r (g p m) < r (g p (m - 1))) → P s' → G m s') → (kas_asc p f a).kasWp cmp G s
  | 0, a, s, _, _, up, hs, k => k a s (Nat.le_refl _) (by omega) up (fun z => by omega) hs
  | f + 1, a, s, a1, ha', up, hs, k => by
    refine ha _ _ _ s (hp.lt (by omega)) (hp.lt (by omega)) hs fun s' hs' => ?_
    by_cases c : r (g p a) < r (g p (a - 1))
    · have e : decide (r (p.getD a 0) < r (p.getD (a - 1) 0)) = true := decide_eq_true c
      rw [e]; dsimp only; rw [if_pos rfl]
      exact k a s' (Nat.le_refl _) (by omega) up (fun _ => c) hs'
    · have e : decide (r (p.getD a 0) < r (p.getD (a - 1) 0)) = false := decide_eq_false c
      rw [e]; dsimp only; rw [if_neg (by simp)]
      have lt : r (g p (a - 1)) < r (g p a) := by
        rcases Int.lt_trichotomy (r (g p (a - 1))) (r (g p a)) with z | z | z
        · exact z
        · have := hp.inj (i := a - 1) (k := a) (by omega) (by omega) (hi _ _ (hp.lt (by omega)) (hp.lt (by omega)) z)
          omega
        · exact absurd z c
      have up' : Up r p (a + 1) := by
        intro i j hij hj
        rcases Nat.lt_or_ge j a with z | z
        · exact up i j hij z
        · have : j = a := by omega
          subst this
          rcases Nat.lt_or_ge i (j - 1) with z' | z'
          · exact Int.lt_trans (up i (j - 1) z' (by omega)) lt
          · have : i = j - 1 := by omega
            subst this; exact lt
      exact asc_wp hp f (a + 1) s' (by omega) (by omega) up' hs' fun m s2 h1 h2 h3 h4 h5 => k m s2 (by omega) (by omega) h3 (fun z => h4 (by omega)) h5
theorem desc_wp {p : Array Nat} (hp : Pm N p) {G : Array Nat × Nat × Nat → Shared → Prop} : ∀ (f a : Nat) (s : Shared), 1 ≤ a → a + f ≤ N → Dn r p a → P s → (∀ m s', a ≤ m → m ≤ a + f → Dn r p m → P s' → G (p, m, 0) s') → (kas_desc f p a 0).kasWp cmp G s
  | 0, a, s, _, _, dn, hs, k => k a s (Nat.le_refl _) (by omega) dn hs
  | f + 1, a, s, a1, ha', dn, hs, k => by
    refine ha _ _ _ s (hp.lt (by omega)) (hp.lt (by omega)) hs fun s' hs' => ?_
    by_cases c : r (g p a) < r (g p (a - 1))
    · have e : decide (r (p.getD a 0) < r (p.getD (a - 1) 0)) = true := decide_eq_true c
      rw [e]; dsimp only; rw [if_pos rfl, if_neg (by omega)]
      have dn' : Dn r p (a + 1) := by
        intro i j hij hj
        rcases Nat.lt_or_ge j a with z | z
        · exact dn i j hij z
        · have : j = a := by omega
          subst this
          rcases Nat.lt_or_ge i (j - 1) with z' | z'
          · exact Int.lt_trans c (dn i (j - 1) z' (by omega))
          · have : i = j - 1 := by omega
            subst this; exact c
      exact desc_wp hp f (a + 1) s' (by omega) (by omega) dn' hs' fun m s2 h1 h2 h3 h4 => k m s2 (by omega) (by omega) h3 h4
    · have e : decide (r (p.getD a 0) < r (p.getD (a - 1) 0)) = false := decide_eq_false c
      rw [e]; dsimp only; rw [if_neg (by simp)]
      have lt : r (g p (a - 1)) < r (g p a) := by
        rcases Int.lt_trichotomy (r (g p (a - 1))) (r (g p a)) with z | z | z
        · exact z
        · have := hp.inj (i := a - 1) (k := a) (by omega) (by omega) (hi _ _ (hp.lt (by omega)) (hp.lt (by omega)) z)
          omega
        · exact absurd z c
      refine ha _ _ _ s' (hp.lt (by omega)) (hp.lt (by omega)) hs' fun s2 hs2 => ?_
      have e2 : decide (r (p.getD (a - 1) 0) < r (p.getD a 0)) = true := decide_eq_true lt
      rw [e2]; dsimp only; rw [if_pos rfl]
      exact k a s2 (Nat.le_refl _) (by omega) dn hs2
theorem tail_wp {p : Array Nat} (hp : Pm N p) {n : Nat} {G : Nat × Array Nat → Shared → Prop} {s : Shared} (h1 : 1 ≤ n) (hn : n ≤ N) (dn : Dn r p n) (hs : P s) (k : ∀ m p' s', Pm N p' → n ≤ m → m ≤ N → Up r p' m → P s' → G (m, p') s') : (kas_tail3 n N p).kasWp cmp G s := by
  unfold kas_tail3
  rw [KasT.kasWp_bind]
  have hp' := hp.rev 0 n
  refine asc_wp ha hi hp' (N - n) n s h1 (by omega) (fun i j hij hj => ?_) hs fun m s' m1 m2 up _ hs' => k m _ s' hp' m1 (by omega) up hs'
  rw [g_rev hp hn, g_rev hp hn, if_pos (by omega), if_pos (by omega)]
  exact dn _ _ (by omega) (by omega)
theorem count_wp {p : Array Nat} (hp : Pm N p) {G : Nat × Array Nat → Shared → Prop} {s : Shared} (h1 : 1 ≤ N) (hs : P s) (k : ∀ m p' s', Pm N p' → 1 ≤ m → m ≤ N → Up r p' m → P s' → G (m, p') s') : (kas_count N p).kasWp cmp G s := by
  unfold kas_count
  rw [KasT.kasWp_bind]
  refine asc_wp ha hi hp (N - 1) 1 s (by omega) (by omega) (fun i j hij hj => by omega) hs fun m s1 m1 m2 up st hs1 => ?_
  by_cases c : m = N
  · rw [if_pos (by simpa using c)]
    exact k m p s1 hp m1 (by omega) up hs1
  · rw [if_neg (by simpa using c)]
    by_cases c2 : m > 1
    · rw [if_pos c2]
      refine ha _ _ _ s1 (hp.lt (by omega)) (hp.lt (by omega)) hs1 fun s2 hs2 => ?_
      have e : decide (r (p.getD 0 0) < r (p.getD (m - 1) 0)) = true := decide_eq_true (up 0 (m - 1) (by omega) (by omega))
      rw [e]; dsimp only; rw [if_pos rfl]
      exact k m p s2 hp m1 (by omega) up hs2
    · rw [if_neg c2]
      have em : m = 1 := by omega
      subst em
      unfold kas_descPart
      rw [KasT.kasWp_bind]
      have lt := st (by omega)
      refine desc_wp ha hi hp (N - (1 + 1)) (1 + 1) s1 (by omega) (by omega) (fun i j hij hj => ?_) hs1 fun m' s2 b1 b2 dn hs2 => ?_
      · have : i = 0 := by omega
        have : j = 1 := by omega
        subst_vars
        exact lt
      · show (if 0 > 0 then _ else kas_tail3 m' N p).kasWp cmp G s2
        rw [if_neg (by omega)]
        exact tail_wp ha hi hp (by omega) (by omega) dn hs2 fun m2 p2 s3 q1 q2 q3 q4 q5 => k m2 p2 s3 q1 (by omega) q3 q4 q5
theorem place_wp {p : Array Nat} (hp : Pm N p) {k : Nat} (hk : k < N) (up : Up r p k) {G : Nat → Shared → Prop} : ∀ (f l rr : Nat) (s : Shared), rr - l ≤ f → l ≤ rr → rr ≤ k → (∀ i, i < l → r (g p i) < r (g p k)) → (∀ i, rr ≤ i → i < k → r (g p k) < r (g p i)) → P s →
    (∀ l' s', l' ≤ k → (∀ i, i < l' → r (g p i) < r (g p k)) → (∀ i, l' ≤ i → i < k → r (g p k) < r (g p i)) → P s' → G l' s') → (kas_place p k f l rr).kasWp cmp G s
  | 0, l, rr, s, hf, hl, hr, lo, hi', hs, kk => by
    have : l = rr := by omega
    subst this
    exact kk l s hr lo hi' hs
  | f + 1, l, rr, s, hf, hl, hr, lo, hi', hs, kk => by
    unfold kas_place
    by_cases c : l ≥ rr
    · rw [if_pos c]
      have : l = rr := by omega
      subst this
      exact kk l s hr lo hi' hs
    · rw [if_neg c]
      refine ha _ _ _ s (hp.lt hk) (hp.lt (by omega)) hs fun s' hs' => ?_
      by_cases q : r (g p k) < r (g p ((l + rr) / 2))
      · have e : decide (r (p.getD k 0) < r (p.getD ((l + rr) / 2) 0)) = true := decide_eq_true q
        rw [e]; dsimp only; rw [if_pos rfl]
        refine place_wp hp hk up f l ((l + rr) / 2) s' (by omega) (by omega) (by omega) lo (fun i h1 h2 => ?_) hs' kk
        rcases Nat.lt_or_ge ((l + rr) / 2) i with z | z
        · exact Int.lt_trans q (up _ i z h2)
        · have : i = (l + rr) / 2 := by omega
          subst this; exact q
      · have e : decide (r (p.getD k 0) < r (p.getD ((l + rr) / 2) 0)) = false := decide_eq_false q
        rw [e]; dsimp only; rw [if_neg (by simp)]
        have lt : r (g p ((l + rr) / 2)) < r (g p k) := by
          rcases Int.lt_trichotomy (r (g p ((l + rr) / 2))) (r (g p k)) with z | z | z
          · exact z
          · have := hp.inj (i := (l + rr) / 2) (k := k) (by omega) hk (hi _ _ (hp.lt (by omega)) (hp.lt hk) z)
            omega
          · exact absurd z q
        refine place_wp hp hk up f ((l + rr) / 2 + 1) rr s' (by omega) (by omega) hr (fun i h1 => ?_) hi' hs' kk
        rcases Nat.lt_or_ge i ((l + rr) / 2) with z | z
        · exact Int.lt_trans (up i _ z (by omega)) lt
        · have : i = (l + rr) / 2 := by omega
          subst this; exact lt
theorem bin_wp {G : Array Nat → Shared → Prop} : ∀ (f : Nat) (p : Array Nat) (k : Nat) (s : Shared), Pm N p → k + f = N → Up r p k → P s → (∀ p' s', Pm N p' → Up r p' N → P s' → G p' s') → (kas_bin f p k).kasWp cmp G s
  | 0, p, k, s, hp, hk, up, hs, kk => by
    have : k = N := by omega
    subst this
    exact kk p s hp up hs
  | f + 1, p, k, s, hp, hk, up, hs, kk => by
    unfold kas_bin
    rw [KasT.kasWp_bind]
    refine place_wp ha hi hp (by omega) up k 0 k s (by omega) (by omega) (Nat.le_refl _) (fun i h => by omega) (fun i h1 h2 => by omega) hs fun l s' hl lo hi' hs' => ?_
    refine bin_wp f _ (k + 1) s' (hp.bub _ _) (by omega) (fun i j hij hj => ?_) hs' kk
    rw [g_bub hp (by omega) hl, g_bub hp (by omega) hl]
    rcases Nat.lt_trichotomy j l with z | z | z
    · rw [if_neg (by omega), if_neg (by omega), if_neg (by omega), if_neg (by omega)]
      exact up i j hij (by omega)
    · subst z
      rw [if_neg (by omega), if_neg (by omega), if_pos rfl]
      exact lo i (by omega)
    · rw [if_neg (show ¬ j = l by omega), if_pos (show l < j ∧ j ≤ k by omega)]
      rcases Nat.lt_trichotomy i l with y | y | y
      · rw [if_neg (by omega), if_neg (by omega)]
        exact up i (j - 1) (by omega) (by omega)
      · rw [if_pos y]
        exact hi' (j - 1) (by omega) (by omega)
      · rw [if_neg (by omega), if_pos (by omega)]
        exact up (i - 1) (j - 1) (by omega) (by omega)
theorem sort_wp {G : Array Nat → Shared → Prop} {s : Shared} (h1 : 1 ≤ N) (hs : P s) (kk : ∀ p' s', Pm N p' → Up r p' N → P s' → G p' s') : (kas_sort N).kasWp cmp G s := by
  unfold kas_sort
  rw [KasT.kasWp_bind]
  refine count_wp ha hi (Pm.range N) h1 hs fun m p s1 hp m1 m2 up hs1 => ?_
  dsimp only
  by_cases c : m < N
  · rw [if_pos c]
    have e : max m 1 = m := by omega
    rw [e]
    exact bin_wp ha hi (N - m) p m s1 hp (by omega) up hs1 kk
  · rw [if_neg c]
    have : m = N := by omega
    subst this
    exact kk p s1 hp up hs1
end
end STab

namespace STab
open PySem

section
variable {prog : Program} {w : World} {A : Around} {E : Value → Shared → Prop} {s : Shared}
abbrev TK (prog : Program) (w : World) (h : Heap) (ks : List Int) (a : Addr) : Prop := IsTupleKey (intKind prog w) h ks a
abbrev tkh (prog : Program) (w : World) (ks : List Int) : Int := tupleKeyHash (intKind prog w) ks

/-! ### what is asked of a tuple of ints -/
theorem hashByValue_tup {ks : List Int} {a : Addr} {Q : Bool → Shared → Prop} (hk : TK prog w s.heap ks a) (h : Q true s) : wpAny (model prog w) A (hashByValue 8 (.ref a)) Q E s := by
  have hT := hk.typeIs
  obtain ⟨o, items, n, ho, _, hd, hi⟩ := hk
  unfold hashByValue
  refine wpAny_bind (wpAny_specialOf hT F.slot_tuple_hash.lookup ?_)
  dsimp only
  refine wpAny_bind (wpAny_seqItems ho hd ?_)
  refine wpAny_bind ?_
  show wpAny _ _ (forIn items _ _) _ _ s
  rw [← Array.forIn_toList]
  refine wpAny_forIn_list _ (fun rest r s' => r.1 = none ∧ s' = s ∧ ∃ ks', ItemsAre (intKind prog w) ks' rest) _ ?_ ?_ _ _ ⟨rfl, rfl, ks, hi⟩
  · rintro v rest r s' ⟨hr, rfl, ks', hl⟩
    cases hl with
    | cons h1 hl' =>
      obtain ⟨t, rfl⟩ := Value.isInt_shape h1
      refine wpAny_bind (m := hashByValue 7 (.int _ t)) ?_
      unfold hashByValue
      refine wpAny_pure ?_
      simp only [Bool.not_true, Bool.false_eq_true, if_false]
      exact wpAny_pure ⟨rfl, rfl, _, hl'⟩
  · rintro ⟨r1, r2⟩ s' ⟨hr, rfl, _⟩
    simp only at hr
    subst hr
    exact wpAny_pure h
theorem ofClass_tup {ks : List Int} {a : Addr} {Q : Bool → Shared → Prop} (hk : TK prog w s.heap ks a) (h : Q false s) : wpAny (model prog w) A (ofAClassStatement 8 (.ref a)) Q E s := by
  have hT := hk.typeIs
  obtain ⟨o, items, n, ho, _, hd, hi⟩ := hk
  unfold ofAClassStatement
  refine wpAny_bind (wpAny_typeOf hT ?_)
  dsimp only
  simp only [beq_self_eq_true, if_true]
  refine wpAny_bind (wpAny_pure ?_)
  simp only [Bool.not_true, Bool.false_eq_true, if_false]
  refine wpAny_bind (wpAny_seqItems ho hd ?_)
  dsimp only
  refine wpAny_bind ?_
  show wpAny _ _ (forIn items _ _) _ _ s
  rw [← Array.forIn_toList]
  refine wpAny_forIn_list _ (fun rest r s' => r.1 = none ∧ s' = s ∧ ∃ ks', ItemsAre (intKind prog w) ks' rest) _ ?_ ?_ _ _ ⟨rfl, rfl, ks, hi⟩
  · rintro v rest r s' ⟨hr, rfl, ks', hl⟩
    cases hl with
    | cons h1 hl' =>
      obtain ⟨t, rfl⟩ := Value.isInt_shape h1
      refine wpAny_bind (m := ofAClassStatement 7 (.int _ t)) ?_
      unfold ofAClassStatement
      refine wpAny_pure ?_
      simp only [Bool.false_eq_true, if_false]
      exact wpAny_pure ⟨rfl, rfl, _, hl'⟩
  · rintro ⟨r1, r2⟩ s' ⟨hr, rfl, _⟩
    simp only at hr
    subst hr
    exact wpAny_pure h
theorem unseen_tup {ks : List Int} {a : Addr} {stored : List Value} {Q : Bool → Shared → Prop} (hk : TK prog w s.heap ks a) (hs : ∀ y ∈ stored, ∃ b ks', y = .ref b ∧ TK prog w s.heap ks' b) (h : Q false s) :
    wpAny (model prog w) A (searchCouldBeSeen (.ref a) stored) Q E s := by
  unfold searchCouldBeSeen
  refine wpAny_bind ?_
  refine wpAny_forIn_list _ (fun rest r s' => r.1 = none ∧ s' = s ∧ ∀ y ∈ rest, ∃ b ks', y = .ref b ∧ TK prog w s.heap ks' b) _ ?_ ?_ _ _ ⟨rfl, rfl, hs⟩
  · rintro v rest r s' ⟨hr, rfl, hl⟩
    obtain ⟨b, ks', rfl, hb⟩ := hl v List.mem_cons_self
    have hl' := fun y hy => hl y (List.mem_cons_of_mem _ hy)
    dsimp only
    by_cases hab : (a == b) = true
    · rw [if_pos (by rw [hab]; rfl)]
      exact wpAny_pure ⟨rfl, rfl, hl'⟩
    · rw [if_neg (by simp only [Bool.not_eq_true] at hab; rw [hab]; simp [carriedByValue])]
      refine wpAny_bind (wpAny_eqIsQuiet_tuple hk ?_)
      simp only [Bool.not_true, Bool.false_eq_true, if_false]
      refine wpAny_bind (wpAny_eqIsQuiet_tuple hb ?_)
      simp only [Bool.not_true, Bool.false_eq_true, if_false]
      refine wpAny_bind (ofClass_tup hk ?_)
      simp only [Bool.false_eq_true, if_false]
      refine wpAny_bind (ofClass_tup hb ?_)
      simp only [Bool.false_eq_true, if_false]
      exact wpAny_pure ⟨rfl, rfl, hl'⟩
  · rintro ⟨r1, r2⟩ s' ⟨hr, rfl, _⟩
    simp only at hr
    subst hr
    exact wpAny_pure h

/-! ### a set of tuples of ints -/
def Fit (mask n : Nat) : Prop := (mask = 7 ∧ n ≤ 4) ∨ (mask = 31 ∧ n ≤ 18) ∨ (mask = 127 ∧ n ≤ 76)
theorem Fit.odd {mask n : Nat} (h : Fit mask n) : (mask % 2 == 0) = false := by rcases h with ⟨rfl, _⟩ | ⟨rfl, _⟩ | ⟨rfl, _⟩ <;> rfl
structure Raw (prog : Program) (w : World) (h : Heap) (D : Addr) (L : List En) (t : SetTable) (o : Obj) (ep : Nat) (Ms : List (List Int × Addr)) : Prop where
  at' : h.get? D = some o
  ex : o.ExactSet
  data : o.data = .set (L.map (·.2)).toArray ep t
  tok : TOk t L
  plain : t.plain = true
  led : t.led = !w.params.followText "set-order"
  fit : Fit t.mask L.length
  mem : (L.map (·.2)).Perm (Ms.map fun q => (tkh prog w q.1, Value.ref q.2))
  keys : ∀ q ∈ Ms, TK prog w h q.1 q.2
  nd : (Ms.map (·.1)).Nodup
def TSet (prog : Program) (w : World) (h : Heap) (D : Addr) (Ms : List (List Int × Addr)) : Prop := ∃ L t o ep, Raw prog w h D L t o ep Ms
section
variable {h : Heap} {D : Addr} {L : List En} {t : SetTable} {o : Obj} {ep : Nat} {Ms : List (List Int × Addr)}
theorem Raw.fits (R : Raw prog w h D L t o ep Ms) : t.fits (L.map (·.2)).toArray.size = true := by
  unfold SetTable.fits
  rw [R.tok.fill, R.tok.place]
  simp [R.tok.few]
theorem Raw.el (R : Raw prog w h D L t o ep Ms) {e : En} (he : e ∈ L) : ∃ q ∈ Ms, e.2 = (tkh prog w q.1, Value.ref q.2) := by
  have : e.2 ∈ Ms.map fun q => (tkh prog w q.1, Value.ref q.2) := R.mem.mem_iff.mp (List.mem_map.mpr ⟨e, he, rfl⟩)
  obtain ⟨q, hq, e'⟩ := List.mem_map.mp this
  exact ⟨q, hq, e'.symm⟩
theorem Raw.has (R : Raw prog w h D L t o ep Ms) {q : List Int × Addr} (hq : q ∈ Ms) : ∃ e ∈ L, e.2 = (tkh prog w q.1, Value.ref q.2) := by
  have : (tkh prog w q.1, Value.ref q.2) ∈ L.map (·.2) := R.mem.mem_iff.mpr (List.mem_map.mpr ⟨q, hq, rfl⟩)
  obtain ⟨e, he, e'⟩ := List.mem_map.mp this
  exact ⟨e, he, e'⟩
end

/-- the search, from a place of its way on -/
theorem search_wp {D : Addr} {L : List En} {t : SetTable} {o : Obj} {ep : Nat} {Ms : List (List Int × Addr)} {ks : List Int} {a : Addr} (hu : A.units < cLine) (R : Raw prog w s.heap D L t o ep Ms) (hx : TK prog w s.heap ks a)
    {Q : SetFound → Shared → Prop} (there : ks ∈ Ms.map (·.1) → Q (.there none) s)
    (free : ∀ n, (sq t.mask (tkh prog w ks) n).j ∉ L.map (·.1) → (∀ m, m < n → (sq t.mask (tkh prog w ks) m).j ∈ L.map (·.1)) → ks ∉ Ms.map (·.1) → Q (.free (sq t.mask (tkh prog w ks) n).j false) s)
    (N0 : Nat) (h0 : (sq t.mask (tkh prog w ks) N0).j ∉ L.map (·.1)) :
    ∀ (d n fuel : Nat) (stand : Option SetTable.Probe), N0 - n < d → d ≤ fuel → n ≤ N0 → stand.getD (t.probeStart (tkh prog w ks)) = sq t.mask (tkh prog w ks) n →
      (∀ k, k < n → ∃ e ∈ L, e.1 = (sq t.mask (tkh prog w ks) k).j ∧ ∀ q ∈ Ms, e.2 = (tkh prog w q.1, Value.ref q.2) → q.1 ≠ ks) →
      wpAny (model prog w) A (setSearchFrom D (.ref a) (tkh prog w ks) true fuel stand) Q E s := by
  intro d
  induction d with
  | zero => intro n fuel stand hd; omega
  | succ d ih =>
    intro n fuel stand hd hf hn hst hp
    obtain ⟨fuel, rfl⟩ : ∃ f, fuel = f + 1 := ⟨fuel - 1, by omega⟩
    unfold setSearchFrom
    refine wpAny_bind (wpAny_setState_of R.at' R.data R.fits ?_)
    dsimp only
    rw [show t.gaveWay = false from R.fit.odd, if_neg (by simp)]
    obtain ⟨m0, hm0, hm1⟩ := R.tok.empties ((Val.start t.mask (tkh prog w ks)).it (mask := t.mask) n)
    obtain ⟨m, hj1, hj2⟩ := probe_go R.tok (hashAt := fun i => (((L.map (·.2)).toArray[i]?).map (·.1)).getD 0) (fun i e he => by simp [he]) (tkh prog w ks) (10 * SetTable.turns t.mask) (sq t.mask (tkh prog w ks) n) ((Val.start _ _).it n).dum
      ⟨m0, by unfold SetTable.turns; omega, hm1⟩
    have add : ∀ k, it t.mask (sq t.mask (tkh prog w ks) n) k = sq t.mask (tkh prog w ks) (n + k) := fun k => (it_add _ _ _ _).symm
    simp only [add] at hj1 hj2
    have before : ∀ k, k < n + m → (sq t.mask (tkh prog w ks) k).j ∈ L.map (·.1) := fun k hk => by
      rcases Nat.lt_or_ge k n with z | z
      · obtain ⟨e, he, h1, _⟩ := hp k z
        exact List.mem_map.mpr ⟨e, he, h1⟩
      · obtain ⟨e, he, h1, _⟩ := hj1 (k - n) (by omega)
        rw [show n + (k - n) = k by omega] at h1
        exact List.mem_map.mpr ⟨e, he, h1⟩
    rcases hj2 with ⟨e1, e2⟩ | ⟨i, e, a1, a2, a3, a4⟩
    · have e1' : t.probe (fun i => (((L.map (·.2)).toArray[i]?).map (·.1)).getD 0) (tkh prog w ks) (stand.getD (t.probeStart (tkh prog w ks))) = some (.empty (sq t.mask (tkh prog w ks) (n + m)).j none) := by rw [hst]; exact e1
      split
      · rename_i met heq
        have := Option.some.inj (heq.symm.trans e1')
        subst this
        dsimp only
        refine wpAny_pure (free (n + m) e2 before fun hks => ?_)
        obtain ⟨q, hq, rfl⟩ := List.mem_map.mp hks
        obtain ⟨x, hx', ex⟩ := R.has hq
        obtain ⟨n', r1, r2⟩ := R.tok.reach x hx'
        rw [show x.2.1 = tkh prog w q.1 by rw [ex]] at r1 r2
        rcases Nat.lt_trichotomy n' (n + m) with z | z | z
        · rcases Nat.lt_or_ge n' n with y | y
          · obtain ⟨e', he', h1, h2⟩ := hp n' y
            have : e' = x := R.tok.inj he' hx' (by rw [h1, r1])
            subst this
            exact h2 q hq ex rfl
          · obtain ⟨e', he', h1, h2⟩ := hj1 (n' - n) (by omega)
            rw [show n + (n' - n) = n' by omega] at h1
            have : e' = x := R.tok.inj he' hx' (by rw [h1, r1])
            subst this
            exact h2 (by rw [ex])
        · subst z
          exact e2 (by rw [r1]; exact List.mem_map.mpr ⟨x, hx', rfl⟩)
        · exact e2 (r2 _ z)
      · rename_i heq
        exact absurd e1' (heq _)
    · have a4' : t.probe (fun i => (((L.map (·.2)).toArray[i]?).map (·.1)).getD 0) (tkh prog w ks) (stand.getD (t.probeStart (tkh prog w ks))) = some (.candidate (sq t.mask (tkh prog w ks) (n + m)).j i (sq t.mask (tkh prog w ks) (n + (m + 1)))) := by rw [hst]; exact a4
      have heL := List.mem_of_getElem? a1
      obtain ⟨q, hq, eq⟩ := R.el heL
      have hkq := R.keys q hq
      have lt : n + m < N0 := by
        rcases Nat.lt_or_ge (n + m) N0 with z | z
        · exact z
        · rcases Nat.lt_or_ge N0 (n + m) with y | y
          · exact absurd (before N0 y) h0
          · have : N0 = n + m := by omega
            subst this
            exact absurd (by rw [← a2]; exact List.mem_map.mpr ⟨e, heL, rfl⟩) h0
      split
      · rename_i met heq
        have := Option.some.inj (heq.symm.trans a4')
        subst this
        dsimp only
        have hes : (L.map (·.2)).toArray[i]? = some (tkh prog w q.1, Value.ref q.2) := by
          rw [List.getElem?_toArray, List.getElem?_map, a1, ← eq]; rfl
        have rest : wpAny (model prog w) A (do
            let equal ← holding [Value.ref q.2] (eqBool (.ref q.2) (.ref a))
            let (es', _, t') ← setState D
            if true && equal then return .there none
            let some same := t'.sameMemory t.moves t.mask | unsupported "set.changed-during-lookup:is-the-new-block-at-the-old-address"
            let still ← match (if same then t'.slot (sq t.mask (tkh prog w ks) (n + m)).j else .empty) with
              | .live i' => match es'[i']? with
                | some (_, y') => do pure (if ← isSame y' (.ref q.2) then some i' else none)
                | none => pure none
              | _ => pure none
            match still with
            | none => rule "set.search.anew"; setSearchFrom D (.ref a) (tkh prog w ks) true fuel none
            | some i' => if equal then return .there (some i') else setSearchFrom D (.ref a) (tkh prog w ks) true fuel (some (sq t.mask (tkh prog w ks) (n + (m + 1))))) Q E s := by
          refine wpAny_bind (wpAny_holding (wpAny_eqBool_tuple hu hkq hx ?_))
          refine wpAny_bind (wpAny_setState_of R.at' R.data R.fits ?_)
          dsimp only
          by_cases c : q.1 = ks
          · rw [decide_eq_true c, if_pos (by simp)]
            exact wpAny_pure (there (List.mem_map.mpr ⟨q, hq, c⟩))
          · rw [decide_eq_false c, if_neg (by simp)]
            have sm : t.sameMemory t.moves t.mask = some true := by unfold SetTable.sameMemory; rw [if_pos (by simp)]
            have sl : t.slot (sq t.mask (tkh prog w ks) (n + m)).j = .live i := by rw [← a2]; exact R.tok.slot_in a1
            rw [sm]
            dsimp only
            rw [if_pos rfl, sl]
            dsimp only
            rw [hes]
            dsimp only
            refine wpAny_bind (wpAny_isSame_ref_self ?_)
            refine wpAny_bind (wpAny_pure ?_)
            rw [if_pos rfl]
            dsimp only
            rw [if_neg (by simp)]
            refine ih (n + m + 1) fuel _ (by omega) (by omega) (by omega) rfl fun k hk => ?_
            rcases Nat.lt_trichotomy k (n + m) with z | z | z
            · rcases Nat.lt_or_ge k n with y | y
              · exact hp k y
              · obtain ⟨e', he', h1, h2⟩ := hj1 (k - n) (by omega)
                rw [show n + (k - n) = k by omega] at h1
                refine ⟨e', he', h1, fun q' hq' e'' z' => h2 ?_⟩
                rw [e'', ← z']
            · subst z
              refine ⟨e, heL, a2, fun q' hq' e'' z' => ?_⟩
              rw [eq] at e''
              have e3 : q.2 = q'.2 := by
                have := congrArg Prod.snd e''
                injection this
              have hk' := R.keys q' hq'
              rw [← e3] at hk'
              exact c ((hkq.inj hk').trans z')
            · omega
        by_cases hl : t.led = true
        · rw [hl]
          simp only [Bool.not_true, Bool.false_eq_true, if_false]
          rw [hes]
          dsimp only
          exact rest
        · rw [Bool.not_eq_true] at hl
          rw [hl]
          simp only [Bool.not_false, if_true]
          refine wpAny_bind (unseen_tup hx (fun y hy => ?_) ?_)
          · obtain ⟨u, hu', rfl⟩ := List.mem_map.mp hy
            have hu2 : u ∈ L.map (·.2) := by
              have := hu'
              simp at this
              obtain ⟨⟨x1, x2⟩, _⟩ := this
              exact List.mem_map.mpr ⟨(x1, u), x2, rfl⟩
            obtain ⟨e', he', rfl⟩ := List.mem_map.mp hu2
            obtain ⟨q', hq', eq'⟩ := R.el he'
            exact ⟨q'.2, q'.1, by rw [eq'], R.keys q' hq'⟩
          · simp only [Bool.false_eq_true, if_false]
            rw [hes]
            dsimp only
            exact rest
      · rename_i heq
        exact absurd a4' (heq _)
end
end STab

namespace STab
open PySem
section
variable {prog : Program} {w : World} {A : Around} {E : Value → Shared → Prop} {s : Shared}
theorem TK.keep {h h' : Heap} {ks : List Int} {a D : Addr} {o : Obj} {es : Array (Int × Value)} {ep : Nat} {t : SetTable} (x : TK prog w h ks a) (ho : h.get? D = some o) (hd : o.data = .set es ep t) (hs : ∀ b u, b ≠ D → h.get? b = some u → h'.get? b = some u) : TK prog w h' ks a := by
  obtain ⟨o', items, n, ho', hc, hd', hi⟩ := x
  have hne : a ≠ D := by
    rintro rfl
    rw [ho] at ho'
    cases ho'
    rw [hd] at hd'
    cases hd'
  exact ⟨o', items, n, hs a o' hne ho', hc, hd', hi⟩
theorem TK.all {h h' : Heap} {ks : List Int} {a : Addr} (x : TK prog w h ks a) (hs : ∀ b u, h.get? b = some u → h'.get? b = some u) : TK prog w h' ks a := by
  obtain ⟨o', items, n, ho', hc, hd', hi⟩ := x
  exact ⟨o', items, n, hs a o' ho', hc, hd', hi⟩
theorem store_raw {D : Addr} {L L' : List En} {t t' : SetTable} {o : Obj} {ep : Nat} {Ms Ms' : List (List Int × Addr)} {h : Heap} (R : Raw prog w h D L t o ep Ms) (tok : TOk t' L') (pl : t'.plain = true) (led : t'.led = !w.params.followText "set-order") (fit : Fit t'.mask L'.length)
    (mem : (L'.map (·.2)).Perm (Ms'.map fun q => (tkh prog w q.1, Value.ref q.2))) (keys : ∀ q ∈ Ms', TK prog w h q.1 q.2) (nd : (Ms'.map (·.1)).Nodup) :
    Raw prog w (h.update D (Obj.putSet (L'.map (·.2)).toArray t')) D L' t' { o with data := .set (L'.map (·.2)).toArray (ep + 1) t' } (ep + 1) Ms' := by
  have hg : (h.update D (Obj.putSet (L'.map (·.2)).toArray t')).get? D = some { o with data := .set (L'.map (·.2)).toArray (ep + 1) t' } := by
    have := Heap.get?_update_self (Obj.putSet (L'.map (·.2)).toArray t') R.at' (by rw [putSet_of _ t' R.data]; rfl)
    rw [putSet_of _ t' R.data] at this; exact this
  refine ⟨hg, R.ex, rfl, tok, pl, led, fit, mem, fun q hq => ?_, nd⟩
  exact (keys q hq).keep R.at' R.data fun b u hb e => (Heap.get?_update_other _ _ (Ne.symm hb)).trans e
theorem tooFull_eq {t : SetTable} {L : List En} (T : TOk t L) : t.tooFull = decide (L.length * 5 ≥ t.mask * 3) := by
  unfold SetTable.tooFull
  rw [T.fill]
theorem size_small {n : Nat} (h : n ≤ 1000) : n ≤ sizeLine := Nat.le_trans h (by decide)

/-- all elements laid anew, with room -/
theorem relay_wp {D : Addr} {L : List En} {t : SetTable} {o : Obj} {ep : Nat} {Ms : List (List Int × Addr)} {wanted mask : Nat} (hd : s.heap.get? D = some o) (ex : o.ExactSet) (data : o.data = .set (L.map (·.2)).toArray ep t) (tok : TOk t L) (pl : t.plain = true) (led : t.led = !w.params.followText "set-order")
    (mem : (L.map (·.2)).Perm (Ms.map fun q => (tkh prog w q.1, Value.ref q.2))) (keys : ∀ q ∈ Ms, TK prog w s.heap q.1 q.2) (nd : (Ms.map (·.1)).Nodup)
    (hm : SetTable.sizeAbove wanted = mask + 1) (ob : Orb mask) (fit : Fit mask L.length) {Q : Unit → Shared → Prop}
    (h : ∀ h', (∀ b u, b ≠ D → s.heap.get? b = some u → h'.get? b = some u) → TSet prog w h' D Ms → Q () { s with heap := h' }) : wpAny (model prog w) A (setRelay D wanted) Q E s := by
  have hlen : L.length ≤ mask := by rcases fit with ⟨rfl, z⟩ | ⟨rfl, z⟩ | ⟨rfl, z⟩ <;> omega
  have hmk : mask ≤ 127 := by rcases fit with ⟨rfl, z⟩ | ⟨rfl, z⟩ | ⟨rfl, z⟩ <;> omega
  have hf : t.fits (L.map (·.2)).toArray.size = true := by
    unfold SetTable.fits
    rw [tok.fill, tok.place]
    simp [tok.few]
  obtain ⟨t', order, L', e1, T', pm, e2, k1, k2, k3⟩ := laid_spec ob t.finger (t.movedTo mask) t.led t.plain (L.map (·.2)) (by simpa using hlen)
  have hL' : L'.length = L.length := by have := pm.length_eq; simpa using this
  unfold setRelay
  refine wpAny_bind (wpAny_setState_of hd data hf ?_)
  dsimp only
  rw [if_neg (by rw [hm]; exact Nat.not_lt.mpr (size_small (by omega)))]
  have er : t.relaid ((L.map (·.2)).toArray.map (·.1)) wanted = some (t', order) := by
    unfold SetTable.relaid
    rw [hm, show mask + 1 - 1 = mask by omega]
    exact e1
  rw [er]
  refine wpAny_bind ?_
  show wpAny (model prog w) A (if ((order.filterMap ((L.map (·.2)).toArray[·]?)).size != (L.map (·.2)).toArray.size) = true then unsupported "internal:set-table-lost-an-element" else pure (order.filterMap ((L.map (·.2)).toArray[·]?), t')) _ E s
  rw [e2, if_neg (by simp [hL'])]
  refine wpAny_pure ?_
  dsimp only
  refine wpAny_storeSet_of hd data ?_ (by simpa [hL'] using size_small (n := L.length) (by omega))
  have hg : (s.heap.update D (Obj.putSet (L'.map (·.2)).toArray t')).get? D = some { o with data := .set (L'.map (·.2)).toArray (ep + 1) t' } := by
    have := Heap.get?_update_self (Obj.putSet (L'.map (·.2)).toArray t') hd (by rw [putSet_of _ t' data]; rfl)
    rw [putSet_of _ t' data] at this; exact this
  have oth : ∀ b u, b ≠ D → s.heap.get? b = some u → (s.heap.update D (Obj.putSet (L'.map (·.2)).toArray t')).get? b = some u := fun b u hb e => (Heap.get?_update_other _ _ (Ne.symm hb)).trans e
  refine h _ oth ⟨L', t', _, ep + 1, hg, ex, rfl, T', by rw [k3, pl], by rw [k2, led], by rw [k1, hL']; exact fit, pm.trans mem, fun q hq => (keys q hq).keep hd data oth, nd⟩

theorem add_wp {D : Addr} {Ms : List (List Int × Addr)} {ks : List Int} {a : Addr} (hu : A.units < cLine) (T : TSet prog w s.heap D Ms) (hx : TK prog w s.heap ks a) (hb : Ms.length < 70) {Q : Bool → Shared → Prop}
    (h : ∀ b h' tk, (∀ b u, b ≠ D → s.heap.get? b = some u → h'.get? b = some u) → TSet prog w h' D (if ks ∈ Ms.map (·.1) then Ms else (ks, a) :: Ms) → Q b { s with heap := h', toks := tk }) :
    wpAny (model prog w) A (setAdd D (.ref a)) Q E s := by
  obtain ⟨L, t, o, ep, R⟩ := T
  have hlen : L.length = Ms.length := by have := R.mem.length_eq; simpa using this
  unfold setAdd
  refine wpAny_holding (wpAny_bind (wpAny_pyHash_tuple hu hx ?_))
  unfold setAddHashed
  refine wpAny_holding ?_
  generalize hs1 : ({ s with toks := s.toks + (ks.length + 1) } : Shared) = s1
  have hh : s1.heap = s.heap := by rw [← hs1]
  rw [← hh] at R hx
  rw [show (100000 : Nat) = 99999 + 1 from rfl]
  unfold setAddHashedIn
  refine wpAny_bind (wpAny_setState_of R.at' R.data R.fits ?_)
  dsimp only
  rw [show byScan (Value.ref a) (L.map (·.2)).toArray = false from rfl, if_neg (by simp)]
  obtain ⟨N0, n0, h0⟩ := R.tok.empties (Val.start t.mask (tkh prog w ks))
  have hmk : t.mask ≤ 127 := by rcases R.fit with ⟨z, _⟩ | ⟨z, _⟩ | ⟨z, _⟩ <;> omega
  refine wpAny_bind ?_
  unfold setSearch
  refine search_wp hu R hx (fun hin => ?_) (fun n f1 f2 f3 => ?_) N0 h0 (N0 + 1) 0 100000 none (by omega) (by omega) (Nat.zero_le _) rfl (fun k hk => by omega)
  · dsimp only
    refine wpAny_pure ?_
    have := h false s.heap (s.toks + (ks.length + 1)) (fun b u _ e => e) (by rw [if_pos hin]; rw [hh] at R; exact ⟨L, t, o, ep, R⟩)
    rw [hs1] at this
    exact this
  · dsimp only
    refine wpAny_bind (wpAny_setState_of R.at' R.data R.fits ?_)
    dsimp only
    have room : L.length + 1 ≤ t.mask := by rcases R.fit with ⟨z, y⟩ | ⟨z, y⟩ | ⟨z, y⟩ <;> omega
    have jl : (sq t.mask (tkh prog w ks) n).j ≤ t.mask := by have := sq_low t.mask (tkh prog w ks) n; omega
    obtain ⟨T1, m1, m2, m3, m4⟩ := R.tok.put (e := ((sq t.mask (tkh prog w ks) n).j, tkh prog w ks, Value.ref a)) f1 jl room ⟨n, rfl, f2⟩
    dsimp only at T1 m1 m2 m3 m4
    generalize hL1 : ins L ((sq t.mask (tkh prog w ks) n).j, tkh prog w ks, Value.ref a) = L1 at T1 m4
    have len1 : L1.length = L.length + 1 := by rw [← hL1]; exact ins_len _ _
    have mem1 : (L1.map (·.2)).Perm (((ks, a) :: Ms).map fun q => (tkh prog w q.1, Value.ref q.2)) := by
      rw [← hL1]
      exact ((ins_perm _ _).map _).trans (List.Perm.cons _ R.mem)
    have keys1 : ∀ q ∈ (ks, a) :: Ms, TK prog w s1.heap q.1 q.2 := fun q hq => by
      rcases List.mem_cons.mp hq with rfl | hq
      · exact hx
      · exact R.keys q hq
    have nd1 : (((ks, a) :: Ms).map (·.1)).Nodup := List.nodup_cons.mpr ⟨f3, R.nd⟩
    generalize t.put (sq t.mask (tkh prog w ks) n).j = tp at T1 m1 m2 m3 m4 ⊢
    obtain ⟨t1, p1⟩ := tp
    dsimp only at T1 m1 m2 m3 m4 ⊢
    rw [m3, R.plain, if_pos rfl]
    refine wpAny_bind (hashByValue_tup hx ?_)
    rw [if_pos rfl, m4]
    refine wpAny_bind (wpAny_storeSet_of R.at' R.data ?_ (by simp only [List.size_toArray, List.length_map]; exact size_small (by omega)))
    have oth : ∀ b u, b ≠ D → s1.heap.get? b = some u → (s1.heap.update D (Obj.putSet (L1.map (·.2)).toArray t1)).get? b = some u := fun b u hb e => (Heap.get?_update_other _ _ (Ne.symm hb)).trans e
    have hg : (s1.heap.update D (Obj.putSet (L1.map (·.2)).toArray t1)).get? D = some { o with data := .set (L1.map (·.2)).toArray (ep + 1) t1 } := by
      have := Heap.get?_update_self (Obj.putSet (L1.map (·.2)).toArray t1) R.at' (by rw [putSet_of _ t1 R.data]; rfl)
      rw [putSet_of _ t1 R.data] at this; exact this
    have fin : ∀ h' tk, (∀ b u, b ≠ D → s1.heap.get? b = some u → h'.get? b = some u) → TSet prog w h' D ((ks, a) :: Ms) → tk = s1.toks → Q true { s1 with heap := h', toks := tk } := fun h' tk k1 k2 k3 => by
      have := h true h' tk (by rw [← hh]; exact k1) (by rw [if_neg f3]; exact k2)
      rw [← hs1]
      exact this
    rw [tooFull_eq T1, len1, m1]
    have led1 : t1.led = !w.params.followText "set-order" := by rw [m2, R.led]
    have pl1 : t1.plain = true := by rw [m3, R.plain]
    have keys2 : ∀ q ∈ (ks, a) :: Ms, TK prog w (s1.heap.update D (Obj.putSet (L1.map (·.2)).toArray t1)) q.1 q.2 := fun q hq => (keys1 q hq).keep R.at' R.data oth
    by_cases full : (L.length + 1) * 5 ≥ t.mask * 3
    · rw [decide_eq_true full, if_pos (by simp)]
      have big : ∃ mask, SetTable.sizeAbove (SetTable.grown ((L.map (·.2)).toArray.size + 1)) = mask + 1 ∧ Orb mask ∧ Fit mask L1.length := by
        rcases R.fit with ⟨z, y⟩ | ⟨z, y⟩ | ⟨z, y⟩
        · have : L.length = 4 := by omega
          exact ⟨31, by simp only [List.size_toArray, List.length_map, this]; decide, orb31, .inr (.inl ⟨rfl, by omega⟩)⟩
        · have : L.length = 18 := by omega
          exact ⟨127, by simp only [List.size_toArray, List.length_map, this]; decide, orb127, .inr (.inr ⟨rfl, by omega⟩)⟩
        · omega
      obtain ⟨mask, b1, b2, b3⟩ := big
      refine wpAny_bind (relay_wp (D := D) (L := L1) (t := t1) (Ms := (ks, a) :: Ms) hg (show Obj.ExactSet { o with data := .set (L1.map (·.2)).toArray (ep + 1) t1 } from R.ex) rfl T1 pl1 led1 mem1 keys2 nd1 b1 b2 b3 fun h' k1 k2 => ?_)
      exact wpAny_pure (fin h' _ (fun b u hb e => k1 b u hb (oth b u hb e)) k2 rfl)
    · rw [decide_eq_false full, if_neg (by simp)]
      refine wpAny_pure (fin _ _ oth ⟨L1, t1, _, ep + 1, hg, R.ex, rfl, T1, pl1, led1, ?_, mem1, keys2, nd1⟩ rfl)
      rw [m1, len1]
      rcases R.fit with ⟨z, y⟩ | ⟨z, y⟩ | ⟨z, y⟩
      · exact .inl ⟨z, by omega⟩
      · exact .inr (.inl ⟨z, by omega⟩)
      · exact .inr (.inr ⟨z, by omega⟩)
end
end STab

namespace STab
open PySem
/-! ### set(..) of a list or a tuple of tuples of ints -/
abbrev Pr := List Int × Addr
def addM (Ms : List Pr) (q : Pr) : List Pr := if q.1 ∈ Ms.map (·.1) then Ms else q :: Ms
structure Grown (its Ms : List Pr) : Prop where
  sub : ∀ q ∈ Ms, q ∈ its
  all : ∀ q ∈ its, q.1 ∈ Ms.map (·.1)
  nd : (Ms.map (·.1)).Nodup
theorem Grown.nil : Grown [] [] := ⟨(fun _ h => nomatch h), (fun _ h => nomatch h), List.nodup_nil⟩
theorem Grown.step {its Ms : List Pr} (G : Grown its Ms) (q : Pr) : Grown (its ++ [q]) (addM Ms q) := by
  unfold addM
  by_cases h : q.1 ∈ Ms.map (·.1)
  · rw [if_pos h]
    refine ⟨fun x hx => List.mem_append_left _ (G.sub x hx), fun x hx => ?_, G.nd⟩
    rcases List.mem_append.mp hx with z | z
    · exact G.all x z
    · rw [List.mem_singleton.mp z]; exact h
  · rw [if_neg h]
    refine ⟨fun x hx => ?_, fun x hx => ?_, List.nodup_cons.mpr ⟨h, G.nd⟩⟩
    · rcases List.mem_cons.mp hx with rfl | z
      · exact List.mem_append_right _ (List.mem_singleton.mpr rfl)
      · exact List.mem_append_left _ (G.sub x z)
    · rcases List.mem_append.mp hx with z | z
      · exact List.mem_cons_of_mem _ (G.all x z)
      · rw [List.mem_singleton.mp z]; exact List.mem_cons_self
theorem nodup_sub {α : Type} [BEq α] [LawfulBEq α] : ∀ (a b : List α), a.Nodup → a ⊆ b → a.length ≤ b.length
  | [], _, _, _ => by simp
  | x :: a, b, hn, hs => by
    have hx : x ∈ b := hs List.mem_cons_self
    have hn' := List.nodup_cons.mp hn
    have := nodup_sub a (b.erase x) hn'.2 fun y hy => (List.mem_erase_of_ne (fun z => hn'.1 (by rw [← z]; exact hy))).mpr (hs (List.mem_cons_of_mem _ hy))
    rw [List.length_erase_of_mem hx] at this
    have hp : 0 < b.length := List.length_pos_of_mem hx
    simp only [List.length_cons]
    omega
section
variable {prog : Program} {w : World} {A : Around} {I : Addr} {fp wr : List Addr} {n : Nat} {P : Nat → Value → Prop} {St : Nat → Heap → Prop}
theorem TSet.keep {h h' : Heap} {D : Addr} {Ms : List Pr} (T : TSet prog w h D Ms) (hD : ∀ u, h.get? D = some u → h'.get? D = some u) (hk : ∀ q ∈ Ms, TK prog w h' q.1 q.2) : TSet prog w h' D Ms := by
  obtain ⟨L, t, o, ep, R⟩ := T
  exact ⟨L, t, o, ep, hD _ R.at', R.ex, R.data, R.tok, R.plain, R.led, R.fit, R.mem, hk, R.nd⟩
theorem upd_loop {R : Result → Shared → Prop} (W : Walks prog w A.in1 I fp wr n P St) (hu : A.in1.units < cLine) (D : Addr) (hDf : D ∉ fp) (its : List Pr) (hn : its.length = n) (hP : ∀ i v, P i v → ∃ q, its[i]? = some q ∧ v = .ref q.2) (hw : ∀ q ∈ its, q.2 ∉ wr)
    (U : List (List Int)) (hU : U.length < 70) (hUs : ∀ q ∈ its, q.1 ∈ U) :
    ∀ (k i : Nat) (s : Shared) (Ms : List Pr), n - i = k → i ≤ n → St i s.heap → (∀ q ∈ its, TK prog w s.heap q.1 q.2) → TSet prog w s.heap D Ms → Grown (its.take i) Ms →
      (∀ h' tk Ms', (∀ b u, b ≠ D → b ∉ wr → s.heap.get? b = some u → h'.get? b = some u) → TSet prog w h' D Ms' → Grown its Ms' → R (.ok (.ret .none)) { s with heap := h', toks := tk }) →
      codeAny (model prog w) A (.builtin "set.update.loop" ⟨[.ref D, .ref I], []⟩) R s := by
  have hDw : D ∉ wr := fun h => hDf (W.sub _ h)
  intro k
  induction k with
  | zero =>
    intro i s Ms hk hi hst hT T G hR
    have e : i = n := by omega
    subst e
    refine codeAny_builtin PyProof.Rows.F.entry_set_update_loop ?_
    rw [Around.under_plainId PyProof.Rows.F.plain_set_update_loop]
    refine wpAny_bind (m := pyNext (.ref I)) (W.done s _ _ hst fun h' tk kp => ?_)
    refine wpAny_pure (hR h' tk Ms (fun b u _ hb e => kp b u hb e) (T.keep (fun u e => kp D u hDw e) fun q hq => ?_) (by rw [List.take_of_length_le (by omega)] at G; exact G))
    have hqi : q ∈ its := by have := G.sub q hq; exact List.mem_of_mem_take this
    obtain ⟨o', items, m, ho', hc, hd', hi'⟩ := hT q hqi
    exact ⟨o', items, m, kp _ _ (hw q hqi) ho', hc, hd', hi'⟩
  | succ k ih =>
    intro i s Ms hk hi hst hT T G hR
    have hlt : i < n := by omega
    refine codeAny_builtin PyProof.Rows.F.entry_set_update_loop ?_
    rw [Around.under_plainId PyProof.Rows.F.plain_set_update_loop]
    refine wpAny_bind (m := pyNext (.ref I)) (W.item i s _ _ hlt hst fun v h1 tk1 hv hst1 kp1 => ?_)
    obtain ⟨q, hq, rfl⟩ := hP i v hv
    have hqi := List.mem_of_getElem? hq
    have keep1 : ∀ q ∈ its, TK prog w h1 q.1 q.2 := fun q hqi => by
      obtain ⟨o', items, m, ho', hc, hd', hi'⟩ := hT q hqi
      exact ⟨o', items, m, kp1 _ _ (hw q hqi) ho', hc, hd', hi'⟩
    have T1 : TSet prog w h1 D Ms := T.keep (fun u e => kp1 D u hDw e) fun q hq => keep1 q (List.mem_of_mem_take (G.sub q hq))
    have few : Ms.length < 70 := by
      have := nodup_sub (Ms.map (·.1)) U G.nd fun x hx => by
        obtain ⟨q, hq, rfl⟩ := List.mem_map.mp hx
        exact hUs q (List.mem_of_mem_take (G.sub q hq))
      rw [List.length_map] at this
      omega
    refine wpAny_bind (m := holding [Value.ref q.2] (setAdd D (.ref q.2))) (wpAny_holding (add_wp (s := { s with heap := h1, toks := tk1 }) hu T1 (keep1 q hqi) few fun b h2 tk2 kp2 T2 => ?_))
    refine wpAny_pure ⟨plainId_quiet PyProof.Rows.F.plain_set_update_loop _, ?_⟩
    obtain ⟨L, t, o, ep, RR⟩ := id T1
    refine ih (i + 1) { s with heap := h2, toks := tk2 } (addM Ms q) (by omega) hlt (W.frame _ _ _ hst1 fun b hb o e => kp2 b o (fun z => hDf (z ▸ hb)) e) (fun x hx => (keep1 x hx).keep RR.at' RR.data kp2) T2 ?_ fun h' tk Ms' k1 k2 k3 => ?_
    · rw [List.take_succ, hq]
      exact G.step q
    · exact hR h' tk Ms' (fun b u b1 b2 e => k1 b u b1 b2 (kp2 b u b1 (kp1 b u b2 e))) k2 k3
end
section
variable {prog : Program} {w : World} {A : Around} {E : Value → Shared → Prop} {s : Shared}
abbrev newSetO (w : World) : Obj := { cls := .type "set", dict := none, data := .set #[] 0 (.fresh 0 0 (!w.params.followText "set-order")) }
theorem set_new (a : Value) {Q₁ : Value → Shared → Prop} (h : Q₁ (.ref s.heap.objs.size) { s with heap := s.heap.push (newSetO w) }) :
    codeAny (model prog w) A (.call (.builtin "set.__new__") ⟨[.type "set", a], []⟩) (wants Q₁ E) s := by
  refine codeAny_of_tree ?_
  refine wpAny_bind (m := checkBuiltinCall "set.__new__" ⟨[.type "set", a], []⟩) (wpAny_of_eq (F.newCall_set_1 a) ?_)
  refine wpAny_pure ⟨plainId_quiet F.plain_set_new _, ?_⟩
  refine codeAny_builtin F.entry_set_new ?_
  rw [Around.under_plainId F.plain_set_new]
  unfold Builtin.«set.__new__» Builtin.Frozenset.newClass
  have sub := sub_set_self
  obtain ⟨hp, gn, dr, tk, os⟩ := s
  dsimp only
  wp_walk
  refine wpAny_askSetting (wpAny_pure ?_)
  dsimp only
  simp only [newObj]
  refine wpAny_bind (wpAny_alloc (wpAny_pure ?_))
  exact wpAny_pure h
theorem tset_new (h : Heap) : TSet prog w (h.push (newSetO w)) h.objs.size [] := by
  refine ⟨[], .fresh 0 0 (!w.params.followText "set-order"), _, 0, Heap.get?_push_size _ rfl, ⟨rfl, rfl, rfl⟩, rfl, ⟨rfl, rfl, List.Pairwise.nil, Nat.zero_le _, orb7, fun e he => by simp at he, fun e he => by simp at he⟩, rfl, rfl, .inl ⟨rfl, by simp⟩, List.Perm.refl _, fun q hq => by simp at hq, List.nodup_nil⟩

theorem sub_list_set : isSubtype (.type "list") (.type "set") = pure false := F.sub_list_set
theorem sub_list_frz : isSubtype (.type "list") (.type "frozenset") = pure false := F.sub_list_frozenset
theorem sub_tuple_set : isSubtype (.type "tuple") (.type "set") = pure false := by rw [isSubtype_type]; kernel_rfl
theorem sub_tuple_frz : isSubtype (.type "tuple") (.type "frozenset") = pure false := by rw [isSubtype_type]; kernel_rfl

set_option maxHeartbeats 3200000 in
theorem set_of_list {x : Addr} {items : Array Value} {its : List Pr} {U : List (List Int)} {Q : Value → Shared → Prop} (hh : A.handled = none) (hu : A.units + 10 < cLine) (hl : s.heap.IsList x items) (hv : items.toList = its.map fun q => Value.ref q.2)
    (hk : ∀ q ∈ its, TK prog w s.heap q.1 q.2) (hU : U.length < 70) (hUs : ∀ q ∈ its, q.1 ∈ U)
    (h : ∀ h' tk Ms, (∀ b u, s.heap.get? b = some u → h'.get? b = some u) → TSet prog w h' s.heap.objs.size Ms → Grown its Ms → Q (.ref s.heap.objs.size) { s with heap := h', toks := tk }) :
    wpAny (model prog w) A (call (.type "set") [.ref x]) Q E s := by
  obtain ⟨c, tl, mro⟩ := F.called_set.mro
  have made := F.called_set.made
  have subs := F.called_set.sub
  refine wpAny_call (codeAny_of_tree ?_); show wpAny _ _ (callAny (.type "set") _) _ _ _
  refine wpAny_pure ⟨Code.quiet_builtin _ (by decide +kernel), codeAny_builtin F.entry_type_call ?_⟩; rw [Around.under_plain (weight_type_call_type "set" [.ref x] []) rfl]
  have n1 := F.called_set.notType
  have n2 := F.called_set.canCreate
  have n3 := F.typeCall_set_1 (.ref x)
  repeat (any_goals (first | assumption | wp_step))
  refine codeAny_mono (set_new (.ref x) (E := E) (Q₁ := fun ob s₁ => ob = .ref s.heap.objs.size ∧ s₁ = { s with heap := s.heap.push (newSetO w) }) ⟨rfl, rfl⟩) fun r s₁ hr => ?_
  cases r with
  | error e => exact hr
  | ok fl =>
    cases fl with
    | ret ob =>
      obtain ⟨rfl, rfl⟩ := hr
      have hS : (s.heap.push (newSetO w)).get? s.heap.objs.size = some (newSetO w) := Heap.get?_push_size _ rfl
      have hT : Shared.TypeIs { s with heap := s.heap.push (newSetO w) } (.ref s.heap.objs.size) "set" := ⟨_, hS, rfl⟩
      have q1 := F.called_set.init.lookup
      have q2 := F.called_set.init.bind (.ref s.heap.objs.size)
      repeat (any_goals (first | assumption | wp_step))
      refine codeAny_mono (codeAny_call_builtin (R := wants (fun r s₂ => r = .none ∧ ∃ h' tk Ms, s₂ = { s with heap := h', toks := tk } ∧ (∀ b u, s.heap.get? b = some u → h'.get? b = some u) ∧ TSet prog w h' s.heap.objs.size Ms ∧ Grown its Ms) E) F.called_set.init.plain F.entry_set_init (check_set_init_1 hT ?_)) fun r₂ s₂ hr₂ => ?_
      · obtain ⟨ol, hol, hcl, nl, hdl⟩ := id hl
        obtain ⟨ocls, odict, odata, oslots⟩ := ol
        simp only at hcl hdl
        subst hcl; subst hdl
        have hol' : (s.heap.push (newSetO w)).get? x = some { cls := .type "list", dict := odict, data := .seq items nl, slots := oslots } := Heap.get?_push_of_some _ hol
        have b1 := sub_list_set
        have b2 := sub_list_frz
        have b3 : (Value.type "list" == Value.type "dict") = false := by decide
        have hl1 : (s.heap.push (newSetO w)).IsList x items := ⟨_, hol', rfl, nl, rfl⟩
        unfold Builtin.«set.__init__» noKeywords Builtin.Frozenset.updateFrom
        generalize hPI : pyIter = PI
        wp_walk
        subst hPI
        refine wpAny_pyIter_list hl1 (wpAny_bind (wpAny_runValue ?_))
        have lt : x < s.heap.objs.size := Heap.lt_size hol
        have hne : x ≠ (s.heap.push (newSetO w)).objs.size := by rw [Heap.size_push]; exact Nat.ne_of_lt (Nat.lt_succ_of_lt lt)
        have hDf : s.heap.objs.size ∉ [(s.heap.push (newSetO w)).objs.size, x] := by
          rw [Heap.size_push]
          intro z
          rcases List.mem_cons.mp z with z | z
          · exact absurd (Nat.le_of_eq z.symm) (Nat.not_succ_le_self _)
          · have : s.heap.objs.size = x := by simpa using z
            exact absurd (this ▸ lt) (Nat.lt_irrefl _)
        have kp0 : ∀ b u, s.heap.get? b = some u → ((s.heap.push (newSetO w)).push { cls := .type "list_iterator", data := .fields #[.ref x, .int 0 0] }).get? b = some u := fun b u e => Heap.get?_push_of_some _ (Heap.get?_push_of_some _ e)
        have lenI : its.length = items.size := by rw [← Array.length_toList, hv, List.length_map]
        refine upd_loop (Walks.list (by simp [hh]) _ x hne items) (by show A.units + 1 + 1 + 1 < cLine; omega) s.heap.objs.size hDf its lenI (fun i v e => ?_) (fun q hq z => ?_) U hU hUs (items.size - 0) 0 _ [] rfl (Nat.zero_le _)
          ⟨⟨_, Heap.get?_push_size _ rfl, rfl, rfl⟩, hl1.push _⟩ (fun q hq => (hk q hq).all kp0) ?_ Grown.nil fun h' tk Ms k1 k2 k3 => ?_
        · have e' : (its.map fun q => Value.ref q.2)[i]? = some v := by rw [← hv, Array.getElem?_toList]; exact e
          rw [List.getElem?_map] at e'
          obtain ⟨q, hq, rfl⟩ := Option.map_eq_some_iff.mp e'
          exact ⟨q, hq, rfl⟩
        · obtain ⟨o', _, _, ho', _⟩ := hk q hq
          have l2 := Heap.lt_size ho'
          have z' : q.2 = (s.heap.push (newSetO w)).objs.size := by simpa using z
          rw [z', Heap.size_push] at l2
          exact absurd l2 (Nat.not_lt.mpr (Nat.le_succ _))
        · exact (tset_new (prog := prog) (w := w) s.heap).keep (fun u e => Heap.get?_push_of_some _ e) fun q hq => by simp at hq
        · refine wpAny_pure ?_
          refine wpAny_pure ⟨rfl, h', tk, Ms, rfl, fun b u e => ?_, k2, k3⟩
          have l2 := Heap.lt_size e
          refine k1 b u (Nat.ne_of_lt l2) ?_ (kp0 b u e)
          intro z
          have z' : b = (s.heap.push (newSetO w)).objs.size := by simpa using z
          rw [z', Heap.size_push] at l2
          exact absurd l2 (Nat.not_lt.mpr (Nat.le_succ _))
      · cases r₂ with
        | error e => exact hr₂
        | ok fl₂ =>
          cases fl₂ with
          | ret r =>
            obtain ⟨rfl, h', tk, Ms, rfl, k1, k2, k3⟩ := hr₂
            repeat (any_goals (first | assumption | wp_step))
            exact h h' tk Ms k1 k2 k3
          | _ => exact hr₂.elim
    | _ => exact hr.elim

set_option maxHeartbeats 3200000 in
theorem set_of_tuple {x : Addr} {items : Array Value} {its : List Pr} {U : List (List Int)} {Q : Value → Shared → Prop} (hh : A.handled = none) (hu : A.units + 10 < cLine) (hl : s.heap.IsTuple x items) (hv : items.toList = its.map fun q => Value.ref q.2)
    (hk : ∀ q ∈ its, TK prog w s.heap q.1 q.2) (hU : U.length < 70) (hUs : ∀ q ∈ its, q.1 ∈ U)
    (h : ∀ h' tk Ms, (∀ b u, s.heap.get? b = some u → h'.get? b = some u) → TSet prog w h' s.heap.objs.size Ms → Grown its Ms → Q (.ref s.heap.objs.size) { s with heap := h', toks := tk }) :
    wpAny (model prog w) A (call (.type "set") [.ref x]) Q E s := by
  obtain ⟨c, tl, mro⟩ := F.called_set.mro
  have made := F.called_set.made
  have subs := F.called_set.sub
  refine wpAny_call (codeAny_of_tree ?_); show wpAny _ _ (callAny (.type "set") _) _ _ _
  refine wpAny_pure ⟨Code.quiet_builtin _ (by decide +kernel), codeAny_builtin F.entry_type_call ?_⟩; rw [Around.under_plain (weight_type_call_type "set" [.ref x] []) rfl]
  have n1 := F.called_set.notType
  have n2 := F.called_set.canCreate
  have n3 := F.typeCall_set_1 (.ref x)
  repeat (any_goals (first | assumption | wp_step))
  refine codeAny_mono (set_new (.ref x) (E := E) (Q₁ := fun ob s₁ => ob = .ref s.heap.objs.size ∧ s₁ = { s with heap := s.heap.push (newSetO w) }) ⟨rfl, rfl⟩) fun r s₁ hr => ?_
  cases r with
  | error e => exact hr
  | ok fl =>
    cases fl with
    | ret ob =>
      obtain ⟨rfl, rfl⟩ := hr
      have hS : (s.heap.push (newSetO w)).get? s.heap.objs.size = some (newSetO w) := Heap.get?_push_size _ rfl
      have hT : Shared.TypeIs { s with heap := s.heap.push (newSetO w) } (.ref s.heap.objs.size) "set" := ⟨_, hS, rfl⟩
      have q1 := F.called_set.init.lookup
      have q2 := F.called_set.init.bind (.ref s.heap.objs.size)
      repeat (any_goals (first | assumption | wp_step))
      refine codeAny_mono (codeAny_call_builtin (R := wants (fun r s₂ => r = .none ∧ ∃ h' tk Ms, s₂ = { s with heap := h', toks := tk } ∧ (∀ b u, s.heap.get? b = some u → h'.get? b = some u) ∧ TSet prog w h' s.heap.objs.size Ms ∧ Grown its Ms) E) F.called_set.init.plain F.entry_set_init (check_set_init_1 hT ?_)) fun r₂ s₂ hr₂ => ?_
      · obtain ⟨ol, hol, hcl, nl, hdl⟩ := id hl
        obtain ⟨ocls, odict, odata, oslots⟩ := ol
        simp only at hcl hdl
        subst hcl; subst hdl
        have hol' : (s.heap.push (newSetO w)).get? x = some { cls := .type "tuple", dict := odict, data := .seq items nl, slots := oslots } := Heap.get?_push_of_some _ hol
        have b1 := sub_tuple_set
        have b2 := sub_tuple_frz
        have b3 : (Value.type "tuple" == Value.type "dict") = false := by decide
        have hl1 : (s.heap.push (newSetO w)).IsTuple x items := ⟨_, hol', rfl, nl, rfl⟩
        unfold Builtin.«set.__init__» noKeywords Builtin.Frozenset.updateFrom
        generalize hPI : pyIter = PI
        wp_walk
        subst hPI
        refine wpAny_pyIter_tuple hl1 (wpAny_bind (wpAny_runValue ?_))
        have lt : x < s.heap.objs.size := Heap.lt_size hol
        have hne : x ≠ (s.heap.push (newSetO w)).objs.size := by rw [Heap.size_push]; exact Nat.ne_of_lt (Nat.lt_succ_of_lt lt)
        have hDf : s.heap.objs.size ∉ [(s.heap.push (newSetO w)).objs.size, x] := by
          rw [Heap.size_push]
          intro z
          rcases List.mem_cons.mp z with z | z
          · exact absurd (Nat.le_of_eq z.symm) (Nat.not_succ_le_self _)
          · have : s.heap.objs.size = x := by simpa using z
            exact absurd (this ▸ lt) (Nat.lt_irrefl _)
        have kp0 : ∀ b u, s.heap.get? b = some u → ((s.heap.push (newSetO w)).push { cls := .type "tuple_iterator", data := .fields #[.ref x, .int 0 0] }).get? b = some u := fun b u e => Heap.get?_push_of_some _ (Heap.get?_push_of_some _ e)
        have lenI : its.length = items.size := by rw [← Array.length_toList, hv, List.length_map]
        refine upd_loop (Walks.tuple (by simp [hh]) _ x hne items) (by show A.units + 1 + 1 + 1 < cLine; omega) s.heap.objs.size hDf its lenI (fun i v e => ?_) (fun q hq z => ?_) U hU hUs (items.size - 0) 0 _ [] rfl (Nat.zero_le _)
          ⟨⟨_, Heap.get?_push_size _ rfl, rfl, rfl⟩, hl1.push _⟩ (fun q hq => (hk q hq).all kp0) ?_ Grown.nil fun h' tk Ms k1 k2 k3 => ?_
        · have e' : (its.map fun q => Value.ref q.2)[i]? = some v := by rw [← hv, Array.getElem?_toList]; exact e
          rw [List.getElem?_map] at e'
          obtain ⟨q, hq, rfl⟩ := Option.map_eq_some_iff.mp e'
          exact ⟨q, hq, rfl⟩
        · obtain ⟨o', _, _, ho', _⟩ := hk q hq
          have l2 := Heap.lt_size ho'
          have z' : q.2 = (s.heap.push (newSetO w)).objs.size := by simpa using z
          rw [z', Heap.size_push] at l2
          exact absurd l2 (Nat.not_lt.mpr (Nat.le_succ _))
        · exact (tset_new (prog := prog) (w := w) s.heap).keep (fun u e => Heap.get?_push_of_some _ e) fun q hq => by simp at hq
        · refine wpAny_pure ?_
          refine wpAny_pure ⟨rfl, h', tk, Ms, rfl, fun b u e => ?_, k2, k3⟩
          have l2 := Heap.lt_size e
          refine k1 b u (Nat.ne_of_lt l2) ?_ (kp0 b u e)
          intro z
          have z' : b = (s.heap.push (newSetO w)).objs.size := by simpa using z
          rw [z', Heap.size_push] at l2
          exact absurd l2 (Nat.not_lt.mpr (Nat.le_succ _))
      · cases r₂ with
        | error e => exact hr₂
        | ok fl₂ =>
          cases fl₂ with
          | ret r =>
            obtain ⟨rfl, h', tk, Ms, rfl, k1, k2, k3⟩ := hr₂
            repeat (any_goals (first | assumption | wp_step))
            exact h h' tk Ms k1 k2 k3
          | _ => exact hr₂.elim
    | _ => exact hr.elim
end
end STab

namespace STab
open PySem
/-! ### a walk through a set -/
theorem slot_sit_next : Slot "set_iterator" "__next__" "set_iterator.__next__" := Slot.of (owner := "set_iterator") (n := "__next__") (by rw [typeLookup_type, builtinLookup_eq_fast]; kernel_rfl) (by decide +kernel) (by decide +kernel) (by decide +kernel) (by first | exact .inl (by decide +kernel) | exact .inr (by decide +kernel)) (by rw [isSubtype_type]; kernel_rfl)
theorem entry_sit_next : entryFor table "set_iterator.__next__" = some Builtin.«set_iterator.__next__» := entryFor_of_tree (by kernel_rfl)
theorem args_sit_next (a : Value) : argsOk "set_iterator.__next__" ⟨[a], []⟩ := by unfold argsOk; kernel_rfl
theorem slot_sit_iter : Slot "set_iterator" "__iter__" "set_iterator.__iter__" := Slot.of (owner := "set_iterator") (n := "__iter__") (by rw [typeLookup_type, builtinLookup_eq_fast]; kernel_rfl) (by decide +kernel) (by decide +kernel) (by decide +kernel) (by first | exact .inl (by decide +kernel) | exact .inr (by decide +kernel)) (by rw [isSubtype_type]; kernel_rfl)
theorem entry_set_iter : entryFor table "set.__iter__" = some Builtin.«frozenset.__iter__» := entryFor_alias (id' := "frozenset.__iter__") (by kernel_rfl) rfl (by decide +kernel) (by kernel_rfl)
section
variable {prog : Program} {w : World} {A : Around} {E : Value → Shared → Prop} {s : Shared}
/-- the elements in the order of a walk -/
def walkL (w : World) (D : Addr) (ep : Nat) (es : List (Int × Value)) : List Value := if w.params.followText "set-order" = true then ((pickOrder (w.params.setOrder D ep) es.toArray).toList).map (·.2) else es.map (·.2)
theorem walkL_perm (w : World) (D : Addr) (ep : Nat) (es : List (Int × Value)) : (walkL w D ep es).Perm (es.map (·.2)) := by
  unfold walkL
  split
  · exact (pick_perm _ _).map _
  · exact List.Perm.refl _
def slotAt (w : World) (L : List En) (i : Nat) : Nat := if w.params.followText "set-order" = true then 0 else match i with
  | 0 => 0
  | i + 1 => ((L.map (·.1)).getD i 0) + 1
abbrev sitO (D : Addr) (slot i n ep : Nat) : Obj := { cls := .type "set_iterator", data := .fields #[.int (slot : Nat) 0, .int (i : Nat) 0, .ref D, .int (n : Nat) 0, .int (ep : Nat) 0] }
theorem bt_wp {Q : Bool → Shared → Prop} (h : Q (w.params.followText "set-order") s) : wpAny (model prog w) A setsByText Q E s := by
  unfold setsByText
  exact wpAny_bind (wpAny_askSetting (wpAny_pure h))
theorem next_wp {D : Addr} {L : List En} {t : SetTable} {o : Obj} {ep : Nat} {Ms : List Pr} (R : Raw prog w s.heap D L t o ep Ms) (i : Nat) (hi : i ≤ L.length) {Q : Option (Value × Nat) → Shared → Prop}
    (h : Q ((walkL w D ep (L.map (·.2)))[i]?.map fun v => (v, slotAt w L (i + 1))) s) : wpAny (model prog w) A (setNext D (slotAt w L i) i ep) Q E s := by
  unfold setNext
  refine wpAny_bind (wpAny_setState_of R.at' R.data R.fits ?_)
  dsimp only
  refine wpAny_bind (bt_wp ?_)
  by_cases bt : w.params.followText "set-order" = true
  · rw [if_pos bt, if_neg (by simp)]
    refine wpAny_bind ?_
    unfold setWalk
    refine wpAny_bind (wpAny_setState_of R.at' R.data R.fits ?_)
    dsimp only
    refine wpAny_bind (bt_wp ?_)
    rw [if_pos bt]
    refine wpAny_bind (wpAny_askSetting (wpAny_pure (wpAny_pure ?_)))
    unfold walkL slotAt at h
    rw [if_pos bt, if_pos bt] at h
    unfold slotAt
    rw [if_pos bt]
    have e : (((pickOrder (w.params.setOrder D ep) (L.map (·.2)).toArray).toList).map (·.2))[i]?.map (fun v => (v, 0)) = ((pickOrder (w.params.setOrder D ep) (L.map (·.2)).toArray)[i]?).map fun e => (e.2, 0) := by
      rw [List.getElem?_map, Array.getElem?_toList, Option.map_map]; rfl
    rw [e] at h
    exact h
  · rw [if_neg bt]
    have dr : (!t.plain && decide ((L.map (·.2)).toArray.size > 1)) = false := by rw [R.plain]; rfl
    have ld : t.led = true := by rw [R.led]; simpa using bt
    show wpAny (model prog w) A (if (!t.plain && decide ((L.map (·.2)).toArray.size > 1)) = true then unsupported "set_iterator.__next__:the-table-is-plain-no-more" else _) Q E s
    rw [dr, if_neg (by simp)]
    refine wpAny_bind ?_
    show wpAny (model prog w) A (if (!t.led && !(L.map (·.2)).toArray.isEmpty) = true then unsupported "set:maker-not-led" else pure ()) _ E s
    rw [ld, if_neg (by simp)]
    refine wpAny_pure ?_
    have eb : SetTable.below t.place (slotAt w L i) = i := by
      rw [R.tok.place]
      unfold slotAt
      rw [if_neg bt]
      cases i with
      | zero => exact below_zero R.tok.rise
      | succ i =>
        have hi' : i < (L.map (·.1)).length := by rw [List.length_map]; omega
        dsimp only
        rw [List.getD_eq_getElem?_getD, List.getElem?_eq_getElem hi']
        exact below_next R.tok.rise (List.getElem?_eq_getElem hi')
    have hw : walkL w D ep (L.map (·.2)) = (L.map (·.2)).map (·.2) := by unfold walkL; rw [if_neg bt]
    rw [hw] at h
    rw [eb]
    refine wpAny_pure ?_
    rw [R.tok.place, List.getElem?_toArray, List.getElem?_toArray, List.getElem?_map, List.getElem?_map]
    rw [List.getElem?_map, List.getElem?_map] at h
    cases e : L[i]? with
    | none => rw [e] at h; exact h
    | some x =>
      rw [e] at h
      have es : slotAt w L (i + 1) = x.1 + 1 := by
        unfold slotAt
        rw [if_neg bt]
        dsimp only
        rw [List.getD_eq_getElem?_getD, List.getElem?_map, e]; rfl
      rw [es] at h
      exact h
/-- the iterator's turn -/
theorem sit_item {D I : Addr} {L : List En} {t : SetTable} {o : Obj} {ep : Nat} {Ms : List Pr} {i : Nat} {v : Value} (R : Raw prog w s.heap D L t o ep Ms) (hI : s.heap.get? I = some (sitO D (slotAt w L i) i L.length ep)) (hi : (walkL w D ep (L.map (·.2)))[i]? = some v)
    {Q : Option Value → Shared → Prop} (h : ∀ h', h'.get? I = some (sitO D (slotAt w L (i + 1)) (i + 1) L.length ep) → (∀ b u, b ≠ I → s.heap.get? b = some u → h'.get? b = some u) → Q (some v) { s with heap := h' }) :
    wpAny (model prog w) A (pyNext (.ref I)) Q E s := by
  have hlt : i < L.length := by
    have := (List.getElem?_eq_some_iff.mp hi).1
    rw [(walkL_perm w D ep (L.map (·.2))).length_eq] at this
    simpa using this
  have ty : s.TypeIs (.ref I) "set_iterator" := ⟨_, hI, rfl⟩
  unfold pyNext
  refine wpAny_bind (wpAny_attempt (wpAny_callSpecial?_slot (name := Str.ofString "__next__") ty slot_sit_next (wpAny_call_entry slot_sit_next ty entry_sit_next ?_ (args_sit_next _))))
  refine wpAny_bind (m := fieldsOf (.ref I)) (wpAny_fieldsOf hI rfl ?_)
  dsimp only
  refine wpAny_bind (wpAny_setEntries_of R.at' R.data R.fits ?_)
  rw [if_neg (by simp)]
  refine wpAny_bind (m := setNext D (slotAt w L i : Int).toNat (i : Int).toNat (ep : Int).toNat) ?_
  rw [Int.toNat_natCast, Int.toNat_natCast, Int.toNat_natCast]
  refine next_wp R i (by omega) ?_
  rw [hi]
  dsimp only [Option.map]
  refine wpAny_bind (wpAny_setField_rec hI (by simp) fun h1 g1 s1 => ?_)
  refine wpAny_bind (wpAny_setField_rec (s := { s with heap := h1 }) g1 (by simp) fun h2 g2 s2 => ?_)
  refine wpAny_pure ⟨v, rfl, wpAny_pure (h h2 ?_ fun b u hb e => ?_)⟩
  · rw [g2]; rfl
  · rw [s2.2 b hb, s1.2 b hb]; exact e
theorem sit_end {D I : Addr} {L : List En} {t : SetTable} {o : Obj} {ep : Nat} {Ms : List Pr} {i : Nat} (hh : A.handled = none) (R : Raw prog w s.heap D L t o ep Ms) (hI : s.heap.get? I = some (sitO D (slotAt w L i) i L.length ep)) (hi : i = L.length)
    {Q : Option Value → Shared → Prop} (h : ∀ h', (∀ b u, b ≠ I → s.heap.get? b = some u → h'.get? b = some u) → Q none { s with heap := h' }) :
    wpAny (model prog w) A (pyNext (.ref I)) Q E s := by
  have ty : s.TypeIs (.ref I) "set_iterator" := ⟨_, hI, rfl⟩
  unfold pyNext
  refine wpAny_bind (wpAny_attempt (wpAny_callSpecial?_slot (name := Str.ofString "__next__") ty slot_sit_next (wpAny_call_entry slot_sit_next ty entry_sit_next ?_ (args_sit_next _))))
  refine wpAny_bind (m := fieldsOf (.ref I)) (wpAny_fieldsOf hI rfl ?_)
  dsimp only
  refine wpAny_bind (wpAny_setEntries_of R.at' R.data R.fits ?_)
  rw [if_neg (by simp)]
  refine wpAny_bind (m := setNext D (slotAt w L i : Int).toNat (i : Int).toNat (ep : Int).toNat) ?_
  rw [Int.toNat_natCast, Int.toNat_natCast, Int.toNat_natCast]
  refine next_wp R i (by omega) ?_
  have en : (walkL w D ep (L.map (·.2)))[i]? = none := by
    rw [List.getElem?_eq_none]
    rw [(walkL_perm w D ep (L.map (·.2))).length_eq]
    simp [hi]
  rw [en]
  dsimp only [Option.map]
  refine wpAny_bind (wpAny_setField_rec hI (by simp) fun h1 g1 s1 => ?_)
  refine wpAny_bind (m := newExc (.type "StopIteration") []) ?_
  simp only [newExc, newTuple]
  refine wpAny_bind (wpAny_newObj_type ?_ (by size_fits))
  refine wpAny_bind (m := firstArgMember _ _) (wpAny_of_eq (a := Value.none) (by first | rfl | (simp only [firstArgMember]; rfl)) (wpAny_newObj_type ?_ (by size_fits)))
  simp only [raiseNew]
  refine wpAny_bind (wpAny_handled ?_); rw [show A.in1.handled = none from hh]
  refine wpAny_bind (wpAny_pure (wpAny_throw ?_))
  refine wpAny_bind (wpAny_isInstance (U := "StopIteration") (T := "StopIteration") (b := true) ⟨_, Heap.get?_push_size _ rfl, rfl⟩ isSubtype_stop ?_)
  refine wpAny_pure (h _ fun b u hb e => Heap.get?_push_of_some _ (Heap.get?_push_of_some _ ?_))
  rw [s1.2 b hb]; exact e
theorem iter_set {D : Addr} {L : List En} {t : SetTable} {o : Obj} {ep : Nat} {Ms : List Pr} (R : Raw prog w s.heap D L t o ep Ms) {Q : Value → Shared → Prop}
    (h : Q (.ref s.heap.objs.size) { s with heap := s.heap.push (sitO D (slotAt w L 0) 0 L.length ep) }) : wpAny (model prog w) A (pyIter (.ref D)) Q E s := by
  have ty : s.TypeIs (.ref D) "set" := ⟨o, R.at', R.ex.1⟩
  have e0 : slotAt w L 0 = 0 := by unfold slotAt; split <;> rfl
  rw [e0] at h
  refine wpAny_pyIter_slot ty F.slot_set_iter (wpAny_call_entry F.slot_set_iter ty entry_set_iter ?_ (F.args_set_iter_1 _))
  refine wpAny_bind (m := Builtin.Frozenset.sizeOf D) ?_
  unfold Builtin.Frozenset.sizeOf
  refine wpAny_bind (wpAny_setEntries_of R.at' R.data R.fits (wpAny_pure ?_))
  refine wpAny_bind (m := setDrawn D) ?_
  unfold setDrawn
  refine wpAny_bind (wpAny_setState_of R.at' R.data R.fits ?_)
  dsimp only
  refine wpAny_bind (bt_wp (wpAny_pure ?_))
  have dr : (!w.params.followText "set-order" && (!t.plain && decide ((L.map (·.2)).toArray.size > 1))) = false := by rw [R.plain]; simp
  show wpAny (model prog w) _ (if (!w.params.followText "set-order" && (!t.plain && decide ((L.map (·.2)).toArray.size > 1))) = true then _ else _) _ _ _
  rw [dr, if_neg (by simp)]
  refine wpAny_bind (wpAny_pure ?_)
  refine wpAny_bind (wpAny_setEpoch_of R.at' R.data R.fits ?_)
  refine wpAny_bind (m := newFields "set_iterator" _) (wpAny_newObj_type ?_)
  refine wpAny_pure ⟨_, rfl, "set_iterator", _, ⟨_, Heap.get?_push_size _ rfl, rfl⟩, slot_sit_next.lookup, ?_⟩
  simp only [List.size_toArray, List.length_map]
  exact h
end
end STab

namespace STab
open PySem
theorem entry_sit_iter : entryFor table "set_iterator.__iter__" = some Builtin.«dict_keyiterator.__iter__» := entryFor_alias (id' := "dict_keyiterator.__iter__") (by kernel_rfl) rfl (by decide +kernel) (by kernel_rfl)
theorem args_sit_iter (a : Value) : argsOk "set_iterator.__iter__" ⟨[a], []⟩ := by unfold argsOk; kernel_rfl
section
variable {prog : Program} {w : World} {A : Around} {E : Value → Shared → Prop} {s : Shared}
theorem Raw.keep {h h' : Heap} {D : Addr} {L : List En} {t : SetTable} {o : Obj} {ep : Nat} {Ms : List Pr} (R : Raw prog w h D L t o ep Ms) (hD : ∀ u, h.get? D = some u → h'.get? D = some u) (hk : ∀ q ∈ Ms, ∀ u, h.get? q.2 = some u → h'.get? q.2 = some u) : Raw prog w h' D L t o ep Ms := by
  refine ⟨hD _ R.at', R.ex, R.data, R.tok, R.plain, R.led, R.fit, R.mem, fun q hq => ?_, R.nd⟩
  obtain ⟨o', items, m, ho', hc, hd', hi'⟩ := R.keys q hq
  exact ⟨o', items, m, hk q hq _ ho', hc, hd', hi'⟩
theorem Raw.ne {h : Heap} {D I : Addr} {L : List En} {t : SetTable} {o : Obj} {ep : Nat} {Ms : List Pr} {ob : Obj} (R : Raw prog w h D L t o ep Ms) (hI : h.get? I = some ob) (hf : ∃ fs, ob.data = .fields fs) : D ≠ I ∧ ∀ q ∈ Ms, q.2 ≠ I := by
  obtain ⟨fs, hf⟩ := hf
  constructor
  · rintro rfl
    have := R.at'
    rw [hI] at this
    cases this
    rw [R.data] at hf; cases hf
  · rintro q hq rfl
    obtain ⟨o', items, m, ho', hc, hd', hi'⟩ := R.keys q hq
    rw [hI] at ho'
    cases ho'
    rw [hf] at hd'; cases hd'
theorem walks_set (hh : A.handled = none) (I D : Addr) (L : List En) (t : SetTable) (o : Obj) (ep : Nat) (Ms : List Pr) :
    Walks prog w A I (I :: D :: Ms.map (·.2)) [I] L.length (fun i v => (walkL w D ep (L.map (·.2)))[i]? = some v) (fun i h => h.get? I = some (sitO D (slotAt w L i) i L.length ep) ∧ Raw prog w h D L t o ep Ms) where
  sub := fun b hb => by rw [List.mem_singleton.mp hb]; exact List.mem_cons_self
  frame := fun i h h' st hk => ⟨hk I List.mem_cons_self _ st.1, st.2.keep (fun u e => hk D (by simp) u e) fun q hq u e => hk q.2 (List.mem_cons_of_mem _ (List.mem_cons_of_mem _ (List.mem_map.mpr ⟨q, hq, rfl⟩))) u e⟩
  item := fun i s Q E hi st hQ => by
    obtain ⟨d1, d2⟩ := st.2.ne st.1 ⟨_, rfl⟩
    have hlen : (walkL w D ep (L.map (·.2))).length = L.length := by rw [(walkL_perm w D ep (L.map (·.2))).length_eq]; simp
    have hv := List.getElem?_eq_getElem (show i < (walkL w D ep (L.map (·.2))).length by omega)
    refine sit_item st.2 st.1 hv fun h' g k => ?_
    exact hQ _ h' s.toks hv ⟨g, st.2.keep (fun u e => k D u d1 e) fun q hq u e => k q.2 u (d2 q hq) e⟩ fun b u hb e => k b u (fun z => hb (by simp [z])) e
  done := fun s Q E st hQ => sit_end hh st.2 st.1 rfl fun h' k => hQ h' s.toks fun b u hb e => k b u (fun z => hb (by simp [z])) e
  self := fun i s Q E st hQ => by
    have ty : s.TypeIs (.ref I) "set_iterator" := ⟨_, st.1, rfl⟩
    refine wpAny_pyIter_slot ty slot_sit_iter (wpAny_call_entry slot_sit_iter ty entry_sit_iter ?_ (args_sit_iter _))
    exact wpAny_pure ⟨_, rfl, "set_iterator", _, ty, slot_sit_next.lookup, hQ⟩
theorem hint_set {D : Addr} {ob : Obj} (hD : s.heap.get? D = some ob) (hc : ob.cls = .type "set") {Q : Bool → Shared → Prop} (h : Q false s) : wpAny (model prog w) A (Builtin.List.listLengthHint (.ref D)) Q E s := by
  have ty : s.TypeIs (.ref D) "set" := ⟨ob, hD, hc⟩
  unfold Builtin.List.listLengthHint
  refine wpAny_bind (wpAny_specialOf ty F.slot_set_len.lookup ?_)
  dsimp only
  rw [show splitId "set.__len__" = some ("set", "__len__") by kernel_rfl]
  dsimp only
  refine wpAny_bind (wpAny_isInstance ty sub_set_self ?_)
  rw [if_neg (by simp)]
  refine wpAny_bind (wpAny_typeOf ty ?_)
  exact wpAny_pure h
theorem collect_set {D : Addr} {Ms : List Pr} (hh : A.handled = none) (T : TSet prog w s.heap D Ms) (few : Ms.length ≤ 1000) {Q : List Value → Shared → Prop}
    (h : ∀ h' tk vs, (∀ b u, s.heap.get? b = some u → h'.get? b = some u) → vs.Perm (Ms.map fun q => Value.ref q.2) → Q vs { s with heap := h', toks := tk }) : wpAny (model prog w) A (collect (.ref D)) Q E s := by
  obtain ⟨L, t, o, ep, R⟩ := T
  have hlen : L.length = Ms.length := by have := R.mem.length_eq; simpa using this
  unfold collect
  refine wpAny_bind (wpAny_runValue (codeAny_builtin F.entry_proto_collect ?_)); rw [Around.under_plainId F.plain_proto_collect]
  refine wpAny_bind (m := newList []) (wpAny_newObj_type ?_)
  refine wpAny_pure ⟨plainId_quiet F.plain_list_iadd _, codeAny_builtin F.entry_list_iadd ?_⟩; rw [Around.under_plainId F.plain_list_iadd]
  have kp1 : ∀ b u, s.heap.get? b = some u → (s.heap.push { cls := .type "list", data := .seq ([] : List Value).toArray }).get? b = some u := fun b u e => Heap.get?_push_of_some _ e
  generalize hl : s.heap.push { cls := .type "list", data := .seq ([] : List Value).toArray } = h1 at kp1
  have hS1 : h1.get? s.heap.objs.size = some { cls := .type "list", data := .seq ([] : List Value).toArray } := by rw [← hl]; exact Heap.get?_push_size _ rfl
  have sz1 : h1.objs.size = s.heap.objs.size + 1 := by rw [← hl, Heap.size_push]
  have R1 : Raw prog w h1 D L t o ep Ms := R.keep (fun u e => kp1 D u e) fun q _ u e => kp1 q.2 u e
  have dlt : D < s.heap.objs.size := Heap.lt_size R.at'
  show wpAny _ A.in1 (Builtin.List.listExtendWith (.ref s.heap.objs.size) (.ref D) (.ref s.heap.objs.size)) _ _ { s with heap := h1 }
  unfold Builtin.List.listExtendWith
  refine wpAny_bind (wpAny_typeOf (T := "set") ⟨o, R1.at', R1.ex.1⟩ ?_)
  have c1 : Builtin.List.listSameRef (.ref s.heap.objs.size) (.ref D) = false := by
    show (s.heap.objs.size == D) = false
    exact beq_false_of_ne (Nat.ne_of_gt dlt)
  rw [if_neg (by rw [c1]; decide)]
  refine wpAny_bind (iter_set (s := { s with heap := h1 }) R1 ?_)
  refine wpAny_bind (wpAny_holding (hint_set (ob := o) (Heap.get?_push_of_some _ R1.at') R1.ex.1 ?_))
  rw [if_pos (by decide +kernel)]
  refine wpAny_bind (wpAny_rule ?_)
  have hS2 : (h1.push (sitO D (slotAt w L 0) 0 L.length ep)).get? s.heap.objs.size = some { cls := .type "list", data := .seq ([] : List Value).toArray } := Heap.get?_push_of_some _ hS1
  refine wpAny_bind (m := Builtin.List.listTouch (.ref s.heap.objs.size)) ?_
  show wpAny _ A.in1 (updateSeq s.heap.objs.size (·.push .none) >>= fun _ => updateSeq s.heap.objs.size (·.pop)) _ _ _
  refine wpAny_bind (wpAny_updateSeq hS2 rfl ?_)
  have hS3 := Heap.get?_update_self (Obj.mapSeq (·.push Value.none)) hS2 rfl
  refine wpAny_updateSeq hS3 rfl ?_
  have hS4 := Heap.get?_update_self (Obj.mapSeq (·.pop)) hS3 rfl
  have oth : ∀ b u, b ≠ s.heap.objs.size → (h1.push (sitO D (slotAt w L 0) 0 L.length ep)).get? b = some u → (((h1.push (sitO D (slotAt w L 0) 0 L.length ep)).update s.heap.objs.size (Obj.mapSeq (·.push Value.none))).update s.heap.objs.size (Obj.mapSeq (·.pop))).get? b = some u :=
    fun b u hb e => (Heap.get?_update_other _ _ (Ne.symm hb)).trans ((Heap.get?_update_other _ _ (Ne.symm hb)).trans e)
  have hk : ∀ q ∈ Ms, q.2 < s.heap.objs.size := fun q hq => by
    obtain ⟨o', _, _, ho', _⟩ := R.keys q hq
    exact Heap.lt_size ho'
  have R2 := R1.keep (h' := ((h1.push (sitO D (slotAt w L 0) 0 L.length ep)).update s.heap.objs.size (Obj.mapSeq (·.push Value.none))).update s.heap.objs.size (Obj.mapSeq (·.pop))) (fun u e => oth D u (Nat.ne_of_lt dlt) (Heap.get?_push_of_some _ e)) fun q hq u e => oth q.2 u (Nat.ne_of_lt (hk q hq)) (Heap.get?_push_of_some _ e)
  have iI : h1.objs.size ≠ s.heap.objs.size := by rw [sz1]; exact Nat.succ_ne_self _
  have hSf : s.heap.objs.size ∉ h1.objs.size :: D :: Ms.map (·.2) := by
    intro z
    rcases List.mem_cons.mp z with z | z
    · exact iI z.symm
    · rcases List.mem_cons.mp z with z | z
      · exact absurd (z ▸ dlt) (Nat.lt_irrefl _)
      · obtain ⟨q, hq, e⟩ := List.mem_map.mp z
        exact absurd (e ▸ hk q hq) (Nat.lt_irrefl _)
  refine wpAny_pure ⟨plainId_quiet F.plain_extend_loop _, codeAny_extend_loopS (walks_set (prog := prog) (w := w) (by simp [hh]) h1.objs.size D L t o ep Ms).toS (by rw [hlen]; exact size_small few) _ hSf _ L.length 0 _ _ _ rfl (Nat.zero_le _)
    ⟨oth _ _ iI (Heap.get?_push_size _ rfl), R2⟩ hS4 (ItemsOf.nil _) fun s' acc c' hm hS' hacc => ?_⟩
  refine wpAny_bind (m := load s.heap.objs.size) (wpAny_load hS' ?_)
  refine wpAny_pure ?_
  obtain ⟨h', g', d', tk', os'⟩ := s'
  have eg : g' = s.gens := hm.gens
  have ed : d' = s.drawn := hm.drawn
  have eo : os' = s.os := hm.os
  subst eg; subst ed; subst eo
  refine h h' tk' acc.toList (fun b u e => ?_) ?_
  · have lt := Heap.lt_size e
    refine hm.heap b u (fun z => ?_) (oth b u (Nat.ne_of_lt lt) (Heap.get?_push_of_some _ (kp1 b u e)))
    rcases List.mem_cons.mp z with z | z
    · exact absurd (z ▸ lt) (Nat.lt_irrefl _)
    · have : b = h1.objs.size := by simpa using z
      rw [this, sz1] at lt
      exact absurd lt (Nat.not_lt.mpr (Nat.le_succ _))
  · have hlw : (walkL w D ep (L.map (·.2))).length = L.length := by rw [(walkL_perm w D ep (L.map (·.2))).length_eq]; simp
    have ea : acc.toList = walkL w D ep (L.map (·.2)) := by
      apply List.ext_getElem?
      intro i
      rw [Array.getElem?_toList]
      by_cases c : i < acc.size
      · have e := Array.getElem?_eq_getElem c
        rw [e]
        exact (hacc.2 i _ e).symm
      · rw [Array.getElem?_eq_none (Nat.le_of_not_lt c), List.getElem?_eq_none (by rw [hlw, ← hacc.1]; exact Nat.le_of_not_lt c)]
    rw [ea]
    refine (walkL_perm w D ep (L.map (·.2))).trans ?_
    have := R.mem.map Prod.snd
    rw [List.map_map (f := fun q : Pr => (tkh prog w q.1, Value.ref q.2))] at this
    exact this
end
end STab

namespace STab
open PySem PySem.W PyProof.Rows
/-! ### sorted: tuples of ints, unlike -/
def lexB : List Int → List Int → Bool
  | [], _ => false
  | _, [] => false
  | x :: xs, y :: ys => if x = y then lexB xs ys else decide (x < y)
section
variable {prog : Program} {w : World} {A : Around} {E : Value → Shared → Prop} {s : Shared}
theorem one_lt {b : Bool} {x y : Int} {t u : Tok} {Q : Bool → Shared → Prop} (h : Q (decide (x < y)) s) : wpAny (model prog w) A (oneLt' b (.int x t) (.int y u)) Q E s := by
  cases b with
  | true => exact oneLt_int h
  | false => exact kat_one _ _ (lt_int h)
theorem lex_wp {b : Bool} {Q : Bool → Shared → Prop} : ∀ {xs ys : List Int} {us vs : List Value} {i : Nat}, ItemsAre (intKind prog w) xs us → ItemsAre (intKind prog w) ys vs → xs.length = ys.length → Q (lexB xs ys) s → KatLex prog w A b false Q (us.zip vs) i s
  | _, _, _, _, _, .nil, .nil, _, h => h
  | _, _, _, _, _, .nil, .cons _ _, hl, _ => by simp at hl
  | _, _, _, _, _, .cons _ _, .nil, hl, _ => by simp at hl
  | x :: xs, y :: ys, _, _, i, .cons h1 r1, .cons h2 r2, hl, h => by
    obtain ⟨t, rfl⟩ := Value.isInt_shape h1
    obtain ⟨u, rfl⟩ := Value.isInt_shape h2
    refine kat_cons (wpAny_eqBool_int ?_)
    by_cases c : x = y
    · have e : lexB (x :: xs) (y :: ys) = lexB xs ys := by simp [lexB, c]
      rw [e] at h
      first
        | rw [decide_eq_true c]
        | rw [show (x == y) = true by simpa using c]
      exact kat_yes (lex_wp r1 r2 (by simpa using hl) h)
    · have e : lexB (x :: xs) (y :: ys) = decide (x < y) := by simp [lexB, c]
      rw [e] at h
      first
        | rw [decide_eq_false c]
        | rw [show (x == y) = false by simpa using c]
      exact kat_no (one_lt h)
theorem lt_tup {b : Bool} {ks js : List Int} {x y : Addr} {Q : Bool → Shared → Prop} (hx : TK prog w s.heap ks x) (hy : TK prog w s.heap js y) (hl : ks.length = js.length) (h : Q (lexB ks js) s) : wpAny (model prog w) A (keyLt' (tuples' b) (.ref x) (.ref y)) Q E s := by
  obtain ⟨o, us, n, ho, _, hd, hi⟩ := hx
  obtain ⟨o', vs, n', ho', _, hd', hi'⟩ := hy
  refine kat_lt ho hd ho' hd' ?_
  have e1 := hi.length
  have e2 := hi'.length
  simp only [Array.length_toList] at e1 e2
  rw [decide_eq_false (by omega)]
  exact lex_wp hi hi' hl h
/-- a rank that tells the order -/
structure Rank (its : List Pr) (rk : List Int → Int) : Prop where
  len : ∀ q ∈ its, ∀ p ∈ its, q.1.length = p.1.length
  pos : ∀ q ∈ its, q.1 ≠ []
  lt : ∀ q ∈ its, ∀ p ∈ its, lexB q.1 p.1 = decide (rk q.1 < rk p.1)
  inj : ∀ q ∈ its, ∀ p ∈ its, rk q.1 = rk p.1 → q.1 = p.1
theorem kind_tup {its : List Pr} {Q : SortKind → Shared → Prop} (hk : ∀ q ∈ its, TK prog w s.heap q.1 q.2) (hp : ∀ q ∈ its, q.1 ≠ []) (hne : its ≠ []) (h : ∀ b, Q (tuples' b) s) :
    wpAny (model prog w) A (keyKind' (its.map fun q => Value.ref q.2).toArray) Q E s := by
  have key : ∀ l : List Pr, (∀ q ∈ l, TK prog w s.heap q.1 q.2) → (∀ q ∈ l, q.1 ≠ []) → ∃ fs : List Value, fs.length = l.length ∧ KatTups s.heap (l.map fun q => Value.ref q.2) fs ∧ ∀ v ∈ fs, ∃ k t, v = Value.int k t := by
    intro l
    induction l with
    | nil => intro _ _; exact ⟨[], rfl, KatTups.nil, fun _ h => nomatch h⟩
    | cons q l ih =>
      intro h1 h2
      obtain ⟨fs, e1, e2, e3⟩ := ih (fun x hx => h1 x (List.mem_cons_of_mem _ hx)) fun x hx => h2 x (List.mem_cons_of_mem _ hx)
      obtain ⟨o, us, n, ho, hc, hd, hi⟩ := h1 q List.mem_cons_self
      have hq := h2 q List.mem_cons_self
      obtain ⟨k, ks, ek⟩ : ∃ k ks, q.1 = k :: ks := by
        cases h : q.1 with
        | nil => exact absurd h hq
        | cons k ks => exact ⟨k, ks, rfl⟩
      rw [ek] at hi
      cases hu : us.toList with
      | nil => rw [hu] at hi; cases hi
      | cons v vs =>
        rw [hu] at hi
        cases hi with
        | cons g1 g2 =>
          obtain ⟨t, rfl⟩ := Value.isInt_shape g1
          have h0 : us[0]? = some (.int k t) := by rw [← Array.getElem?_toList, hu]; rfl
          refine ⟨.int k t :: fs, by simp [e1], KatTups.cons ho hc hd h0 e2, fun v hv => ?_⟩
          rcases List.mem_cons.mp hv with rfl | hv
          · exact ⟨k, t, rfl⟩
          · exact e3 v hv
  obtain ⟨fs, e1, e2, e3⟩ := key its hk hp
  refine kat_kind (T := .type "int") e2 (by rw [e1]; exact List.length_pos_iff.mpr hne) (fun v hv => ?_) (by decide) (h _)
  obtain ⟨k, t, rfl⟩ := e3 v hv
  exact Looks.now
theorem sort_tree {a : Addr} {its : List Pr} {rk : List Int → Int} {n : Nat} {P : PySem.Fin → Shared → Prop} (ho : s.heap.get? a = some (seqObj "list" (its.map fun q => Value.ref q.2).toArray n)) (hk : ∀ q ∈ its, TK prog w s.heap q.1 q.2) (hr : Rank its rk) (nd : (its.map (·.1)).Nodup) (h64 : its.length < 64)
    (h : ∀ out : List Pr, out.Perm its → (out.Pairwise fun p q => rk p.1 < rk q.1) → ∀ tk, P (.done (.ret .none)) { s with heap := sortedHeap s.heap a (its.map fun q => Value.ref q.2) (out.map fun q => Value.ref q.2).toArray, toks := tk }) :
    wpAny (model prog w) A (Builtin.«list.sort» ⟨[.ref a], []⟩) P E s := by
  have lt : a < s.heap.objs.size := Heap.lt_size ho
  have ndi : its.Nodup := List.Pairwise.imp (fun h z => h (by rw [z])) (List.pairwise_map.mp nd)
  obtain ⟨e1, ho1⟩ : ∃ e1, (s.heap.update a (Obj.mapSeq fun _ => (#[] : Array Value))).get? a = some (seqObj "list" #[] e1) := ⟨_, get?_update_seq ho fun _ => #[]⟩
  rw [list_sort_plain]
  refine wpAny_bind (listItems_at ho rfl (wpAny_bind (listUpdate_at ho rfl ?_ (by simp only [List.size_toArray, List.length_map]; exact size_small (by omega)) (Nat.zero_le _))))
  refine wpAny_bind (seqEpoch_at ho1 rfl (wpAny_bind (wpAny_newTuple ?_ (by simp only [List.length_map]; exact size_small (by omega)))))
  refine wpAny_bind (wpAny_newList (wpAny_holding ?_) (Nat.zero_le _))
  generalize hH : ((s.heap.update a (Obj.mapSeq fun _ => (#[] : Array Value))).push (seqObj "tuple" (its.map fun q => Value.ref q.2).toArray 0)).push (seqObj "list" #[] 0) = H6
  have oth : ∀ b u, b ≠ a → s.heap.get? b = some u → H6.get? b = some u := fun b u hb e => by
    rw [← hH]
    exact Heap.get?_push_of_some _ (Heap.get?_push_of_some _ ((Heap.get?_update_other _ _ (Ne.symm hb)).trans e))
  have ho6 : H6.get? a = some (seqObj "list" #[] e1) := by rw [← hH]; exact Heap.get?_push_of_some _ (Heap.get?_push_of_some _ ho1)
  have hk6 : ∀ q ∈ its, TK prog w H6 q.1 q.2 := fun q hq => by
    obtain ⟨o', us, m, ho', hc, hd, hi⟩ := hk q hq
    refine ⟨o', us, m, oth _ _ (fun z => ?_) ho', hc, hd, hi⟩
    rw [z, ho] at ho'; cases ho'; exact absurd hc (by intro z'; injection z' with z'; exact absurd z' (by decide))
  have hsort : ∀ out, sortedHeap s.heap a (its.map fun q => Value.ref q.2) out = H6.update a (Obj.mapSeq fun _ => out) := fun out => by rw [← hH]; rfl
  have fin : ∀ (out : List Pr) (tk : Nat) (st : SortSt), out.Perm its → (out.Pairwise fun p q => rk p.1 < rk q.1) → (arrOf st).map (·.2) = (out.map fun q => Value.ref q.2).toArray → failedOf st = none →
      wpAny (model prog w) A (do
        let touched := (← seqEpoch a) != e1
        Builtin.List.listUpdate (.ref a) fun _ => (arrOf st).map (·.2)
        if let some e := failedOf st then rule "list.sort.comparison-raised"; throw e
        if touched then rule "list.sort.modified"; raiseError "ValueError" "list modified during sort"
        ret .none) P E { s with heap := H6, toks := tk } := fun out tk st p1 p2 p3 p4 => by
    rw [p3, p4]
    refine wpAny_bind (seqEpoch_at (s := { s with heap := H6, toks := tk }) ho6 rfl ?_)
    refine wpAny_bind (listUpdate_at (s := { s with heap := H6, toks := tk }) ho6 rfl ?_ (Nat.zero_le _) (by simp only [List.size_toArray, List.length_map]; rw [p1.length_eq]; exact Nat.le_succ_of_le (size_small (by omega))))
    dsimp only
    rw [if_neg (by simp)]
    refine wpAny_pure ?_
    have := h out p1 p2 tk
    rw [hsort] at this
    exact this
  show wpAny (model prog w) A _ P E { s with heap := H6 }
  dsimp only
  by_cases c2 : (its.map fun q => Value.ref q.2).toArray.size < 2
  · rw [if_pos c2, if_pos c2]
    refine wpAny_bind (wpAny_pure ?_)
    rw [StateT.run_pure]
    refine wpAny_bind (wpAny_pure ?_)
    refine fin its s.toks _ (List.Perm.refl _) ?_ ?_ rfl
    · have : its.length ≤ 1 := by simp only [List.size_toArray, List.length_map] at c2; omega
      match its, this with
      | [], _ => exact List.Pairwise.nil
      | [x], _ => exact List.pairwise_singleton _ _
    · apply Array.toList_inj.mp
      show (((its.map fun q => Value.ref q.2).toArray.zip (its.map fun q => Value.ref q.2).toArray).map (·.2)).toList = _
      rw [Array.toList_map, Array.toList_zip]
      exact List.map_snd_zip (Nat.le_refl _)
  · rw [if_neg c2, if_neg c2]
    have c3 : 2 ≤ its.length := by simp only [List.size_toArray, List.length_map] at c2; omega
    refine wpAny_bind (kind_tup (s := { s with heap := H6 }) hk6 hr.pos (by intro z; rw [z] at c3; simp at c3) fun b => ?_)
    have asks : Asks its.length (fun i => rk ((its.map (·.1)).getD i [])) (kas_ask prog w A (tuples' b) (its.map fun q => Value.ref q.2)) (fun s' => ∃ tk, s' = { s with heap := H6, toks := tk }) := by
      rintro i j C s' hi hj ⟨tk, rfl⟩ hC
      have hi' : i < its.length := hi
      have ei : (its.map fun q => Value.ref q.2).getD i Value.none = Value.ref its[i].2 := by rw [List.getD_eq_getElem?_getD, List.getElem?_map, List.getElem?_eq_getElem hi]; rfl
      have ej : (its.map fun q => Value.ref q.2).getD j Value.none = Value.ref its[j].2 := by rw [List.getD_eq_getElem?_getD, List.getElem?_map, List.getElem?_eq_getElem hj]; rfl
      have ri : (its.map (·.1)).getD i [] = its[i].1 := by rw [List.getD_eq_getElem?_getD, List.getElem?_map, List.getElem?_eq_getElem hi]; rfl
      have rj : (its.map (·.1)).getD j [] = its[j].1 := by rw [List.getD_eq_getElem?_getD, List.getElem?_map, List.getElem?_eq_getElem hj]; rfl
      unfold kas_ask
      rw [ei, ej]
      refine lt_tup (s := { s with heap := H6, toks := tk }) (hk6 _ (List.getElem_mem hi)) (hk6 _ (List.getElem_mem hj)) (hr.len _ (List.getElem_mem hi) _ (List.getElem_mem hj)) ?_
      rw [hr.lt _ (List.getElem_mem hi) _ (List.getElem_mem hj)]
      have e : decide (rk ((its.map (·.1)).getD i []) < rk ((its.map (·.1)).getD j [])) = decide (rk its[i].1 < rk its[j].1) := decide_eq_decide.mpr (by rw [ri, rj])
      rw [← e]
      exact hC _ ⟨tk, rfl⟩
    have inj : ∀ i j, i < its.length → j < its.length → rk ((its.map (·.1)).getD i []) = rk ((its.map (·.1)).getD j []) → i = j := by
      intro i j hi hj e
      have ri : (its.map (·.1)).getD i [] = its[i].1 := by rw [List.getD_eq_getElem?_getD, List.getElem?_map, List.getElem?_eq_getElem hi]; rfl
      have rj : (its.map (·.1)).getD j [] = its[j].1 := by rw [List.getD_eq_getElem?_getD, List.getElem?_map, List.getElem?_eq_getElem hj]; rfl
      rw [ri, rj] at e
      have e2 := hr.inj _ (List.getElem_mem hi) _ (List.getElem_mem hj) e
      have hi' : i < (its.map (·.1)).length := by simpa using hi
      have hj' : j < (its.map (·.1)).length := by simpa using hj
      exact (List.getElem_inj nd (h₀ := hi') (h₁ := hj')).mp (by simpa using e2)
    have lenv : (its.map fun q => Value.ref q.2).length = its.length := List.length_map ..
    have run := kat_run (prog := prog) (w := w) (A := A) (E := E) (κ := tuples' b) (s := { s with heap := H6 }) (ks := its.map fun q => Value.ref q.2) (vs := its.map fun q => Value.ref q.2)
      (Q := fun st s' => ∃ p tk, s' = { s with heap := H6, toks := tk } ∧ arrOf st = p.map (kas_item ((its.map fun q => Value.ref q.2).toArray.zip (its.map fun q => Value.ref q.2).toArray)) ∧ failedOf st = none ∧ Pm its.length p ∧ Up (fun i => rk ((its.map (·.1)).getD i [])) p its.length)
      (G := fun p s' => ∃ tk, s' = { s with heap := H6, toks := tk } ∧ Pm its.length p ∧ Up (fun i => rk ((its.map (·.1)).getD i [])) p its.length) rfl (by rw [lenv]; exact c3) (by rw [lenv]; exact h64)
      (fun p st s' _ g2 g3 ⟨tk, g4, g5, g6⟩ => ⟨p, tk, g4, g2, g3, g5, g6⟩)
      (by rw [lenv]; exact sort_wp asks inj (by omega) ⟨s.toks, rfl⟩ fun p s' g1 g2 ⟨tk, g3⟩ => ⟨tk, g3, g1, g2⟩)
    refine wpAny_bind (wpAny_mono run ?_ fun _ _ e => e)
    rintro ⟨⟨⟩, st⟩ s' ⟨p, tk, rfl, har, hf, hp, hu⟩
    dsimp only
    have hsn := kat_snds (ks := its.map fun q => Value.ref q.2) (vs := its.map fun q => Value.ref q.2) rfl har
    have hps := hp.size
    refine fin (p.toList.map fun i => its.getD i ([], 0)) tk st ?_ ?_ ?_ hf
    · have e : its = (List.range its.length).map fun i => its.getD i ([], 0) := by
        apply List.ext_getElem
        · simp
        · intro i h1 h2
          simp [List.getD_eq_getElem?_getD, List.getElem?_eq_getElem h1]
      have := hp.perm.map fun i => its.getD i ([], 0)
      rw [← e] at this
      exact this
    · rw [List.pairwise_map, List.pairwise_iff_getElem]
      intro i j hi hj hij
      rw [Array.length_toList] at hi hj
      have gi : g p i = p.toList[i] := by unfold g; simp [Array.getD, hi]
      have gj : g p j = p.toList[j] := by unfold g; simp [Array.getD, hj]
      have := hu i j hij (by omega)
      rw [gi, gj] at this
      have li := hp.lt (show i < its.length by omega)
      have lj := hp.lt (show j < its.length by omega)
      rw [gi] at li
      rw [gj] at lj
      have ri : (its.map (·.1)).getD p.toList[i] [] = (its.getD p.toList[i] ([], 0)).1 := by rw [List.getD_eq_getElem?_getD, List.getElem?_map, List.getD_eq_getElem?_getD, List.getElem?_eq_getElem li]; rfl
      have rj : (its.map (·.1)).getD p.toList[j] [] = (its.getD p.toList[j] ([], 0)).1 := by rw [List.getD_eq_getElem?_getD, List.getElem?_map, List.getD_eq_getElem?_getD, List.getElem?_eq_getElem lj]; rfl
      dsimp only at this
      rw [ri, rj] at this
      exact this
    · rw [hsn, List.map_map]
      congr 1
      refine List.map_congr_left fun i hi => ?_
      have li := List.mem_range.mp (hp.perm.mem_iff.mp hi)
      show (its.map fun q => Value.ref q.2).getD i Value.none = Value.ref (its.getD i ([], 0)).2
      rw [List.getD_eq_getElem?_getD, List.getElem?_map, List.getD_eq_getElem?_getD, List.getElem?_eq_getElem li]; rfl
end
end STab

namespace Bt
open PySem PySem.Spec PyProof.Rows L2 Ext
open STab (Pr Grown TSet TK tkh Raw TOk Fit En Rank)

/-! ### a set of tuples of ints, as a thing of the heap -/
def SetFacts (P : Program) (w : World) (D : Addr) (Ms : List Pr) (h : Heap) : Prop := ∃ (L : List En) (t : SetTable) (o : Obj) (ep : Nat), h.get? D = some o ∧ o.ExactSet ∧ o.data = .set (L.map (·.2)).toArray ep t ∧ TOk t L ∧ t.plain = true ∧ t.led = (!w.params.followText "set-order") ∧ Fit t.mask L.length ∧
  (L.map (·.2)).Perm (Ms.map fun q => (tkh P w q.1, Value.ref q.2)) ∧ (Ms.map (·.1)).Nodup
def setO (P : Program) (w : World) (D : Addr) (Ms : List Pr) : HO := .ext (SetFacts P w D Ms)
def tupAt (H : Hp) (its : List Pr) : Prop := ∀ q ∈ its, H q.2 = some (.tup (q.1.map V.int))
section
variable {X : Cx}
theorem items_are {P : Program} {w : World} : ∀ {ks : List Int} {us : List Value}, Vals (ks.map V.int) us → ItemsAre (intKind P w) ks us
  | [], _, .nil => .nil
  | k :: ks, _, .cons r t => by
    obtain ⟨tk, rfl⟩ := r
    exact .cons (intKind_is P w k tk) (items_are t)
theorem tk_of {pins : List (Addr × Obj)} {σ : L2.St} {H : Hp} {s : Shared} (I : Inv X pins σ H s) {ks : List Int} {r : Addr} (h : H r = some (.tup (ks.map V.int))) : TK X.prog X.w s.heap ks r := by
  obtain ⟨its, rv, ⟨o, ho, hc, n, hd⟩, _⟩ := I.tuple (SqT.of (K := X.K) h)
  exact ⟨o, _, n, ho, hc, hd, by simpa using items_are rv⟩
theorem vals_refs : ∀ {its : List Pr} {us : List Value}, Vals (its.map fun q => V.ref q.2) us → us = its.map fun q => Value.ref q.2
  | [], _, .nil => rfl
  | q :: its, _, .cons r t => by
    cases r
    rw [vals_refs t]; rfl
theorem refs_vals : ∀ (its : List Pr), Vals (its.map fun q => V.ref q.2) (its.map fun q => Value.ref q.2)
  | [] => .nil
  | q :: its => .cons rfl (refs_vals its)
theorem set_laid {pins : List (Addr × Obj)} {σ : L2.St} {H : Hp} {s : Shared} {h' : Heap} {tk : Nat} {Ms : List Pr} (I : Inv X pins σ H s) (k1 : ∀ b u, s.heap.get? b = some u → h'.get? b = some u) (T : TSet X.prog X.w h' s.heap.objs.size Ms) :
    Inv X pins σ (upd H s.heap.objs.size (setO X.prog X.w s.heap.objs.size Ms)) { s with heap := h', toks := tk } := by
  obtain ⟨L, t, o, ep, R⟩ := T
  refine I.laid (t' := tk) k1 (Nat.le_refl _) (show ObjOk X.prog X.w _ h' _ (.ext _) from ⟨⟨L, t, o, ep, R.at', R.ex, R.data, R.tok, R.plain, R.led, R.fit, R.mem, R.nd⟩, ⟨o, R.at'⟩, ?_⟩)
  rintro h1 h2 ⟨L, t, o, ep, e, r⟩ k
  exact ⟨L, t, o, ep, k _ e, r⟩
theorem call_set_of (hu : X.A.units + 64 < cLine) : CallR X (.type "set") (fun xs H Q => ∃ (p : Addr) (its : List Pr) (U : List (List Int)), xs = [.ref p] ∧ SqL X.K H p (its.map fun q => V.ref q.2) ∧ tupAt H its ∧ U.length < 70 ∧ (∀ q ∈ its, q.1 ∈ U) ∧ X.calm = true ∧
    ∀ a Ms, H a = none → Grown its Ms → Q (.ref a) (upd H a (setO X.prog X.w a Ms))) := by
  intro pins s σ H xs us Q I r h
  obtain ⟨p, its, U, rfl, hq, ht, hU, hUs, hc, q⟩ := h
  obtain ⟨u, rfl, rx⟩ := vals1 r
  cases rx
  obtain ⟨vs, rv, pl, hz⟩ := I.list hq
  have ev := vals_refs rv
  refine STab.set_of_list (I.ok.hd hc) (by omega) pl.isList (its := its) (U := U) (by simpa using ev) (fun x hx => tk_of I (ht x hx)) hU hUs fun h' tk Ms k1 k2 k3 => ?_
  exact ⟨.ref s.heap.objs.size, _, set_laid I k1 k2, rfl, q _ _ (I.hok.fresh (Nat.le_refl _)) k3⟩
theorem call_set_tup (hu : X.A.units + 64 < cLine) : CallR X (.type "set") (fun xs H Q => ∃ (p : Addr) (its : List Pr) (U : List (List Int)), xs = [.ref p] ∧ SqT X.K H p (its.map fun q => V.ref q.2) ∧ tupAt H its ∧ U.length < 70 ∧ (∀ q ∈ its, q.1 ∈ U) ∧ X.calm = true ∧
    ∀ a Ms, H a = none → Grown its Ms → Q (.ref a) (upd H a (setO X.prog X.w a Ms))) := by
  intro pins s σ H xs us Q I r h
  obtain ⟨p, its, U, rfl, hq, ht, hU, hUs, hc, q⟩ := h
  obtain ⟨u, rfl, rx⟩ := vals1 r
  cases rx
  obtain ⟨vs, rv, pl, hz⟩ := I.tuple hq
  have ev := vals_refs rv
  refine STab.set_of_tuple (I.ok.hd hc) (by omega) pl (its := its) (U := U) (by simpa using ev) (fun x hx => tk_of I (ht x hx)) hU hUs fun h' tk Ms k1 k2 k3 => ?_
  exact ⟨.ref s.heap.objs.size, _, set_laid I k1 k2, rfl, q _ _ (I.hok.fresh (Nat.le_refl _)) k3⟩

/-! ### sorted -/
theorem tk_keep {P : Program} {w : World} {h h' : Heap} {its : List Pr} (hk : ∀ q ∈ its, TK P w h q.1 q.2) (k : ∀ b u, h.get? b = some u → h'.get? b = some u) : ∀ q ∈ its, TK P w h' q.1 q.2 := fun q hq => STab.TK.all (hk q hq) k
theorem Rank.perm {a b : List Pr} {rk : List Int → Int} (h : Rank a rk) (p : b.Perm a) : Rank b rk :=
  ⟨fun q hq x hx => h.len q (p.mem_iff.mp hq) x (p.mem_iff.mp hx), fun q hq => h.pos q (p.mem_iff.mp hq), fun q hq x hx => h.lt q (p.mem_iff.mp hq) x (p.mem_iff.mp hx), fun q hq x hx => h.inj q (p.mem_iff.mp hq) x (p.mem_iff.mp hx)⟩
theorem perm_map : ∀ (vs : List Value) (Ms : List Pr), vs.Perm (Ms.map fun q => Value.ref q.2) → ∃ its : List Pr, vs = its.map (fun q => Value.ref q.2) ∧ its.Perm Ms := by
  have key : ∀ (ws vs : List Value), ws.Perm vs → ∀ Ms : List Pr, ws = Ms.map (fun q => Value.ref q.2) → ∃ its : List Pr, vs = its.map (fun q => Value.ref q.2) ∧ its.Perm Ms := by
    intro ws vs p
    induction p with
    | nil => intro Ms h; cases Ms with
      | nil => exact ⟨[], rfl, .nil⟩
      | cons a b => cases h
    | cons x p ih =>
      intro Ms h
      cases Ms with
      | nil => cases h
      | cons a b =>
        rw [List.map_cons] at h
        injection h with h1 h2
        obtain ⟨its, e, q⟩ := ih b h2
        exact ⟨a :: its, by rw [List.map_cons, ← e, h1], q.cons a⟩
    | swap x y l =>
      intro Ms h
      match Ms, h with
      | a :: b :: c, h =>
        rw [List.map_cons, List.map_cons] at h
        injection h with h1 h2
        injection h2 with h2 h3
        exact ⟨b :: a :: c, by rw [List.map_cons, List.map_cons, h1, h2, h3], List.Perm.swap _ _ _⟩
    | trans _ _ ih1 ih2 =>
      intro Ms h
      obtain ⟨i1, e1, q1⟩ := ih1 Ms h
      obtain ⟨i2, e2, q2⟩ := ih2 i1 e1
      exact ⟨i2, e2, q2.trans q1⟩
  intro vs Ms p
  exact key _ _ p.symm Ms rfl
/-- what stands behind the list that sorted made -/
theorem sort_end {pins : List (Addr × Obj)} {σ : L2.St} {H : Hp} {s : Shared} {Q : VK} {its : List Pr} {rk : List Int → Int} {h1 : Heap} {tk : Nat} (I : Inv X pins σ H s) (k1 : ∀ b u, s.heap.get? b = some u → h1.get? b = some u) (hk : ∀ q ∈ its, TK X.prog X.w s.heap q.1 q.2) (hr : Rank its rk) (nd : (its.map (·.1)).Nodup) (h64 : its.length < 64)
    (q : ∀ (l : Addr) (out : List Pr), H l = none → out.Perm its → (out.Pairwise fun a b => rk a.1 < rk b.1) → Q (.ref l) (upd H l (.lst (out.map fun q => V.ref q.2)))) :
    wpAny (model X.prog X.w) X.A.in1 (do
      let l ← newList (its.map fun q => Value.ref q.2)
      let _ ← holding [l] (call (.builtin "list.sort") [l] [])
      ret l) (fun fin s' => ∃ v, fin = .done (.ret v) ∧ EP X pins σ Q v s') X.xe { s with heap := h1, toks := tk } := by
  refine wpAny_bind (wpAny_newList ?_ (by rw [List.length_map]; exact STab.size_small (by omega)))
  have hoL : (h1.push (seqObj "list" (its.map fun q => Value.ref q.2).toArray 0)).get? h1.objs.size = some (seqObj "list" (its.map fun q => Value.ref q.2).toArray 0) := Heap.get?_push_size _ rfl
  have k2 : ∀ b u, s.heap.get? b = some u → (h1.push (seqObj "list" (its.map fun q => Value.ref q.2).toArray 0)).get? b = some u := fun b u e => Heap.get?_push_of_some _ (k1 b u e)
  refine wpAny_bind (wpAny_holding (wpAny_call_entry slot_list_sort ⟨_, hoL, rfl⟩ entry_list_sort (STab.sort_tree (s := { s with heap := h1.push (seqObj "list" (its.map fun q => Value.ref q.2).toArray 0), toks := tk }) hoL (tk_keep hk k2) hr nd h64 fun out p1 p2 tk2 => ⟨_, rfl, ?_⟩) (args_list_sort _)))
  refine wpAny_pure ⟨_, rfl, ?_⟩
  have I1 : Inv X pins σ H { s with heap := h1, toks := tk } := I.kept (t' := tk) k1
  have k3 : ∀ b u, h1.get? b = some u → (sortedHeap (h1.push (seqObj "list" (its.map fun q => Value.ref q.2).toArray 0)) h1.objs.size (its.map fun q => Value.ref q.2) (out.map fun q => Value.ref q.2).toArray).get? b = some u := fun b u e => by
    have lt := Heap.lt_size e
    have lt2 : b < (h1.push (seqObj "list" (its.map fun q => Value.ref q.2).toArray 0)).objs.size := by rw [Heap.size_push]; exact Nat.lt_succ_of_lt lt
    rw [sortedHeap_old (Nat.ne_of_lt lt) lt2]
    exact Heap.get?_push_of_some _ e
  obtain ⟨e, he⟩ : ∃ e, (sortedHeap (h1.push (seqObj "list" (its.map fun q => Value.ref q.2).toArray 0)) h1.objs.size (its.map fun q => Value.ref q.2) (out.map fun q => Value.ref q.2).toArray).get? h1.objs.size = some (seqObj "list" (out.map fun q => Value.ref q.2).toArray e) := sortedHeap_at hoL
  have lo : out.length = its.length := p1.length_eq
  exact ⟨.ref h1.objs.size, _, I1.laid (t' := tk2) k3 (Nat.le_refl _) (show ObjOk X.prog X.w _ _ _ (.lst (out.map fun q => V.ref q.2)) from ⟨by rw [List.length_map, lo]; exact STab.size_small (by omega), _, e, refs_vals out, he⟩), rfl, q _ out (I1.hok.fresh (Nat.le_refl _)) p1 p2⟩
theorem call_sorted_set : CallR X (.builtin "sorted") (fun xs H Q => ∃ (a : Addr) (Ms : List Pr) (rk : List Int → Int), xs = [.ref a] ∧ H a = some (setO X.prog X.w a Ms) ∧ tupAt H Ms ∧ Rank Ms rk ∧ Ms.length < 64 ∧ X.calm = true ∧
    ∀ (l : Addr) (out : List Pr), H l = none → out.Perm Ms → (out.Pairwise fun a b => rk a.1 < rk b.1) → Q (.ref l) (upd H l (.lst (out.map fun q => V.ref q.2)))) := by
  intro pins s σ H xs us Q I r h
  obtain ⟨a, Ms, rk, rfl, ha, ht, hr, h64, hc, q⟩ := h
  obtain ⟨u, rfl, rx⟩ := vals1 r
  cases rx
  obtain ⟨⟨L, t, o, ep, f1, f2, f3, f4, f5, f6, f7, f8, f9⟩, _, _⟩ := (show ObjOk X.prog X.w H s.heap a (.ext _) from I.hok a _ ha)
  have hk : ∀ x ∈ Ms, TK X.prog X.w s.heap x.1 x.2 := fun x hx => tk_of I (ht x hx)
  refine Calls.call_function_entry kind_sorted plain_sorted entry_sorted (args_sorted1 _) ?_
  unfold Builtin.«sorted»
  refine wpAny_bind (m := checkCount "sorted" 1 1 _) (wpAny_pure ?_)
  refine wpAny_bind (STab.collect_set (D := a) (Ms := Ms) (by simp [I.ok.hd hc]) ⟨L, t, o, ep, f1, f2, f3, f4, f5, f6, f7, f8, hk, f9⟩ (by omega) fun h1 tk vs k1 p1 => ?_)
  obtain ⟨its, rfl, p2⟩ : ∃ its : List Pr, vs = its.map (fun q => Value.ref q.2) ∧ its.Perm Ms := perm_map vs Ms p1
  have e : its.length = Ms.length := p2.length_eq
  exact sort_end I k1 (fun x hx => hk x (p2.mem_iff.mp hx)) (Rank.perm hr p2) ((p2.map _).nodup_iff.mpr f9) (by omega) fun l out h1 h2 h3 => q l out h1 (h2.trans p2) h3
theorem call_sorted_list : CallR X (.builtin "sorted") (fun xs H Q => ∃ (p : Addr) (its : List Pr) (rk : List Int → Int), xs = [.ref p] ∧ SqL X.K H p (its.map fun q => V.ref q.2) ∧ tupAt H its ∧ Rank its rk ∧ (its.map (·.1)).Nodup ∧ its.length < 64 ∧
    ∀ (l : Addr) (out : List Pr), H l = none → out.Perm its → (out.Pairwise fun a b => rk a.1 < rk b.1) → Q (.ref l) (upd H l (.lst (out.map fun q => V.ref q.2)))) := by
  intro pins s σ H xs us Q I r h
  obtain ⟨p, its, rk, rfl, hq, ht, hr, nd, h64, q⟩ := h
  obtain ⟨u, rfl, rx⟩ := vals1 r
  cases rx
  obtain ⟨vs, rv, pl, hz⟩ := I.list hq
  have ev := vals_refs rv
  subst ev
  have hk : ∀ x ∈ its, TK X.prog X.w s.heap x.1 x.2 := fun x hx => tk_of I (ht x hx)
  refine Calls.call_function_entry kind_sorted plain_sorted entry_sorted (args_sorted1 _) ?_
  unfold Builtin.«sorted»
  refine wpAny_bind (m := checkCount "sorted" 1 1 _) (wpAny_pure ?_)
  refine wpAny_bind (collect_list pl.isList ?_ (by rw [List.length_map]; exact STab.size_small (by omega)))
  exact sort_end (tk := s.toks) I (fun b u e => (Heap.get?_update_other _ _ (Nat.ne_of_gt (Heap.lt_size e))).trans (Heap.get?_push_of_some _ e)) hk hr nd h64 q
end
end Bt

namespace Bt
open PySem PySem.Spec PyProof.Rows L2 Ext
open STab (Pr Grown Rank)

/-! ### rows of triples -/
abbrev Tri := Lyn.Tri
def IsTr (H : Hp) (v : V) (r : Tri) : Prop := ∃ a, v = .ref a ∧ H a = some (.tup [.int (r.1 : Nat), .int (r.2.1 : Nat), .int (r.2.2 : Nat)])
abbrev RepT (H : Hp) : List V → List Tri → Prop := Paired (IsTr H)
theorem RepT.length {H : Hp} {xs : List V} {ds : List Tri} (r : RepT H xs ds) : xs.length = ds.length := Paired.length r
theorem RepT.same {H H' : Hp} {xs : List V} {ds : List Tri} (r : RepT H xs ds) (e : Same H H') : RepT H' xs ds := Paired.mapP r fun v q ⟨a, h1, h2⟩ => ⟨a, h1, e _ _ h2⟩
theorem RepT.get : ∀ {H : Hp} {xs : List V} {ds : List Tri} {i : Nat} {x : V}, RepT H xs ds → xs[i]? = some x → ∃ q, ds[i]? = some q ∧ IsTr H x q
  | _, _, _, _, _, .nil, e => by simp at e
  | _, _, _, 0, _, .cons r _, e => by simp at e; subst e; exact ⟨_, rfl, r⟩
  | _, _, _, i + 1, x, .cons _ t, e => by
    obtain ⟨u, h1, h2⟩ := RepT.get (i := i) (x := x) t (by simpa using e)
    exact ⟨u, by simpa using h1, h2⟩
theorem RepT.get' : ∀ {H : Hp} {xs : List V} {ds : List Tri} {i : Nat} {q : Tri}, RepT H xs ds → ds[i]? = some q → ∃ x, xs[i]? = some x ∧ IsTr H x q
  | _, _, _, _, _, .nil, e => by simp at e
  | _, _, _, 0, _, .cons r _, e => by simp at e; subst e; exact ⟨_, rfl, r⟩
  | _, _, _, i + 1, q, .cons _ t, e => by
    obtain ⟨u, h1, h2⟩ := RepT.get' (i := i) (q := q) t (by simpa using e)
    exact ⟨u, by simpa using h1, h2⟩
theorem trip_one {F : V → Tri → Prop} {x : V} {q : Tri} : ∀ {xs : List V} {ds : List Tri}, Paired F xs ds → F x q → Paired F (xs ++ [x]) (ds ++ [q])
  | _, _, .nil, h => .cons h .nil
  | _, _, .cons r t, h => .cons r (trip_one t h)
theorem RepT.add {H : Hp} {l p : Addr} {xs : List V} {ds : List Tri} {i j k : Int} {r : Tri} (rp : RepT H xs ds) (hx : H l = some (.lst xs)) (hp : H p = none) (ha : i = (r.1 : Nat)) (hb : j = (r.2.1 : Nat)) (hc : k = (r.2.2 : Nat)) :
    RepT (upd (upd H p (.tup [.int i, .int j, .int k])) l (.lst (xs ++ [.ref p]))) (xs ++ [.ref p]) (ds ++ [r]) := by
  have npl : p ≠ l := (ne_of_none hx hp).symm
  refine trip_one (Paired.mapP rp fun v q ⟨c, h1, h2⟩ => ⟨c, h1, ?_⟩) ⟨p, rfl, ?_⟩
  · rw [upd_ne (ne_of h2 hx (by intro z; cases z)), upd_ne (ne_of_none h2 hp)]
    exact h2
  · rw [upd_ne npl, upd_same, ha, hb, hc]
def tD (r : Tri) : PyData := .tuple [.int (r.1 : Nat), .int (r.2.1 : Nat), .int (r.2.2 : Nat)]
theorem RepT.reps {K : PySem.W.Frag} {H : Hp} : ∀ {xs : List V} {ds : List Tri}, RepT H xs ds → Reps K H xs (ds.map tD)
  | _, _, .nil => .nil
  | _, _, .cons ⟨a, h1, h2⟩ t => by
    subst h1
    exact .cons (.tup (SqT.of h2) (.cons (.int _) (.cons (.int _) (.cons (.int _) .nil)))) (RepT.reps t)
theorem lay_trips : ∀ ds : List Tri, PyData.canLayAll0 (ds.map tD) = true ∧ PyData.depthAll (ds.map tD) ≤ 1
  | [] => ⟨by simp [PyData.canLayAll0], by simp [PyData.depthAll]⟩
  | q :: ds => by
    obtain ⟨h1, h2⟩ := lay_trips ds
    constructor
    · simp [PyData.canLayAll0, tD, PyData.canLay0, h1]
    · simp only [List.map_cons, PyData.depthAll, tD, PyData.depth]
      omega
theorem shaped_trips (ds : List Tri) : SeqAt.shaped (.tuple (ds.map tD)) = true := by
  obtain ⟨h1, h2⟩ := lay_trips ds
  unfold SeqAt.shaped
  have e1 : (PyData.tuple (ds.map tD)).canLay0 = true := by simpa only [PyData.canLay0] using h1
  have e2 : (PyData.tuple (ds.map tD)).depth ≤ 64 := by
    simp only [PyData.depth]
    omega
  rw [e1, Bool.true_and]
  exact decide_eq_true e2
theorem shaped_tripL (ds : List Tri) : SeqAt.shaped (.list (ds.map tD)) = true := by
  obtain ⟨h1, h2⟩ := lay_trips ds
  unfold SeqAt.shaped
  have e1 : (PyData.list (ds.map tD)).canLay0 = true := by simpa only [PyData.canLay0] using h1
  have e2 : (PyData.list (ds.map tD)).depth ≤ 64 := by
    simp only [PyData.depth]
    omega
  rw [e1, Bool.true_and]
  exact decide_eq_true e2
theorem shaped_trip (r : Tri) : SeqAt.shaped (tD r) = true := by
  unfold SeqAt.shaped tD
  simp [PyData.canLay0, PyData.canLayAll0, PyData.depth, PyData.depthAll]
theorem eqv_trips : ∀ ds : List Tri, PyData.eqvAll (ds.map tD) (ds.map tD) = true
  | [] => by simp [PyData.eqvAll]
  | q :: ds => by simp [PyData.eqvAll, tD, PyData.eqv, eqv_trips ds]
theorem eqv_tup (ds : List Tri) : PyData.eqv (.tuple (ds.map tD)) (.tuple (ds.map tD)) = true := by simp only [PyData.eqv, eqv_trips]
theorem eqv_lst (ds : List Tri) : PyData.eqv (.list (ds.map tD)) (.list (ds.map tD)) = true := by simp only [PyData.eqv, eqv_trips]
theorem eqv_trip (r : Tri) : PyData.eqv (tD r) (tD r) = true := by simp [tD, PyData.eqv, PyData.eqvAll]

/-! ### triples as keys -/
def kT (r : Tri) : List Int := [(r.1 : Nat), (r.2.1 : Nat), (r.2.2 : Nat)]
theorem kT_inj {r s : Tri} (h : kT r = kT s) : r = s := by
  obtain ⟨a, b, c⟩ := r
  obtain ⟨x, y, z⟩ := s
  unfold kT at h
  simp only [List.cons.injEq, Int.ofNat_inj, and_true] at h
  obtain ⟨h1, h2, h3⟩ := h
  subst h1; subst h2; subst h3; rfl
/-- the row of triples, as keys with their places -/
theorem RepT.its : ∀ {H : Hp} {xs : List V} {rs : List Tri}, RepT H xs rs → ∃ its : List Pr, xs = its.map (fun q => V.ref q.2) ∧ its.map (·.1) = rs.map kT ∧ tupAt H its
  | _, _, _, .nil => ⟨[], rfl, rfl, fun _ h => nomatch h⟩
  | H, _, r :: rs, .cons ⟨a, h1, h2⟩ t => by
    obtain ⟨its, e1, e2, e3⟩ := RepT.its t
    refine ⟨(kT r, a) :: its, by rw [List.map_cons, ← e1, h1], by rw [List.map_cons, List.map_cons, e2], fun q hq => ?_⟩
    rcases List.mem_cons.mp hq with rfl | hq
    · exact h2
    · exact e3 q hq
theorem its_rep : ∀ {H : Hp} {its : List Pr}, tupAt H its → (∀ q ∈ its, ∃ r, q.1 = kT r) → ∃ rs : List Tri, its.map (·.1) = rs.map kT ∧ RepT H (its.map fun q => V.ref q.2) rs
  | _, [], _, _ => ⟨[], rfl, .nil⟩
  | H, q :: its, ht, hk => by
    obtain ⟨rs, e1, e2⟩ := its_rep (H := H) (its := its) (fun x hx => ht x (List.mem_cons_of_mem _ hx)) fun x hx => hk x (List.mem_cons_of_mem _ hx)
    obtain ⟨r, hr⟩ := hk q List.mem_cons_self
    have hq := ht q List.mem_cons_self
    rw [hr] at hq
    exact ⟨r :: rs, by rw [List.map_cons, List.map_cons, e1, hr], .cons ⟨q.2, rfl, hq⟩ e2⟩
/-- the rank of a key -/
def rkT (k : List Int) : Int := match k with
  | [a, b, c] => (a * 1000 + b) * 1000 + c
  | _ => 0
theorem rkT_kT (r : Tri) : rkT (kT r) = (Lyn.cd r : Nat) := by
  unfold rkT kT Lyn.cd
  simp
theorem rank_of {its : List Pr} (h : ∀ q ∈ its, ∃ r : Tri, q.1 = kT r ∧ r.1 < 1000 ∧ r.2.1 < 1000 ∧ r.2.2 < 1000) : Rank its rkT := by
  refine ⟨fun q hq p hp => ?_, fun q hq => ?_, fun q hq p hp => ?_, fun q hq p hp e => ?_⟩
  · obtain ⟨r, e, _⟩ := h q hq
    obtain ⟨r', e', _⟩ := h p hp
    rw [e, e']; rfl
  · obtain ⟨r, e, _⟩ := h q hq
    rw [e]; exact List.cons_ne_nil _ _
  · obtain ⟨⟨a, b, c⟩, e, l1, l2, l3⟩ := h q hq
    obtain ⟨⟨x, y, z⟩, e', m1, m2, m3⟩ := h p hp
    rw [e, e', rkT_kT, rkT_kT]
    simp only at l1 l2 l3 m1 m2 m3
    unfold kT Lyn.cd
    simp only [STab.lexB, Int.ofNat_inj]
    by_cases h1 : a = x
    · subst h1
      by_cases h2 : b = y
      · subst h2
        by_cases h3 : c = z
        · subst h3
          simp [STab.lexB]
        · simp only [if_true, if_neg h3, decide_eq_decide]
          omega
      · simp only [if_true, if_neg h2, decide_eq_decide]
        omega
    · simp only [if_neg h1, decide_eq_decide]
      omega
  · obtain ⟨r, e1, l1, l2, l3⟩ := h q hq
    obtain ⟨r', e2, m1, m2, m3⟩ := h p hp
    rw [e1, e2, rkT_kT, rkT_kT] at e
    have := Lyn.cd_inj ⟨l2, l3⟩ ⟨m2, m3⟩ (by omega)
    rw [e1, e2, this]

theorem rise_of : ∀ {out : List Pr} {rs : List Tri}, out.map (·.1) = rs.map kT → (out.Pairwise fun a b => rkT a.1 < rkT b.1) → Lyn.Rise rs := by
  intro out rs e p
  have p' : (out.map (·.1)).Pairwise fun a b => rkT a < rkT b := List.pairwise_map.mpr p
  rw [e, List.pairwise_map] at p'
  exact p'.imp fun h => by rw [rkT_kT, rkT_kT] at h; omega
theorem dedup_exists (l : List Tri) : ∃ u : List Tri, u.Nodup ∧ ∀ x, x ∈ u ↔ x ∈ l := by
  induction l with
  | nil => exact ⟨[], List.nodup_nil, fun x => Iff.rfl⟩
  | cons a l ih =>
    obtain ⟨u, h1, h2⟩ := ih
    by_cases c : a ∈ u
    · refine ⟨u, h1, fun x => (h2 x).trans ⟨fun h => List.mem_cons_of_mem _ h, fun h => ?_⟩⟩
      rcases List.mem_cons.mp h with rfl | h
      · exact (h2 x).mp c
      · exact h
    · exact ⟨a :: u, List.nodup_cons.mpr ⟨c, h1⟩, fun x => by rw [List.mem_cons, List.mem_cons, h2 x]⟩
theorem one_eq {c d : Nat} : (V.str (⟨#[c]⟩ : Str) = V.str (⟨#[d]⟩ : Str)) ↔ c = d := by
  constructor
  · intro h
    injection h with h
    injection h with h
    have := congrArg (fun a : Array Nat => a[0]?) h
    simpa using this
  · rintro rfl; rfl
theorem iteNot2 {c A B : Prop} [Decidable c] (h1 : c → B) (h2 : ¬ c → A) : if (!decide c) = true then A else B := by
  by_cases h : c
  · rw [decide_eq_true h]; exact h1 h
  · rw [decide_eq_false h]; exact h2 h
theorem kit_tuple {K : PySem.W.Frag} : PySem.W.kitOne K (.type "tuple") (.type "tuple") = some true := kit_same (by decide +kernel)

/-! ### the promises of runs -/
def spAhead : Sp := fun vs H Q _ => ∃ (z : Str) (f b : Nat), vs = [.str z, .int (f : Nat), .int (b : Nat)] ∧ z.length ≤ 100 ∧ f + b ≤ z.length ∧
  ∀ f' : Nat, f' ≤ f → (∀ t, f' ≤ t → t < f → (toL z)[t]? = (toL z)[t + b]?) → (f' = 0 ∨ (toL z)[f' - 1]? ≠ (toL z)[f' - 1 + b]?) → Q (.int (f' : Nat)) H
def spBehind : Sp := fun vs H Q _ => ∃ (z : Str) (e b : Nat), vs = [.str z, .int (e : Nat), .int (b : Nat)] ∧ z.length ≤ 100 ∧ e ≤ z.length ∧ b ≤ e ∧
  ∀ e' : Nat, e ≤ e' → e' ≤ z.length → (∀ t, e ≤ t → t < e' → (toL z)[t]? = (toL z)[t - b]?) → (e' = z.length ∨ (toL z)[e']? ≠ (toL z)[e' - b]?) → Q (.int (e' : Nat)) H
def spRunOf : Sp := fun vs H Q _ => ∃ (z : Str) (p h : Nat), vs = [.str z, .int (p : Nat), .int (h : Nat)] ∧ z.length ≤ 100 ∧ 1 ≤ h ∧ p + 2 * h ≤ z.length ∧ Lyn.P (Lyn.wl (toL z)) p (p + 2 * h) h ∧
  ∀ (a : Addr) (r : Tri) (H' : Hp), Same H H' → H' a = some (.tup [.int (r.1 : Nat), .int (r.2.1 : Nat), .int (r.2.2 : Nat)]) → Lyn.RunOf (toL z) (p, h) r → Q (.ref a) H'
def spRuns : Sp := fun vs H Q _ => ∃ z : Str, vs = [.str z] ∧ z.length ≤ 60 ∧ ∀ (a : Addr) (xs : List V) (rs : List Tri) (H' : Hp), Same H H' → H' a = some (.tup xs) → RepT H' xs rs → Lyn.Rl (toL z) rs → Q (.ref a) H'
/-- what the law asks of a run -/
def IsRun (l : List Nat) (r : Tri) : Prop := Lyn.Run (Lyn.wl l) l.length r.1 r.2.1 r.2.2
def spIsRun : Sp := fun vs H Q _ => ∃ (z : Str) (a : Addr) (r : Tri), vs = [.str z, .ref a] ∧ z.length ≤ 60 ∧ H a = some (.tup [.int (r.1 : Nat), .int (r.2.1 : Nat), .int (r.2.2 : Nat)]) ∧ r.1 ≤ 60 ∧ r.2.1 ≤ 60 ∧ r.2.2 ≤ 60 ∧
  ∀ (c : Bool) (H' : Hp), Same H H' → (c = true ↔ IsRun (toL z) r) → Q (.bl c) H'
end Bt

namespace Bt
open PySem PySem.Spec PyProof.Rows L2 Ext
open Builtin.SmallTypes (nextOf)
/-! ### enumerate over a text -/
section
variable {prog : Program} {w : World} {A : Around} {E : Value → Shared → Prop} {s : Shared}
theorem nextOf_item {it : Addr} {x : Str} {t : Tok} {i c : Nat} {Q : Value → Shared → Prop} (hit : s.heap.IsStrIter it "str_ascii_iterator" x t i) (hx : x.cps[i]? = some c)
    (hQ : ∀ h', h'.IsStrIter it "str_ascii_iterator" x t (i + 1) → Heap.SameBut it s.heap h' → Q (.str ⟨#[c]⟩ s.toks) { s with heap := h', toks := s.toks + 1 }) : wpAny (model prog w) A (nextOf (.ref it)) Q E s := by
  obtain ⟨o, ho, hc, hd⟩ := id hit
  unfold nextOf
  refine wpAny_bind (wpAny_callSpecial?_slot (name := Str.ofString "__next__") hit.typeIs F.slot_str_ascii_iterator_next (wpAny_call_entry F.slot_str_ascii_iterator_next hit.typeIs F.entry_str_ascii_iterator_next ?_ (F.args_str_ascii_iterator_next_1 _)))
  refine wpAny_bind (m := field (.ref it) 0) (wpAny_field ho hd (x := .str x t) rfl ?_)
  refine wpAny_bind (m := field (.ref it) 1) (wpAny_field ho hd (x := .int i 0) rfl ?_)
  simp only [Int.toNat_natCast, hx]
  refine wpAny_bind (wpAny_setField ho hd (by simp) (wpAny_bind (wpAny_mkStr (wpAny_pure ⟨_, rfl, wpAny_pure (hQ _ ⟨_, Heap.get?_update_self _ ho (Obj.isFreed_of_fields (Obj.data_mapFields hd _)), (Obj.cls_mapFields ..).trans hc, ?_⟩ (Heap.SameBut.update ..))⟩) (by show 1 ≤ sizeLine; decide))))
  rw [Obj.data_mapFields hd]; simp [rawInt]
theorem nextOf_end {it : Addr} {x : Str} {t : Tok} {i : Nat} {Q : Value → Shared → Prop} (hh : A.handled = none) (hit : s.heap.IsStrIter it "str_ascii_iterator" x t i) (hx : x.cps[i]? = none)
    (hE : ∀ h' ex, Heap.ExtBut it s.heap h' → (∃ o, h'.get? ex = some o ∧ o.cls = .type "StopIteration") → E (.ref ex) { s with heap := h' }) : wpAny (model prog w) A (nextOf (.ref it)) Q E s := by
  obtain ⟨o, ho, hc, hd⟩ := id hit
  unfold nextOf
  refine wpAny_bind (wpAny_callSpecial?_slot (name := Str.ofString "__next__") hit.typeIs F.slot_str_ascii_iterator_next (wpAny_call_entry F.slot_str_ascii_iterator_next hit.typeIs F.entry_str_ascii_iterator_next ?_ (F.args_str_ascii_iterator_next_1 _)))
  refine wpAny_bind (m := field (.ref it) 0) (wpAny_field ho hd (x := .str x t) rfl ?_)
  refine wpAny_bind (m := field (.ref it) 1) (wpAny_field ho hd (x := .int i 0) rfl ?_)
  simp only [Int.toNat_natCast, hx]
  refine wpAny_bind (wpAny_rule (wpAny_bind (wpAny_setField ho hd (by simp) (wpAny_bind (wpAny_letGo ?_)))))
  refine wpAny_bind (m := newExc (.type "StopIteration") []) ?_
  simp only [newExc, newTuple]
  refine wpAny_bind (wpAny_newObj_type ?_ (by size_fits))
  refine wpAny_bind (m := firstArgMember _ _) (wpAny_of_eq (a := Value.none) (by first | rfl | (simp only [firstArgMember]; rfl)) (wpAny_newObj_type ?_ (by size_fits)))
  simp only [raiseNew]
  refine wpAny_bind (wpAny_handled ?_); rw [show A.in1.handled = none from hh]
  refine wpAny_bind (wpAny_pure (wpAny_throw ?_))
  exact hE _ _ (((Heap.SameBut.update ..).extBut.push _).push _) ⟨_, Heap.get?_push_size _ rfl, rfl⟩
theorem enum_item {e it : Addr} {x : Str} {t : Tok} {i c : Nat} {old : Value} {Q : Option Value → Shared → Prop} (he : IsEnum s.heap e it i old) (hit : s.heap.IsStrIter it "str_ascii_iterator" x t i) (hx : x.cps[i]? = some c) (hne : e ≠ it)
    (hQ : ∀ h' tk item u, IsEnumOut h' e it ((i : Int) + 1) item s.heap.objs.size → h'.IsStrIter it "str_ascii_iterator" x t (i + 1) → h'.get? s.heap.objs.size = some { cls := .type "tuple", data := .seq #[.int i u, .str ⟨#[c]⟩ s.toks] } →
      (∀ b o, b ≠ e → b ≠ it → s.heap.get? b = some o → h'.get? b = some o) → Q (some (.ref s.heap.objs.size)) { s with heap := h', toks := tk }) :
    wpAny (model prog w) A (pyNext (.ref e)) Q E s := by
  have hT : s.TypeIs (.ref e) "enumerate" := ⟨_, he, rfl⟩
  unfold pyNext
  refine wpAny_bind (wpAny_attempt (wpAny_callSpecial?_slot (name := Str.ofString "__next__") hT F.slot_enumerate_next (wpAny_call_entry F.slot_enumerate_next hT F.entry_enumerate_next ?_ (F.args_enumerate_next_1 _))))
  have lt : e < s.heap.objs.size := Heap.lt_size he
  have lti : it < s.heap.objs.size := by obtain ⟨o, ho, _⟩ := hit; exact Heap.lt_size ho
  refine wpAny_bind (m := field (.ref e) 2) (wpAny_field he rfl (x := .ref it) rfl ?_)
  refine wpAny_bind (nextOf_item hit hx fun h1 it1 b1 => ?_)
  have e1 : IsEnum h1 e it i old := (b1.2 e hne).trans he
  have z1 : h1.objs.size = s.heap.objs.size := b1.1
  generalize hs1 : ({ s with heap := h1, toks := s.toks + 1 } : Shared) = s1
  have hh1 : s1.heap = h1 := by rw [← hs1]
  refine wpAny_bind (m := field (.ref e) 3) (wpAny_field (by rw [hh1]; exact e1) rfl (x := rawInt i) rfl ?_)
  refine wpAny_bind (m := field (.ref e) 4) (wpAny_field (by rw [hh1]; exact e1) rfl (x := .none) rfl ?_)
  refine wpAny_bind (m := mkInt i) (wpAny_mkInt ?_)
  refine wpAny_bind (m := setField (.ref e) 3 (rawInt ((i : Int) + 1))) (wpAny_setField_rec (by show s1.heap.get? e = _; rw [hh1]; exact e1) (by simp) fun h2 e2 b2 => ?_)
  refine wpAny_bind (m := setField (.ref e) 4 .none) (wpAny_setField_rec e2 (by simp) fun h3 e3 b3 => ?_)
  refine wpAny_bind (m := newTuple [.int i s1.toks, .str ⟨#[c]⟩ s.toks]) (wpAny_newTuple ?_)
  have b2' : Heap.SameBut e h1 h2 := by rw [← hh1]; exact b2
  have b3' : Heap.SameBut e h2 h3 := b3
  have z3 : h3.objs.size = s.heap.objs.size := by rw [b3'.1, b2'.1, z1]
  have kp3 : ∀ b o, b ≠ e → b ≠ it → s.heap.get? b = some o → h3.get? b = some o := fun b o n1 n2 q => b3'.extBut b o n1 (b2'.extBut b o n1 (b1.extBut b o n2 q))
  have i3 : h3.IsStrIter it "str_ascii_iterator" x t (i + 1) := by
    obtain ⟨o, ho, r⟩ := it1
    exact ⟨o, b3'.extBut it o (Ne.symm hne) (b2'.extBut it o (Ne.symm hne) ho), r⟩
  have e4 : (h3.push { cls := .type "tuple", data := .seq #[.int i s1.toks, .str ⟨#[c]⟩ s.toks] }).get? e = some { cls := .type "enumerate", dict := none, data := .fields #[.none, .bool false, .ref it, rawInt ((i : Int) + 1), .none, old], slots := #[] } := Heap.get?_push_of_some _ e3
  have t4 : (h3.push { cls := .type "tuple", data := .seq #[.int i s1.toks, .str ⟨#[c]⟩ s.toks] }).get? s.heap.objs.size = some { cls := .type "tuple", data := .seq #[.int i s1.toks, .str ⟨#[c]⟩ s.toks] } := by rw [← z3]; exact Heap.get?_push_size _ rfl
  have kp4 : ∀ b o, h3.get? b = some o → (h3.push { cls := .type "tuple", data := .seq #[.int i s1.toks, .str ⟨#[c]⟩ s.toks] }).get? b = some o := fun b o q => Heap.get?_push_of_some _ q
  show wpAny (model prog w) A.in1 _ _ _ { s1 with heap := h3.push { cls := .type "tuple", data := .seq #[.int i s1.toks, .str ⟨#[c]⟩ s.toks] }, toks := s1.toks + 1 }
  rw [show ({ s1 with heap := h2, toks := s1.toks + 1 } : Shared).heap = h2 from rfl] at *
  generalize h3.push { cls := .type "tuple", data := .seq #[.int i s1.toks, .str ⟨#[c]⟩ s.toks] } = h4 at e4 t4 kp4
  rw [show (({ s1 with heap := h3, toks := s1.toks + 1 } : Shared)).heap.objs.size = s.heap.objs.size from z3]
  refine wpAny_bind (m := Builtin.SmallTypes.ownedTupleIsFree (.ref e)) ?_
  unfold Builtin.SmallTypes.ownedTupleIsFree
  refine wpAny_bind (wpAny_field (s := { s1 with heap := h4, toks := s1.toks + 1 }) e4 rfl (x := .none) rfl (wpAny_pure ?_))
  simp only [if_true]
  refine wpAny_bind (wpAny_rule ?_)
  refine wpAny_bind (wpAny_field (s := { s1 with heap := h4, toks := s1.toks + 1 }) e4 rfl (x := old) rfl ?_)
  refine wpAny_bind (wpAny_setField_rec (s := { s1 with heap := h4, toks := s1.toks + 1 }) e4 (by simp) fun h5 e5 b5 => ?_)
  refine wpAny_bind (m := Builtin.SmallTypes.ownedTupleHandOut (.ref e) (.ref s.heap.objs.size)) ?_
  unfold Builtin.SmallTypes.ownedTupleHandOut
  refine wpAny_bind (wpAny_setField_rec e5 (by simp) fun h6 e6 b6 => ?_)
  refine wpAny_setField_rec e6 (by simp) fun h7 e7 b7 => ?_
  have b5' : Heap.SameBut e h4 h5 := b5
  have b6' : Heap.SameBut e h5 h6 := b6
  have b7' : Heap.SameBut e h6 h7 := b7
  have kp7 : ∀ b o, b ≠ e → h4.get? b = some o → h7.get? b = some o := fun b o n1 q => b7'.extBut b o n1 (b6'.extBut b o n1 (b5'.extBut b o n1 q))
  refine wpAny_bind (wpAny_letGo (wpAny_pure ⟨_, rfl, wpAny_pure ?_⟩))
  have := hQ h7 (s1.toks + 1) (.str ⟨#[c]⟩ s.toks) s1.toks e7 (by
    obtain ⟨o, ho, r⟩ := i3
    exact ⟨o, kp7 it o (Ne.symm hne) (kp4 it o ho), r⟩) (kp7 _ _ (Nat.ne_of_gt lt) t4) fun b o n1 n2 q => kp7 b o n1 (kp4 b o (kp3 b o n1 n2 q))
  rw [← hs1]
  rw [← hs1] at this
  exact this
theorem enum_end {e it : Addr} {x : Str} {t : Tok} {i : Nat} {old : Value} {Q : Option Value → Shared → Prop} (hh : A.handled = none) (he : IsEnum s.heap e it i old) (hit : s.heap.IsStrIter it "str_ascii_iterator" x t i) (hx : x.cps[i]? = none)
    (hQ : ∀ h', (∀ b o, b ≠ it → s.heap.get? b = some o → h'.get? b = some o) → Q none { s with heap := h' }) : wpAny (model prog w) A (pyNext (.ref e)) Q E s := by
  have hT : s.TypeIs (.ref e) "enumerate" := ⟨_, he, rfl⟩
  unfold pyNext
  refine wpAny_bind (wpAny_attempt (wpAny_callSpecial?_slot (name := Str.ofString "__next__") hT F.slot_enumerate_next (wpAny_call_entry F.slot_enumerate_next hT F.entry_enumerate_next ?_ (F.args_enumerate_next_1 _))))
  refine wpAny_bind (m := field (.ref e) 2) (wpAny_field he rfl (x := .ref it) rfl ?_)
  refine wpAny_bind (nextOf_end (A := A.in1) hh hit hx fun h' ex k hs => ?_)
  obtain ⟨o, ho, hc⟩ := hs
  refine wpAny_bind (wpAny_isInstance (T := "StopIteration") (U := "StopIteration") (b := true) ⟨o, ho, hc⟩ isSubtype_stop ?_)
  exact wpAny_pure (hQ h' fun b o hb q => k b o hb q)
end
section
variable {X : Cx}
theorem turned_laid {pins : List (Addr × Obj)} {σ : L2.St} {H : Hp} {s : Shared} {h' : Heap} {ch : List Addr} {T : Addr} {xs : List V} {tk : Nat} (I : Inv X pins σ H s) (hch : ∀ b ∈ ch, FpOk X pins H b) (k : ∀ b o, b ∉ ch → s.heap.get? b = some o → h'.get? b = some o) (hT : s.heap.objs.size ≤ T)
    (new : ObjOk X.prog X.w (upd H T (.tup xs)) h' T (.tup xs)) : Inv X pins σ (upd H T (.tup xs)) { s with heap := h', toks := tk } := by
  have hn := I.hok.fresh hT
  have neT : ∀ b u, H b = some u → b ≠ T := fun b u e z => by rw [z, hn] at e; cases e
  have neC : ∀ b u, H b = some u → b ∉ ch := fun b u e z => by rw [(hch b z).1] at e; cases e
  refine I.step (g' := s.gens) (d' := s.drawn) (ch := ch) (fun b hb => ?_) (fun b o _ _ hc e _ => k b o hc e) (fun b o _ _ hc e _ => ⟨o.slots, k b o hc e⟩) (fun b o _ e n => ?_) (fun b o hc e => ⟨o, k b o hc e⟩)
    (fun b ys e => by rw [upd_ne (neT b _ e)]; exact e) (fun b o u e => by rw [upd_ne (neT b _ e)]; exact e) (fun b ps e => ⟨#[], by rw [upd_ne (neT b _ e), e]; simp⟩) (fun m hm => ?_) (fun b u e => ?_) I.bare
  · obtain ⟨f0, f1, f2, f3, f4, f5⟩ := hch b hb
    exact ⟨f3, f1, f4, f5⟩
  · rw [upd_ne (Nat.ne_of_lt (Nat.lt_of_lt_of_le (Heap.lt_size e) hT))]; exact n
  · obtain ⟨o, es, ep, ho, r⟩ := hm
    exact ⟨o, es, ep, k _ o (fun z => (hch _ z).2.1 rfl) ho, r⟩
  · by_cases c : b = T
    · subst c
      rw [upd_same] at e
      cases e
      exact new
    · rw [upd_ne c] at e
      refine (I.hok b u e).stay (fun d v hd q => k d v ?_ q) (fun d q => ?_) fun d ys q => ?_
      · rcases hd with z | z
        · rw [z]; exact neC b u e
        · exact neC d _ z
      · rw [upd_ne (neT d _ q)]; exact q
      · rw [upd_ne (neT d _ q)]; exact q
def Ite (z : Str) : It := ⟨fun i _ => i < z.length, fun i H x H' => ∃ T c, (toL z)[i]? = some c ∧ x = .ref T ∧ H T = none ∧ H' = upd H T (.tup [.int (i : Nat), .str (ofL [c])]), fun i _ => z.length ≤ i⟩
theorem turn_enum {P : Program} {w : World} {K : PySem.W.Frag} {elts : List Expr} {k : Nat} {pos : Pos} (e it : Addr) (hne : e ≠ it) (z : Str) (t : Tok) :
    Turn P w K (.Tuple elts k pos) (Ite z) [e, it] e (fun i h => i ≤ z.length ∧ (∃ old, IsEnum h e it i old) ∧ h.IsStrIter it "str_ascii_iterator" z t i) where
  mem := by simp
  obj := fun i h st b hb => by
    obtain ⟨_, ⟨old, he⟩, o, ho, hc, hd⟩ := st
    rcases List.mem_cons.mp hb with rfl | hb
    · exact ⟨_, he, fun v q => nomatch q⟩
    · have : b = it := by simpa using hb
      subst this
      exact ⟨o, ho, fun v q => by rw [hd] at q; cases q⟩
  keep := fun i h h' st kk => by
    obtain ⟨h1, ⟨old, he⟩, o, ho, r⟩ := st
    exact ⟨h1, ⟨old, kk e (by simp) _ he⟩, o, kk it (by simp) o ho, r⟩
  item := by
    intro X hP hw hK hc i pins s σ H E I hf st hg
    subst hP hw hK
    obtain ⟨h1, ⟨old, he⟩, hit⟩ := st
    have hg' : i < z.length := hg
    have hsz : i < z.cps.size := hg'
    obtain ⟨c, hcx⟩ : ∃ c, z.cps[i]? = some c := ⟨_, Array.getElem?_eq_getElem hsz⟩
    refine enum_item he hit hcx hne fun h2 tk item u eo it2 t2 k2 => ⟨_, rfl, ?_⟩
    refine wpAny_letOwnedTupleGo_enum (s := { s with heap := h2, toks := tk }) eo fun h3 e3 b3 => ?_
    have b3' : Heap.SameBut e h2 h3 := b3
    have lt : e < s.heap.objs.size := Heap.lt_size he
    have lti : it < s.heap.objs.size := by obtain ⟨o, ho, _⟩ := hit; exact Heap.lt_size ho
    have hcz : (toL z)[i]? = some c := by simpa [toL] using hcx
    refine ⟨.ref s.heap.objs.size, upd H s.heap.objs.size (.tup [.int (i : Nat), .str (ofL [c])]), turned_laid (s := s) (tk := tk) (ch := [e, it]) I (fun b hb => hf b hb) (fun b o hb q => ?_) (Nat.le_refl _) ⟨by show 2 ≤ sizeLine; decide, [.int i u, .str ⟨#[c]⟩ s.toks], .cons ⟨u, rfl⟩ (.cons ⟨_, rfl⟩ .nil), ?_⟩, rfl, ⟨_, c, hcz, rfl, I.hok.fresh (Nat.le_refl _), rfl⟩, ⟨hg', ⟨item, ?_⟩, ?_⟩, fun b hb => ?_⟩
    · have n1 : b ≠ e := fun q => hb (by simp [q])
      have n2 : b ≠ it := fun q => hb (by simp [q])
      exact b3'.extBut b o n1 (k2 b o n1 n2 q)
    · exact ⟨_, b3'.extBut _ _ (Nat.ne_of_gt lt) t2, rfl, 0, rfl⟩
    · exact e3
    · obtain ⟨o, ho, r⟩ := it2
      exact ⟨o, b3'.extBut it o (Ne.symm hne) ho, r⟩
    · rw [upd_ne]
      · exact (hf b hb).1
      · rcases List.mem_cons.mp hb with rfl | hb
        · exact Nat.ne_of_lt lt
        · have : b = it := by simpa using hb
          subst this
          exact Nat.ne_of_lt lti
  done := by
    intro X hP hw hK hc i pins s σ H E I hf st hg
    subst hP hw hK
    obtain ⟨h1, ⟨old, he⟩, hit⟩ := st
    have hg' : z.length ≤ i := hg
    obtain ⟨f0, f1, f2, f3, f4, f5⟩ := hf it (by simp)
    exact enum_end (I.ok.hd hc) he hit (by simp [show z.cps.size ≤ i from hg']) fun h' kk => ⟨rfl, I.turned (t' := s.toks) (fun b o hb q => kk b o hb q) f0 f1 f3 f4 f5⟩
  self := fun A i s Q E st h => by
    obtain ⟨_, ⟨old, he⟩, _⟩ := st
    exact wpAny_pyIter_enum he h
def iEnum (t : TA) : TI := fun σ H R => t σ H fun xs H1 => ∃ z, xs = [.str z] ∧ z.cps.all (· < 128) = true ∧ R (Ite z) H1
theorem pi_enum {elts : List Expr} {k : Nat} {tpos p pos : Pos} {e : Expr} {es : List Expr} {t : TA} (hg : Gl X "enumerate") (hm : X.mg "enumerate" = none) (ha : PA X (e :: es) t)
    (he : starEach (e :: es) X.env = (false, eval e X.env) :: starEach es X.env := by rfl) (hpl : (backTo pos (starEach es X.env)).any (·.1) = false := by rfl) :
    PI X (.Tuple elts k tpos) (.Call (.Name "enumerate" p) (e :: es) [] pos) (iEnum t) := by
  intro pins s σ H R I h
  refine wpAny_Call_Name_kw (ld_blt I hg hm PyProof.Rows.boot_enumerate ?_ (by decide) (by decide))
  refine PyProof.Rows.callWith_type1 (thn (ha pos pins s σ H _ I h) fun us s1 ⟨vs, H1, I1, r1, q1⟩ => ?_) he hpl
  obtain ⟨z, rfl, hz, q⟩ := q1
  obtain ⟨u, rfl, t', rfl⟩ := vals1 r1
  refine call_enumerate_str fun h' e1 i1 z1 k1 => ?_
  refine wpAny_pyIter_enum (s := { s1 with heap := h' }) e1 ?_
  have I2 : Inv X pins σ H1 { s1 with heap := h' } := I1.kept (t' := s1.toks) k1
  have ty : strIterType z = "str_ascii_iterator" := by unfold strIterType; rw [if_pos hz]
  rw [ty] at i1
  refine ⟨s1.heap.objs.size + 1, [s1.heap.objs.size + 1, s1.heap.objs.size], _, _, H1, rfl, I2, turn_enum _ _ (Nat.succ_ne_self _) z t', ⟨Nat.zero_le _, ⟨_, e1⟩, i1⟩, fun b hb => ?_, q⟩
  have hb' : s1.heap.objs.size ≤ b := by
    rcases List.mem_cons.mp hb with rfl | hb
    · exact Nat.le_succ _
    · have : b = s1.heap.objs.size := by simpa using hb
      rw [this]; exact Nat.le_refl _
  exact I1.fpOk hb' (I1.hok.fresh hb')
theorem for_enum {z : Str} {g : TG} {tb : TS} {D : Ends} {σ : L2.St} {H : Hp} (Pv : Nat → L2.St → Hp → Prop) (h0 : Pv 0 σ H)
    (hs : ∀ i c T σ H, (toL z)[i]? = some c → Pv i σ H → H T = none → g (.ref T) σ (upd H T (.tup [.int (i : Nat), .str (ofL [c])])) fun σ2 H2 => tb { D with nx := Pv (i + 1), ct := Pv (i + 1), bk := D.nx } σ2 H2) (hd : ∀ σ H, Pv z.length σ H → D.nx σ H) :
    ∃ W : Nat → Nat → L2.St → Hp → Prop, (∃ m, W 0 m σ H) ∧ ∀ i m σ H, W i m σ H →
      ((Ite z).stop i H ∧ D.nx σ H) ∨ ((Ite z).go i H ∧ ∃ N : L2.St → Hp → Prop, (∀ σ' H', N σ' H' → ∃ m', m' < m ∧ W (i + 1) m' σ' H') ∧ ∀ x H', (Ite z).yld i H x H' → g x σ H' fun σ2 H2 => tb { D with nx := N, ct := N, bk := D.nx } σ2 H2) := by
  refine ⟨fun i m σ H => m = z.length - i ∧ i ≤ z.length ∧ Pv i σ H, ⟨z.length, by simp, Nat.zero_le _, h0⟩, ?_⟩
  rintro i m σ H ⟨rfl, hi, p⟩
  by_cases hlt : i < z.length
  · refine .inr ⟨hlt, Pv (i + 1), fun σ' H' p' => ⟨z.length - (i + 1), by omega, rfl, hlt, p'⟩, fun x H' y => ?_⟩
    obtain ⟨T, c, hc, rfl, hT, rfl⟩ := y
    exact hs i c T σ H hc p hT
  · have e : i = z.length := by omega
    subst e
    exact .inl ⟨Nat.le_refl _, hd σ H p⟩
end
end Bt

namespace Bt
open PySem PySem.Spec PyProof.Rows L2 Ext
section
variable {X : Cx}
/-! ### a text backward -/
theorem rev_pick (z : Str) : ((Builtin.Str.strSliceIndices none none (-1) z.length).filterMap (z.cps[·]?)) = (toL z).reverse := by
  have e : Builtin.Str.strSliceIndices none none (-1) z.length = (List.range z.length).reverse := by
    rw [← PySem.W.krv_range, ← PySem.W.krv_sliceRange]
    rfl
  rw [e, List.filterMap_reverse]
  have := PySem.W.krv_all z.cps
  rw [show z.length = z.cps.size from rfl, this]
  rfl
def tRev (te ts : TE) : TE := fun σ H Q => te σ H fun x H1 => ts σ H1 fun y H2 => ∃ z, x = .str z ∧ y = .int (-1) ∧ z.length ≤ sizeLine ∧ Q (.str (ofL (toL z).reverse)) H2
theorem pe_rev {e st : Expr} {te ts : TE} {p2 pos : Pos} (he : PE X e te) (hs : PE X st ts) : PE X (.Subscript e (.Slice none none (some st) p2) pos) (tRev te ts) := by
  intro pins s σ H Q I h
  refine Subscript_ (thn (he pins s σ H _ I h) fun v s1 ⟨x, H1, I1, r1, q1⟩ => ?_)
  refine wpAny_Slice (wpAny_pure (wpAny_pure (thn (hs pins s1 σ H1 _ I1 q1) fun vs s2 ⟨y, H2, I2, r2, q2⟩ => ?_)))
  obtain ⟨z, rfl, rfl, hz, q⟩ := q2
  obtain ⟨t, rfl⟩ := r1
  obtain ⟨u, rfl⟩ := r2
  have I3 : Inv X pins σ H2 { s2 with heap := s2.heap.push { cls := .type "slice", data := .fields #[.none, .none, .int (-1) u] } } := I2.kept (t' := s2.toks) fun b ob q => Heap.get?_push_of_some _ q
  have hg : wpAny (model X.prog X.w) X.A (getItem (.str z t) (.ref s2.heap.objs.size)) (EP X pins σ Q) X.xe { s2 with heap := s2.heap.push { cls := .type "slice", data := .fields #[.none, .none, .int (-1) u] } } := by
    refine wpAny_getItem_str_slice (l := none) (u := none) (st := some (-1, u)) ⟨_, Heap.get?_push_size _ rfl, rfl, rfl⟩ rfl ?_
    have em : sliceMade z t none none (some (-1, u)) = .str (ofL (toL z).reverse) := by
      unfold sliceMade slicePicked
      rw [if_neg (by simp)]
      show Made.str ⟨((Builtin.Str.strSliceIndices none none (-1) z.length).filterMap (z.cps[·]?)).toArray⟩ = _
      rw [rev_pick]
      rfl
    rw [em]
    refine ⟨?_, ⟨.str (ofL (toL z).reverse), H2, I3.tok _, ⟨_, rfl⟩, q⟩⟩
    rw [len_ofL, List.length_reverse, toL_len]; exact hz
  exact tail_any (ops := [.ref s2.heap.objs.size, .str z t]) (typeIs_str _ _ _) slot_str_getitem.lookup hg (by with_unfolding_all rfl)
/-! ### ord, join -/
theorem call_ord : CallR X (.builtin "ord") (fun xs H Q => ∃ c : Nat, xs = [.str (ofL [c])] ∧ Q (.int (c : Nat)) H) := by
  intro pins s σ H xs us Q I r h
  obtain ⟨c, rfl, q⟩ := h
  obtain ⟨u, rfl, t, rfl⟩ := vals1 r
  exact P.ord_of_char ⟨.int (c : Nat), H, I.tok _, ⟨_, rfl⟩, q⟩
def catL (zs : List Str) : List Nat := (zs.map toL).flatten
theorem str_vals : ∀ {zs : List Str} {us : List Value}, Vals (zs.map V.str) us → ∃ l : List (Str × Tok), us = strValues l ∧ l.map (·.1) = zs
  | [], _, .nil => ⟨[], rfl, rfl⟩
  | z :: zs, _, .cons r t => by
    obtain ⟨tk, rfl⟩ := r
    obtain ⟨l, e1, e2⟩ := str_vals t
    exact ⟨(z, tk) :: l, by rw [e1]; rfl, by rw [List.map_cons, e2]⟩
theorem fold_cat : ∀ (zs : List Str) (a : Array Nat), (zs.foldl (fun acc p => acc ++ ("" : Str).cps ++ p.cps) a).toList = a.toList ++ catL zs
  | [], a => by simp [catL]
  | z :: zs, a => by
    rw [List.foldl_cons, fold_cat zs]
    show (a ++ ("" : Str).cps ++ z.cps).toList ++ catL zs = _
    have e : ("" : Str).cps = #[] := by decide +kernel
    rw [e]
    simp [catL, toL]
theorem join_nil (zs : List Str) : Txt.join "" zs = ofL (catL zs) := by
  apply toL_inj
  rw [toL_ofL]
  cases zs with
  | nil => decide +kernel
  | cons z zs =>
    show ((zs.foldl (fun acc p => acc ++ ("" : Str).cps ++ p.cps) z.cps)).toList = _
    rw [fold_cat]
    rfl
theorem mt_join : MtR X "str.join" (fun x xs H Q => ∃ (p : Addr) (zs : List Str), x = .str "" ∧ xs = [.ref p] ∧ SqL X.K H p (zs.map V.str) ∧ zs.length ≤ 1000 ∧ (∀ z ∈ zs, z.length ≤ 1000) ∧ Q (.str (ofL (catL zs))) H) := by
  intro pins s σ H x xs v us Q I rx rs h
  obtain ⟨p, zs, rfl, rfl, hq, h1, h2, q⟩ := h
  obtain ⟨t, rfl⟩ := rx
  obtain ⟨u, rfl, ru⟩ := vals1 rs
  cases ru
  obtain ⟨vs, rv, pl, hz⟩ := I.list hq
  obtain ⟨l, e1, e2⟩ := str_vals rv
  subst e1
  refine SC.join pl.isList e2 ?_ fun t' k => ⟨.str (ofL (catL zs)), H, I.tok _, ⟨t', by rw [join_nil]⟩, q⟩
  unfold JoinOk
  rw [Bool.not_eq_true']
  refine StrLaws.joinFits (B := 1000) h2 ?_
  have e : ("" : Str).length = 0 := by decide +kernel
  rw [e]
  have := Nat.mul_le_mul_right 1000 h1
  omega
end
end Bt

namespace L2
open PySem PySem.Spec PyProof.Rows

/-! ### lists of pairs as tables -/
section
variable {κ : Type} [DecidableEq κ]
def valV (kvs : List (κ × V)) (k : κ) : Option V := (kvs.find? fun kv => decide (kv.1 = k)).map (·.2)
/-- in its place, or at the end -/
def putK (kvs : List (κ × V)) (k : κ) (v : V) : List (κ × V) :=
  if (kvs.any fun kv => decide (kv.1 = k)) = true then kvs.map (fun kv => if kv.1 = k then (kv.1, v) else kv) else kvs ++ [(k, v)]
def dropK (kvs : List (κ × V)) (k : κ) : List (κ × V) := kvs.filter fun kv => decide (kv.1 ≠ k)

theorem valV_nil {k : κ} : valV ([] : List (κ × V)) k = none := rfl
theorem valV_pos {p : κ × V} {r : List (κ × V)} {k : κ} (e : p.1 = k) : valV (p :: r) k = some p.2 := by simp [valV, List.find?_cons, e]
theorem valV_neg {p : κ × V} {r : List (κ × V)} {k : κ} (e : ¬ p.1 = k) : valV (p :: r) k = valV r k := by simp [valV, List.find?_cons, e]
theorem valV_any (k : κ) : ∀ kvs : List (κ × V), (kvs.any fun kv => decide (kv.1 = k)) = (valV kvs k).isSome
  | [] => rfl
  | p :: r => by
    rw [List.any_cons]
    by_cases e : p.1 = k
    · simp only [valV_pos e, decide_eq_true e, Bool.true_or, Option.isSome_some]
    · rw [valV_neg e, decide_eq_false e, Bool.false_or]; exact valV_any k r
theorem valV_map (k j : κ) (y : V) : ∀ kvs : List (κ × V), valV (kvs.map fun kv => if kv.1 = k then (kv.1, y) else kv) j = (valV kvs j).map fun x => if j = k then y else x
  | [] => rfl
  | p :: r => by
    have ih := valV_map k j y r
    rw [List.map_cons]
    by_cases h : p.1 = k
    · rw [if_pos h]
      by_cases e : p.1 = j
      · rw [valV_pos (p := (p.1, y)) e, valV_pos e, Option.map_some, if_pos (e.symm.trans h)]
      · rw [valV_neg (p := (p.1, y)) e, valV_neg e, ih]
    · rw [if_neg h]
      by_cases e : p.1 = j
      · rw [valV_pos (p := p) e, valV_pos e, Option.map_some, if_neg (fun z => h (e.trans z))]
      · rw [valV_neg (p := p) e, valV_neg e, ih]
theorem valV_snoc (k j : κ) (y : V) : ∀ kvs : List (κ × V), valV kvs k = none → valV (kvs ++ [(k, y)]) j = if j = k then some y else valV kvs j
  | [], _ => by
    by_cases e : k = j
    · rw [if_pos e.symm]; exact valV_pos (p := (k, y)) e
    · rw [if_neg (fun z => e z.symm)]; exact valV_neg (p := (k, y)) e
  | p :: r, hn => by
    rw [List.cons_append]
    have hk : ¬ p.1 = k := fun z => by rw [valV_pos z] at hn; cases hn
    rw [valV_neg hk] at hn
    have ih := valV_snoc k j y r hn
    by_cases e : p.1 = j
    · rw [valV_pos e, valV_pos e, if_neg (fun z => hk (e.trans z))]
    · rw [valV_neg e, valV_neg e, ih]
theorem valV_put (kvs : List (κ × V)) (k j : κ) (y : V) : valV (putK kvs k y) j = if j = k then some y else valV kvs j := by
  unfold putK
  by_cases a : (kvs.any fun kv => decide (kv.1 = k)) = true
  · rw [if_pos a, valV_map]
    rw [valV_any] at a
    by_cases e : j = k
    · obtain ⟨x, hx⟩ := Option.isSome_iff_exists.mp a
      rw [if_pos e, e, hx, Option.map_some, if_pos rfl]
    · rw [if_neg e]
      cases valV kvs j with
      | none => rfl
      | some x => rw [Option.map_some, if_neg e]
  · rw [if_neg a]
    refine valV_snoc k j y kvs ?_
    rw [valV_any] at a
    cases q : valV kvs k with
    | none => rfl
    | some x => rw [q] at a; exact (a rfl).elim
theorem length_putK (kvs : List (κ × V)) (k : κ) (v : V) : (putK kvs k v).length ≤ kvs.length + 1 := by
  unfold putK
  split
  · rw [List.length_map]; omega
  · rw [List.length_append, List.length_cons, List.length_nil]; omega
theorem putK_new {kvs : List (κ × V)} {k : κ} (v : V) (h : valV kvs k = none) : putK kvs k v = kvs ++ [(k, v)] := by
  unfold putK
  rw [valV_any, h]
  exact if_neg (by decide)

theorem RelO.isSome_eq {o : Option V} {u : Option Value} (r : RelO o u) : o.isSome = u.isSome := by
  cases o with
  | none => cases u with
    | none => rfl
    | some _ => exact (show False from r).elim
  | some _ => cases u with
    | none => exact (show False from r).elim
    | some _ => rfl
theorem RelO.getD {o : Option V} {u : Option Value} {d : V} {d' : Value} (r : RelO o u) (rd : RelV d d') : RelV (o.getD d) (u.getD d') := by
  cases o with
  | none => cases u with
    | none => exact rd
    | some _ => exact (show False from r).elim
  | some _ => cases u with
    | none => exact (show False from r).elim
    | some _ => exact r

/-- raw tables of the same keys -/
theorem KV.val {kvs : List (κ × V)} {vs : List (κ × Value)} (r : KV kvs vs) (k : κ) : RelO (valV kvs k) (valueAt vs k) := by
  unfold KV at r
  induction r with
  | nil => exact True.intro
  | @cons p q ps qs h t ih =>
    obtain ⟨h1, h2⟩ := h
    by_cases e : p.1 = k
    · have e' : q.1 = k := h1.symm.trans e
      have b : valueAt (q :: qs) k = some q.2 := by simp [valueAt, List.find?_cons, e']
      rw [valV_pos e, b]; exact h2
    · have e' : ¬ q.1 = k := fun z => e (h1.trans z)
      have b : valueAt (q :: qs) k = valueAt qs k := by simp [valueAt, List.find?_cons, e']
      rw [valV_neg e, b]; exact ih
theorem KV.any {kvs : List (κ × V)} {vs : List (κ × Value)} (r : KV kvs vs) (k : κ) : (kvs.any fun kv => decide (kv.1 = k)) = vs.any fun kv => decide (kv.1 = k) := by
  unfold KV at r
  induction r with
  | nil => rfl
  | cons h t ih => rw [List.any_cons, List.any_cons, ih, h.1]
theorem KV.repl {kvs : List (κ × V)} {vs : List (κ × Value)} (r : KV kvs vs) (k : κ) {y : V} {u : Value} (ry : RelV y u) :
    KV (kvs.map fun kv => if kv.1 = k then (kv.1, y) else kv) (vs.map fun kv => if kv.1 = k then (kv.1, u) else kv) := by
  unfold KV at r ⊢
  induction r with
  | nil => exact .nil
  | @cons p q ps qs h t ih =>
    rw [List.map_cons, List.map_cons]
    refine .cons ?_ ih
    obtain ⟨h1, h2⟩ := h
    by_cases e : p.1 = k
    · rw [if_pos e, if_pos (h1.symm.trans e)]; exact ⟨h1, ry⟩
    · rw [if_neg e, if_neg (fun z => e (h1.trans z))]; exact ⟨h1, h2⟩
theorem KV.put {kvs : List (κ × V)} {vs : List (κ × Value)} (r : KV kvs vs) (k : κ) {y : V} {u : Value} (ry : RelV y u) : KV (putK kvs k y) (stored vs k u) := by
  unfold putK stored
  rw [r.any k]
  by_cases e : (vs.any fun kv => decide (kv.1 = k)) = true
  · rw [if_pos e, if_pos e]; exact r.repl k ry
  · rw [if_neg e, if_neg e]; exact Paired.snoc r ⟨rfl, ry⟩
theorem KV.drop {kvs : List (κ × V)} {vs : List (κ × Value)} (r : KV kvs vs) (k : κ) : KV (dropK kvs k) (without vs k) := by
  unfold KV at r ⊢
  unfold dropK without
  induction r with
  | nil => exact .nil
  | @cons p q ps qs h t ih =>
    obtain ⟨h1, h2⟩ := h
    rw [List.filter_cons, List.filter_cons]
    by_cases e : p.1 = k
    · have a : ¬ decide (p.1 ≠ k) = true := by simp [e]
      have b : ¬ decide (q.1 ≠ k) = true := by simp [h1.symm.trans e]
      rw [if_neg a, if_neg b]; exact ih
    · have e' : ¬ q.1 = k := fun z => e (h1.trans z)
      have a : decide (p.1 ≠ k) = true := by simp [e]
      have b : decide (q.1 ≠ k) = true := by simp [e']
      rw [if_pos a, if_pos b]; exact .cons ⟨h1, h2⟩ ih
theorem KV.keys {kvs : List (κ × V)} {vs : List (κ × Value)} (r : KV kvs vs) : kvs.map (·.1) = vs.map (·.1) := by
  unfold KV at r
  induction r with
  | nil => rfl
  | cons h t ih => rw [List.map_cons, List.map_cons, ih, h.1]
theorem KV.length {kvs : List (κ × V)} {vs : List (κ × Value)} (r : KV kvs vs) : kvs.length = vs.length := Paired.length r
theorem dropK_le (kvs : List (κ × V)) (k : κ) : (dropK kvs k).length ≤ kvs.length := List.length_filter_le _ _
end

/-! ### a tracked dict, its keys ints and texts or tuples of these -/
theorem kV_is {P : Program} {w : World} {k : Key} {u : Value} (r : RelV (kV k) u) : (mixKind P w).is k u = true := by
  cases k with
  | inl i => obtain ⟨t, e⟩ := (show ∃ t, u = Value.int i t from r); subst e; exact mixKind_int P w i t
  | inr x => obtain ⟨t, e⟩ := (show ∃ t, u = Value.str x t from r); subst e; exact mixKind_str P w x t
theorem kV_inj {a b : Key} (e : kV a = kV b) : a = b := by
  cases a with
  | inl i => cases b with
    | inl j => have e' : V.int i = V.int j := e; injection e' with e'; rw [e']
    | inr y => exact nomatch (show V.int i = V.str y from e)
  | inr x => cases b with
    | inl j => exact nomatch (show V.str x = V.int j from e)
    | inr y => have e' : V.str x = V.str y := e; injection e' with e'; rw [e']
theorem kVs_inj : ∀ {a b : List Key}, a.map kV = b.map kV → a = b
  | [], [], _ => rfl
  | [], _ :: _, e => by simp at e
  | _ :: _, [], e => by simp at e
  | x :: xs, y :: ys, e => by
    rw [List.map_cons, List.map_cons] at e
    injection e with e1 e2
    rw [kV_inj e1, kVs_inj e2]
theorem items_are {P : Program} {w : World} : ∀ {ks : List Key} {us : List Value}, Vals (ks.map kV) us → ItemsAre (mixKind P w) ks us
  | [], _, r => by rw [List.map_nil] at r; cases r; exact .nil
  | k :: ks, _, r => by
    rw [List.map_cons] at r
    cases r with
    | cons h t => exact .cons (kV_is h) (items_are t)

/-- raw entries of a dict with tuple keys -/
abbrev KT (H : Hp) : List (List Key × V) → List (List Key × Addr × Value) → Prop := Paired fun p q => p.1 = q.1 ∧ H q.2.1 = some (.tup (p.1.map kV)) ∧ RelV p.2 q.2.2
theorem KT.val {H : Hp} {kvs : List (List Key × V)} {xs : List (List Key × Addr × Value)} (r : KT H kvs xs) (k : List Key) : RelO (valV kvs k) ((atKey xs k).map (·.2)) := by
  induction r with
  | nil => exact True.intro
  | @cons p q ps qs h t ih =>
    obtain ⟨h1, _, h2⟩ := h
    by_cases e : p.1 = k
    · have e' : q.1 = k := h1.symm.trans e
      have b : atKey (q :: qs) k = some q.2 := by simp [atKey, List.find?_cons, e']
      rw [valV_pos e, b]; exact h2
    · have e' : ¬ q.1 = k := fun z => e (h1.trans z)
      have b : atKey (q :: qs) k = atKey qs k := by simp [atKey, List.find?_cons, e']
      rw [valV_neg e, b]; exact ih
theorem KT.repl {H : Hp} {kvs : List (List Key × V)} {xs : List (List Key × Addr × Value)} (r : KT H kvs xs) (k : List Key) {y : V} {u : Value} (ry : RelV y u) :
    KT H (kvs.map fun kv => if kv.1 = k then (kv.1, y) else kv) (xs.map (putAt k u)) := by
  induction r with
  | nil => exact .nil
  | @cons p q ps qs h t ih =>
    rw [List.map_cons, List.map_cons]
    refine .cons ?_ ih
    obtain ⟨h1, h2, h3⟩ := h
    unfold putAt
    by_cases e : p.1 = k
    · rw [if_pos e, if_pos (h1.symm.trans e)]; exact ⟨h1, h2, ry⟩
    · rw [if_neg e, if_neg (fun z => e (h1.trans z))]; exact ⟨h1, h2, h3⟩
theorem KT.put {H : Hp} {kvs : List (List Key × V)} {xs : List (List Key × Addr × Value)} (r : KT H kvs xs) (k : List Key) {b : Addr} {y : V} {u : Value} (hb : H b = some (.tup (k.map kV))) (ry : RelV y u) :
    KT H (putK kvs k y) (storedH xs k b u) := by
  have e : (kvs.any fun kv => decide (kv.1 = k)) = (atKey xs k).isSome := by
    rw [valV_any, (r.val k).isSome_eq, Option.isSome_map]
  unfold putK storedH
  rw [e]
  by_cases q : (atKey xs k).isSome = true
  · rw [if_pos q, if_pos q]; exact r.repl k ry
  · rw [if_neg q, if_neg q]; exact Paired.snoc r ⟨rfl, hb, ry⟩
theorem KT.keeps {H H' : Hp} {kvs : List (List Key × V)} {xs : List (List Key × Addr × Value)} (r : KT H kvs xs) (ht : ∀ b ys, H b = some (.tup ys) → H' b = some (.tup ys)) : KT H' kvs xs :=
  Paired.mapP r fun _ _ z => ⟨z.1, ht _ _ z.2.1, z.2.2⟩

section
variable {P : Program} {w : World} {H : Hp} {h : Heap} {a : Addr}
theorem rd_of {u : HO} (ok : HOk P w H h) (e : Rd H a u) : ObjOk P w H h a u := e.ok ok
theorem dk_rd {kvs : List (Key × V)} (ok : HOk P w H h) (e : Rd H a (.dK kvs)) : kvs.length ≤ sizeLine ∧ (a == sysModules) = false ∧ ∃ vs, KV kvs vs ∧ h.DictOf (mixKind P w) a vs :=
  show ObjOk P w H h a (.dK kvs) from rd_of ok e
theorem dk_of {kvs : List (Key × V)} (ok : HOk P w H h) (e : H a = some (.dK kvs)) : kvs.length ≤ sizeLine ∧ (a == sysModules) = false ∧ ∃ vs, KV kvs vs ∧ h.DictOf (mixKind P w) a vs := dk_rd ok (.inl e)
/-- a tracked tuple of ints and texts is a key -/
theorem key_of {ks : List Key} (ok : HOk P w H h) (e : H a = some (.tup (ks.map kV))) : (tupleKind (mixKind P w)).is h ks a := by
  obtain ⟨_, its, r, o, h1, h2, n, h3⟩ := (show ObjOk P w H h a (.tup (ks.map kV)) from ok a _ e)
  exact ⟨o, its.toArray, n, h1, h2, h3, by simpa using items_are r⟩
theorem dt_rd {kvs : List (List Key × V)} (ok : HOk P w H h) (e : Rd H a (.dT kvs)) : kvs.length ≤ sizeLine ∧ (a == sysModules) = false ∧
    ∃ xs, KT H kvs xs ∧ h.DictOfH (tupleKind (mixKind P w)) a xs := by
  obtain ⟨z, y, xs, r, o, es, ep, h1, h2, h3, h4, h5⟩ := (show ObjOk P w H h a (.dT kvs) from rd_of ok e)
  refine ⟨z, y, xs, r, o, es, ep, h1, h2, h3, h4, fun x hx => ?_, h5⟩
  have all : ∀ {l : List (List Key × V)} {m : List (List Key × Addr × Value)}, KT H l m → ∀ x ∈ m, (tupleKind (mixKind P w)).is h x.1 x.2.1 := by
    intro l m q
    induction q with
    | nil => intro x hx; exact nomatch hx
    | @cons p q ps qs hq t ih =>
      intro x hx
      rcases List.mem_cons.mp hx with e | hx
      · subst e
        exact key_of ok (by rw [← hq.1]; exact hq.2.1)
      · exact ih x hx
  exact all r x hx
theorem dt_of {kvs : List (List Key × V)} (ok : HOk P w H h) (e : H a = some (.dT kvs)) : kvs.length ≤ sizeLine ∧ (a == sysModules) = false ∧
    ∃ xs, KT H kvs xs ∧ h.DictOfH (tupleKind (mixKind P w)) a xs := dt_rd ok (.inl e)
end

/-- what the dict at a holds at the key y -/
def DGet (H : Hp) (a : Addr) (y : V) (r : Option V) : Prop :=
  (∃ kvs k, Rd H a (.dK kvs) ∧ y = kV k ∧ r = valV kvs k) ∨ ∃ kvs k b, Rd H a (.dT kvs) ∧ y = .ref b ∧ H b = some (.tup (k.map kV)) ∧ r = valV kvs k
/-- the heap behind a[y] = v -/
def DPut (H : Hp) (a : Addr) (y v : V) (H' : Hp) : Prop :=
  (∃ kvs k, H a = some (.dK kvs) ∧ y = kV k ∧ kvs.length < sizeLine ∧ H' = upd H a (.dK (putK kvs k v))) ∨
  ∃ kvs k b, H a = some (.dT kvs) ∧ y = .ref b ∧ H b = some (.tup (k.map kV)) ∧ kvs.length < sizeLine ∧ H' = upd H a (.dT (putK kvs k v))
theorem DGet.k {H : Hp} {a : Addr} {kvs : List (Key × V)} {k : Key} (e : H a = some (.dK kvs)) : DGet H a (kV k) (valV kvs k) := .inl ⟨kvs, k, .inl e, rfl, rfl⟩
theorem DGet.t {H : Hp} {a b : Addr} {kvs : List (List Key × V)} {k : List Key} (e : H a = some (.dT kvs)) (eb : H b = some (.tup (k.map kV))) : DGet H a (.ref b) (valV kvs k) := .inr ⟨kvs, k, b, .inl e, rfl, eb, rfl⟩
theorem DPut.k {H : Hp} {a : Addr} {kvs : List (Key × V)} {k : Key} {v : V} (e : H a = some (.dK kvs)) (hl : kvs.length < sizeLine) : DPut H a (kV k) v (upd H a (.dK (putK kvs k v))) := .inl ⟨kvs, k, e, rfl, hl, rfl⟩
theorem DPut.t {H : Hp} {a b : Addr} {kvs : List (List Key × V)} {k : List Key} {v : V} (e : H a = some (.dT kvs)) (eb : H b = some (.tup (k.map kV))) (hl : kvs.length < sizeLine) :
    DPut H a (.ref b) v (upd H a (.dT (putK kvs k v))) := .inr ⟨kvs, k, b, e, rfl, eb, hl, rfl⟩

section
variable {X : Cx} {pins : List (Addr × Obj)} {σ : St} {H : Hp} {s : Shared} {a : Addr} {y v : V} {u r : Value} {o : Option V} {A : Around} {E : Value → Shared → Prop}

theorem Inv.big (I : Inv X pins σ H s) : sysModules < s.heap.objs.size := by
  have h : mainGlobals < s.heap.objs.size := (I.mod.glob.keeps I.bk).lt
  exact Nat.lt_trans (by decide) h

/-- d[y], there -/
theorem d_getItem {Q : Value → Shared → Prop} (hu : A.units + 1 < cLine) (I : Inv X pins σ H s) (g : DGet H a y (some v)) (ry : RelV y u) (h : ∀ w' s', Inv X pins σ H s' → RelV v w' → Q w' s') :
    wpAny (model X.prog X.w) A (getItem (.ref a) u) Q E s := by
  rcases g with ⟨kvs, k, e, ey, l⟩ | ⟨kvs, k, b, e, ey, eb, l⟩
  · subst ey
    obtain ⟨z, hd, vs, rel, dd⟩ := dk_rd I.hok e
    obtain ⟨w', hw, rw'⟩ := RelO.some_of (v := v) (o := valueAt vs k) (by rw [l]; exact rel.val k)
    exact wpAny_getItem_of (kV_is ry) dd.mapOf hw (h w' _ (I.tok _) rw')
  · subst ey
    cases (show u = Value.ref b from ry)
    obtain ⟨z, hd, xs, rel, dd⟩ := dt_rd I.hok e
    obtain ⟨w', hw, rw'⟩ := RelO.some_of (v := v) (o := (atKey xs k).map (·.2)) (by rw [l]; exact rel.val k)
    obtain ⟨p, hp, hp2⟩ := Option.map_eq_some_iff.mp hw
    refine wpAny_getItem_heap (tupleKind_room_in1 hu) (key_of I.hok eb) dd hp ?_
    rw [hp2]
    exact h w' _ (I.tok _) rw'
/-- y in d -/
theorem d_in {Q : Value → Shared → Prop} (hu : A.units + 1 < cLine) (I : Inv X pins σ H s) (g : DGet H a y o) (ry : RelV y u) (h : ∀ s', Inv X pins σ H s' → Q (.bool o.isSome) s') :
    wpAny (model X.prog X.w) A (compareOp .In u (.ref a)) Q E s := by
  rcases g with ⟨kvs, k, e, ey, l⟩ | ⟨kvs, k, b, e, ey, eb, l⟩
  · subst ey
    obtain ⟨z, hd, vs, rel, dd⟩ := dk_rd I.hok e
    refine wpAny_in_of (kV_is ry) hd dd.mapOf ?_
    rw [← (rel.val k).isSome_eq, ← l]
    exact h _ (I.tok _)
  · subst ey
    cases (show u = Value.ref b from ry)
    obtain ⟨z, hd, xs, rel, dd⟩ := dt_rd I.hok e
    refine wpAny_in_heap (tupleKind_room_in1 hu) (key_of I.hok eb) hd dd ?_
    have q := (rel.val k).isSome_eq
    rw [Option.isSome_map] at q
    rw [← q, ← l]
    exact h _ (I.tok _)
theorem d_notIn {Q : Value → Shared → Prop} (hu : A.units + 1 < cLine) (I : Inv X pins σ H s) (g : DGet H a y o) (ry : RelV y u) (h : ∀ s', Inv X pins σ H s' → Q (.bool (!o.isSome)) s') :
    wpAny (model X.prog X.w) A (compareOp .NotIn u (.ref a)) Q E s := by
  rcases g with ⟨kvs, k, e, ey, l⟩ | ⟨kvs, k, b, e, ey, eb, l⟩
  · subst ey
    obtain ⟨z, hd, vs, rel, dd⟩ := dk_rd I.hok e
    refine wpAny_notIn_of (kV_is ry) hd dd.mapOf ?_
    rw [← (rel.val k).isSome_eq, ← l]
    exact h _ (I.tok _)
  · subst ey
    cases (show u = Value.ref b from ry)
    obtain ⟨z, hd, xs, rel, dd⟩ := dt_rd I.hok e
    refine wpAny_notIn_heap (tupleKind_room_in1 hu) (key_of I.hok eb) hd dd ?_
    have q := (rel.val k).isSome_eq
    rw [Option.isSome_map] at q
    rw [← q, ← l]
    exact h _ (I.tok _)
/-- a dict's object is replaced -/
theorem d_write {h' : Heap} {t' : Nat} {ob : HO} (I : Inv X pins σ H s) (mu : Mut (H a)) (hs : Heap.SameBut a s.heap h') (he : ∃ q, h'.get? a = some q) (new : ObjOk X.prog X.w (upd H a ob) h' a ob) :
    Inv X pins σ (upd H a ob) { s with heap := h', toks := t' } :=
  I.write (x := a) (e := a) mu (.inl rfl) (fun b q hb z => (hs.2 b hb).trans z) he new
theorem dk_new {P : Program} {w : World} {H' : Hp} {h' : Heap} {kvs : List (Key × V)} {vs : List (Key × Value)} (z : kvs.length ≤ sizeLine) (hd : (a == sysModules) = false) (rel : KV kvs vs) (dd : h'.DictOf (mixKind P w) a vs) :
    ObjOk P w H' h' a (.dK kvs) := ⟨z, hd, vs, rel, dd⟩
/-- d[y] = v -/
theorem d_setItem {H' : Hp} {Q : Unit → Shared → Prop} (hu : A.units + 1 < cLine) (I : Inv X pins σ H s) (g : DPut H a y v H') (ry : RelV y u) (rv : RelV v r) (h : ∀ s', Inv X pins σ H' s' → Q () s') :
    wpAny (model X.prog X.w) A (setItem (.ref a) u r) Q E s := by
  rcases g with ⟨kvs, k, e, ey, l, eH⟩ | ⟨kvs, k, b, e, ey, eb, l, eH⟩
  · subst ey eH
    obtain ⟨z, hd, vs, rel, dd⟩ := dk_of I.hok e
    have hz : vs.length ≤ sizeLine := by rw [← rel.length]; exact z
    have hl : (putK kvs k v).length ≤ sizeLine := by have := length_putK kvs k v; omega
    refine wpAny_setItem_pairs (hsz := hz) (kV_is ry) dd fun h' dd' hs => h _ ?_
    have he : ∃ q, h'.get? a = some q := let ⟨q, _, _, hq, _⟩ := dd'; ⟨q, hq⟩
    exact d_write I (by rw [e]; exact True.intro) hs he (dk_new hl hd (rel.put k rv) dd')
  · subst ey eH
    cases (show u = Value.ref b from ry)
    obtain ⟨z, hd, xs, rel, dd⟩ := dt_of I.hok e
    have hz : xs.length ≤ sizeLine := by rw [← Paired.length rel]; exact z
    have hl : (putK kvs k v).length ≤ sizeLine := by have := length_putK kvs k v; omega
    refine wpAny_setItem_heap (hsz := hz) (tupleKind_room_in1 hu) (key_of I.hok eb) dd fun h' dd' hs => h _ ?_
    obtain ⟨q, es, ep, hq, h2, h3, h4, _, h5⟩ := dd'
    refine d_write I (by rw [e]; exact True.intro) hs ⟨q, hq⟩ ⟨hl, hd, _, (rel.put k eb rv).keeps fun c ys ec => ?_, q, es, ep, hq, h2, h3, h4, h5⟩
    rw [upd_ne (ne_of ec e (fun z => nomatch z))]
    exact ec
end

section
variable {X : Cx} {pins : List (Addr × Obj)} {σ : St} {H : Hp} {s : Shared} {a : Addr} {kvs : List (Key × V)} {k : Key} {u : Value} {A : Around} {E : Value → Shared → Prop}
/-- del d[k] -/
theorem d_delItem {Q : Unit → Shared → Prop} (I : Inv X pins σ H s) (e : H a = some (.dK kvs)) (ry : RelV (kV k) u) (l : (valV kvs k).isSome = true) (h : ∀ s', Inv X pins σ (upd H a (.dK (dropK kvs k))) s' → Q () s') :
    wpAny (model X.prog X.w) A (delItem (.ref a) u) Q E s := by
  obtain ⟨z, hd, vs, rel, dd⟩ := dk_of I.hok e
  refine wpAny_delItem_slot dd.typeIs (by decide) PySem.F.slot_dict_delitem
    (call_meetsIn PySem.F.slot_dict_delitem dd.typeIs PySem.F.entry_dict_delitem (PySem.F.args_dict_delitem_2 _ _) (meets_dict_delitem_pairs (mixKind X.prog X.w) a (kV_is ry)) ⟨vs, dd, by rw [← rel.length]; exact z, by rw [← (rel.val k).isSome_eq]; exact l, fun h' dd' hs => h _ ?_⟩)
  have he : ∃ q, h'.get? a = some q := let ⟨q, _, _, hq, _⟩ := dd'; ⟨q, hq⟩
  exact d_write I (by rw [e]; exact True.intro) hs he (dk_new (Nat.le_trans (dropK_le kvs k) z) hd (rel.drop k) dd')
/-- d.pop(k[, x]), there -/
theorem d_pop {v : V} {more : List Value} {Q : Value → Shared → Prop} (I : Inv X pins σ H s) (e : H a = some (.dK kvs)) (ry : RelV (kV k) u) (l : valV kvs k = some v) (hm : more = [] ∨ ∃ x, more = [x])
    (h : ∀ w' s', Inv X pins σ (upd H a (.dK (dropK kvs k))) s' → RelV v w' → Q w' s') : wpAny (model X.prog X.w) A (call (.builtin "dict.pop") (.ref a :: u :: more)) Q E s := by
  obtain ⟨z, hd, vs, rel, dd⟩ := dk_of I.hok e
  obtain ⟨w', hw, rw'⟩ := RelO.some_of (v := v) (o := valueAt vs k) (by rw [← l]; exact rel.val k)
  have hp : (keyPart u).isSome = true := by
    cases k with
    | inl i => obtain ⟨t, q⟩ := (show ∃ t, u = Value.int i t from ry); subst q; rfl
    | inr x => obtain ⟨t, q⟩ := (show ∃ t, u = Value.str x t from ry); subst q; rfl
  have ha : argsOk "dict.pop" ⟨.ref a :: u :: more, []⟩ := by
    rcases hm with q | ⟨x, q⟩
    · subst q; exact PySem.F.args_dict_pop_2 _ _
    · subst q; exact PySem.F.args_dict_pop_3 _ _ _
  refine call_meetsIn PySem.F.slot_dict_pop dd.typeIs PySem.F.entry_dict_pop ha (meets_dict_pop_there (mixKind X.prog X.w) a (kV_is ry) more hm hp)
    ⟨vs, w', dd, by rw [← rel.length]; exact z, hw, fun h' dd' hs => h w' _ ?_ rw'⟩
  have he : ∃ q, h'.get? a = some q := let ⟨q, _, _, hq, _⟩ := dd'; ⟨q, hq⟩
  exact d_write I (by rw [e]; exact True.intro) hs he (dk_new (Nat.le_trans (dropK_le kvs k) z) hd (rel.drop k) dd')
/-- d.pop(k, x), not there -/
theorem d_popD {r : Value} {Q : Value → Shared → Prop} (I : Inv X pins σ H s) (e : H a = some (.dK kvs)) (ry : RelV (kV k) u) (l : valV kvs k = none) (h : ∀ s', Inv X pins σ H s' → Q r s') :
    wpAny (model X.prog X.w) A (call (.builtin "dict.pop") [.ref a, u, r]) Q E s := by
  obtain ⟨z, hd, vs, rel, dd⟩ := dk_of I.hok e
  have hn : valueAt vs k = none := RelO.none_of (by rw [← l]; exact rel.val k)
  have hp : (keyPart u).isSome = true := by
    cases k with
    | inl i => obtain ⟨t, q⟩ := (show ∃ t, u = Value.int i t from ry); subst q; rfl
    | inr x => obtain ⟨t, q⟩ := (show ∃ t, u = Value.str x t from ry); subst q; rfl
  exact call_meetsIn PySem.F.slot_dict_pop dd.typeIs PySem.F.entry_dict_pop (PySem.F.args_dict_pop_3 _ _ _) (meets_dict_pop_default (mixKind X.prog X.w) a (kV_is ry) hd hp r) ⟨vs, dd, hn, h _ (I.tok _)⟩
/-- d.clear() -/
theorem d_clear {Q : Value → Shared → Prop} (I : Inv X pins σ H s) (e : H a = some (.dK kvs)) (h : ∀ s', Inv X pins σ (upd H a (.dK [])) s' → Q .none s') : wpAny (model X.prog X.w) A (call (.builtin "dict.clear") [.ref a]) Q E s := by
  obtain ⟨z, hd, vs, rel, dd⟩ := dk_of I.hok e
  refine call_meetsIn PySem.F.slot_dict_clear dd.typeIs PySem.F.entry_dict_clear (PySem.F.args_dict_clear_1 _) (meets_dict_clear (mixKind X.prog X.w) a) ⟨vs, dd, by rw [← rel.length]; exact z, fun h' dd' hs => h _ ?_⟩
  have he : ∃ q, h'.get? a = some q := let ⟨q, _, _, hq, _⟩ := dd'; ⟨q, hq⟩
  exact d_write (t' := s.toks) I (by rw [e]; exact True.intro) hs he (dk_new (Nat.zero_le _) hd .nil dd')
/-- len(d) -/
theorem d_len {Q : Value → Shared → Prop} (I : Inv X pins σ H s) (e : Rd H a (.dK kvs)) (h : ∀ t s', Inv X pins σ H s' → Q (.int kvs.length t) s') : wpAny (model X.prog X.w) A (call (.builtin "len") [.ref a]) Q E s := by
  obtain ⟨z, hd, vs, rel, dd⟩ := dk_rd I.hok e
  refine call_len_dict hd dd (by rw [← rel.length]; rw [sizeLine_eq] at z; omega) ?_
  rw [← rel.length]
  exact h _ _ (I.tok _)
/-- if d -/
theorem d_truth {Q : Bool → Shared → Prop} (I : Inv X pins σ H s) (e : Rd H a (.dK kvs)) (h : ∀ s', Inv X pins σ H s' → Q (!kvs.isEmpty) s') : wpAny (model X.prog X.w) A (truthy (.ref a)) Q E s := by
  obtain ⟨z, hd, vs, rel, dd⟩ := dk_rd I.hok e
  refine wpAny_truthy_dict hd dd (by rw [← rel.length]; rw [sizeLine_eq] at z; omega) ?_
  have q : kvs.isEmpty = vs.isEmpty := by cases rel <;> rfl
  rw [← q]
  exact h _ (I.tok _)
end

/-! ### readings and rules -/
/-- the element of a subscription, not a slice -/
def NoSl (i : Expr) : Prop := ∀ ov iv, subscripted i false ov iv = operate [ov, iv] (getItem ov iv)
theorem subD_of {prog : Program} {w : World} {A : Around} {E : Value → Shared → Prop} {s : Shared} {env : Env} {value slice : Expr} {pos : Pos} {T id : String} {Q : Value → Shared → Prop}
    (hl : typeLookup (.type T) "__getitem__" = pure (some (.builtin id))) (hs : NoSl slice)
    (h : wpAny (model prog w) A (eval value env) (fun o s₁ => wpAny (model prog w) A (eval slice env) (fun i s₂ => s₂.TypeIs o T ∧ wpAny (model prog w) A (getItem o i) Q E s₂) E s₁) E s) :
    wpAny (model prog w) A (eval (.Subscript value slice pos) env) Q E s := by
  refine Subscript_ (wpAny_mono h (fun o s₁ h₁ => wpAny_mono h₁ (fun i s₂ h₂ => ?_) fun _ _ x => x) fun _ _ x => x)
  obtain ⟨hT, h₂⟩ := h₂
  unfold subscriptTail
  refine wpAny_bind ?_
  rw [getitemInPython_of_ne hT.not_modules]
  refine wpAny_bind (wpAny_specialOf hT hl ?_)
  have fin : wpAny (model prog w) A (subscripted slice false o i) (fun r s₃ => wpAny (model prog w) A (letTemporaryGo value o r >>= fun _ => pure r) Q E s₃) E s₂ := by
    rw [hs o i]
    exact wpAny_operating (wpAny_mono h₂ (fun r s₃ h₃ => wpAny_bind (wpAny_letTemporaryGo (wpAny_pure h₃))) fun _ _ x => x)
  first
    | exact wpAny_pure (wpAny_bind fin)
    | exact wpAny_bind (wpAny_pure (wpAny_bind fin))
    | exact wpAny_bind fin

theorem dict_typeIs {X : Cx} {pins : List (Addr × Obj)} {σ : St} {H : Hp} {s : Shared} {a : Addr} {y : V} {o : Option V} (I : Inv X pins σ H s) (g : DGet H a y o) : s.TypeIs (.ref a) "dict" := by
  rcases g with ⟨kvs, k, e, _, _⟩ | ⟨kvs, k, b, e, _, _, _⟩
  · obtain ⟨_, _, vs, _, dd⟩ := dk_rd I.hok e
    exact dd.typeIs
  · obtain ⟨_, _, xs, _, dd⟩ := dt_rd I.hok e
    exact dd.typeIs
theorem dict_noDict {X : Cx} {pins : List (Addr × Obj)} {σ : St} {H : Hp} {s : Shared} {a : Addr} {y : V} {o : Option V} (I : Inv X pins σ H s) (g : DGet H a y o) :
    ∀ b, Value.ref a = .ref b → ∃ ob, s.heap.get? b = some ob ∧ ob.dict = none := fun b q => by
  cases q
  rcases g with ⟨kvs, k, e, _, _⟩ | ⟨kvs, k, b, e, _, _, _⟩
  · obtain ⟨_, _, vs, _, ob, _, _, h1, h2, _⟩ := dk_rd I.hok e
    exact ⟨ob, h1, h2.2.1⟩
  · obtain ⟨_, _, xs, _, ob, _, _, h1, h2, _⟩ := dt_rd I.hok e
    exact ⟨ob, h1, h2.2.1⟩

/-- d[y] -/
def tDGet (td ty : TE) : TE := fun σ H Q => td σ H fun x H1 => ty σ H1 fun y H2 => ∃ a v, x = .ref a ∧ DGet H2 a y (some v) ∧ Q v H2
/-- y in d, y not in d -/
def tDIn (ty td : TE) : TE := fun σ H Q => ty σ H fun y H1 => td σ H1 fun x H2 => ∃ a o, x = .ref a ∧ DGet H2 a y o ∧ Q (.bl o.isSome) H2
def tDNotIn (ty td : TE) : TE := fun σ H Q => ty σ H fun y H1 => td σ H1 fun x H2 => ∃ a o, x = .ref a ∧ DGet H2 a y o ∧ Q (.bl (!o.isSome)) H2
/-- d[y] = v -/
def sDPut (td ty tv : TE) : TS := fun D σ H => tv σ H fun v H1 => td σ H1 fun x H2 => ty σ H2 fun y H3 => ∃ a H4, x = .ref a ∧ DPut H3 a y v H4 ∧ D.nx σ H4
/-- d[y] op= v -/
def sDAug (td ty tv : TE) (rd : V → V → Hp → VK → Prop) : TS := fun D σ H => td σ H fun x H1 => ty σ H1 fun y H2 => ∃ a v, x = .ref a ∧ DGet H2 a y (some v) ∧
  tv σ H2 fun y2 H3 => rd v y2 H3 fun z H4 => ∃ H5, DPut H4 a y z H5 ∧ D.nx σ H5
/-- del d[y] -/
def sDDel (td ty : TE) : TS := fun D σ H => td σ H fun x H1 => ty σ H1 fun y H2 => ∃ a kvs k, x = .ref a ∧ H2 a = some (.dK kvs) ∧ y = kV k ∧ (valV kvs k).isSome = true ∧ D.nx σ (upd H2 a (.dK (dropK kvs k)))

section
variable {X : Cx} {o i e value : Expr} {pos pos' tpos : Pos} {td ty tv : TE}
theorem pe_dget (hu : X.A.units + 1 < cLine) (ho : PE X o td) (hi : PE X i ty) (hs : NoSl i) : PE X (.Subscript o i pos) (tDGet td ty) := by
  intro pins s σ H Q I h
  refine subD_of PySem.F.slot_dict_getitem.lookup hs (thn (ho pins s σ H _ I h) fun u s1 ⟨x, H1, I1, rx, q1⟩ => thn (hi pins s1 σ H1 _ I1 q1) fun iv s2 ⟨y, H2, I2, ry, a, v, ex, g, q2⟩ => ?_)
  subst ex
  obtain rfl : u = Value.ref a := rx
  exact ⟨dict_typeIs I2 g, d_getItem hu I2 g ry fun w' s3 I3 rw' => ⟨v, H2, I3, rw', q2⟩⟩
theorem pc_din (hu : X.A.units + 1 < cLine) (hi : PE X i ty) (ho : PE X o td) : PC X .In i o (tDIn ty td) := by
  intro pins s σ H Q I h
  refine thn (hi pins s σ H _ I h) fun iv s1 ⟨y, H1, I1, ry, q1⟩ => thn (ho pins s1 σ H1 _ I1 q1) fun u s2 ⟨x, H2, I2, rx, a, ov, ex, g, q2⟩ => ?_
  subst ex
  obtain rfl : u = Value.ref a := rx
  exact d_in hu I2 g ry fun s3 I3 => ⟨.bl ov.isSome, H2, I3, rfl, q2⟩
theorem pc_dnotin (hu : X.A.units + 1 < cLine) (hi : PE X i ty) (ho : PE X o td) : PC X .NotIn i o (tDNotIn ty td) := by
  intro pins s σ H Q I h
  refine thn (hi pins s σ H _ I h) fun iv s1 ⟨y, H1, I1, ry, q1⟩ => thn (ho pins s1 σ H1 _ I1 q1) fun u s2 ⟨x, H2, I2, rx, a, ov, ex, g, q2⟩ => ?_
  subst ex
  obtain rfl : u = Value.ref a := rx
  exact d_notIn hu I2 g ry fun s3 I3 => ⟨.bl (!ov.isSome), H2, I3, rfl, q2⟩
theorem ps_dput (hu : X.A.units + 1 < cLine) (ho : PE X o td) (hi : PE X i ty) (hv : PE X value tv) (hs : swapsWith value (some (.Subscript o i pos')) pos.line X.env = pure false) :
    PS X (.Assign [.Subscript o i pos'] value pos) (sDPut td ty tv) := by
  intro pins s σ H D I h
  refine wpAny_Assign_Subscript (thn (hv pins s σ H _ I h) fun r s1 ⟨v, H1, I1, rv, q1⟩ => thn (ho pins s1 σ H1 _ I1 q1) fun u s2 ⟨x, H2, I2, rx, q2⟩ => thn (hi pins s2 σ H2 _ I2 q2) fun iv s3 ⟨y, H3, I3, ry, a, H4, ex, g, q3⟩ => ?_) hs
  subst ex
  obtain rfl : u = Value.ref a := rx
  exact d_setItem hu I3 g ry rv fun s4 I4 => ⟨σ, H4, I4, q3⟩
theorem ps_daug {op : Operator} {rd : V → V → Hp → VK → Prop} (hu : X.A.units + 1 < cLine) (ho : PE X o td) (hi : PE X i ty) (hv : PE X value tv) (hop : InOp X op rd)
    (ha : ∀ ov iv new, augStore i ov iv new = (do holding [new, ov, iv] (setItem ov iv new); release [new, ov, iv] []; pure .next)) : PS X (.AugAssign (.Subscript o i tpos) op value pos) (sDAug td ty tv rd) := by
  intro pins s σ H D I h
  refine wpAny_AugAssign_SubscriptAny (thn (ho pins s σ H _ I h) fun u s1 ⟨x, H1, I1, rx, q1⟩ => thn (hi pins s1 σ H1 _ I1 q1) fun iv s2 ⟨y, H2, I2, ry, a, v, ex, g, q2⟩ => ?_) ha
  subst ex
  obtain rfl : u = Value.ref a := rx
  refine d_getItem hu I2 g ry fun w' s3 I3 rw' => thn (hv pins s3 σ H2 _ I3 q2) fun w2 s4 ⟨y2, H3, I4, ry2, q3⟩ => thn (hop pins s4 σ H3 v y2 w' w2 _ I4 rw' ry2 q3) fun w3 s5 ⟨z, H4, I5, rz, H5, g5, q4⟩ => ?_
  exact d_setItem hu I5 g5 ry rz fun s6 I6 => ⟨σ, H5, I6, q4⟩
theorem ps_ddel (ho : PE X o td) (hi : PE X i ty) : PS X (.Delete [.Subscript o i tpos] pos) (sDDel td ty) := by
  intro pins s σ H D I h
  refine wpAny_Delete (wpAny_deleteEach_cons (wpAny_delete_Subscript (thn (ho pins s σ H _ I h) fun u s1 ⟨x, H1, I1, rx, q1⟩ => thn (hi pins s1 σ H1 _ I1 q1) fun iv s2 ⟨y, H2, I2, ry, a, kvs, k, ex, e, ey, l, q2⟩ => ?_)))
  subst ex ey
  obtain rfl : u = Value.ref a := rx
  exact d_delItem I2 e ry l fun s3 I3 => wpAny_deleteEach_nil ⟨σ, _, I3, q2⟩
end

/-! ### displays -/
theorem dk_empty {P : Program} {w : World} {H : Hp} (h : Heap) (hb : sysModules < h.objs.size) : ObjOk P w H (h.push { cls := .type "dict", data := .dict #[] }) h.objs.size (.dK []) :=
  ⟨Nat.zero_le _, beq_eq_false_iff_ne.mpr (Ne.symm (Nat.ne_of_lt hb)), [], .nil, Heap.DictOf.new h⟩
theorem dt_empty {P : Program} {w : World} {H : Hp} (h : Heap) (hb : sysModules < h.objs.size) : ObjOk P w H (h.push { cls := .type "dict", data := .dict #[] }) h.objs.size (.dT []) :=
  ⟨Nat.zero_le _, beq_eq_false_iff_ne.mpr (Ne.symm (Nat.ne_of_lt hb)), [], .nil, _, #[], 0, Heap.get?_push_size _ rfl, ⟨rfl, rfl, rfl⟩, rfl, rfl, List.nodup_nil⟩
/-- {}, to be a dict of the kind that is wanted -/
def tDNewK : TE := fun _ H Q => ∀ p, H p = none → Q (.ref p) (upd H p (.dK []))
def tDNewT : TE := fun _ H Q => ∀ p, H p = none → Q (.ref p) (upd H p (.dT []))
section
variable {X : Cx} {pos : Pos}
theorem pe_dnewK : PE X (.Dict [] [] pos) tDNewK := fun pins s σ H Q I h =>
  wpAny_Dict_empty ⟨.ref s.heap.objs.size, _, I.laid (a := s.heap.objs.size) (o := .dK []) (t' := s.toks) (fun _ _ q => Heap.get?_push_of_some _ q) (Nat.le_refl _) (dk_empty s.heap I.big), rfl, h _ (I.hok.fresh (Nat.le_refl _))⟩
theorem pe_dnewT : PE X (.Dict [] [] pos) tDNewT := fun pins s σ H Q I h =>
  wpAny_Dict_empty ⟨.ref s.heap.objs.size, _, I.laid (a := s.heap.objs.size) (o := .dT []) (t' := s.toks) (fun _ _ q => Heap.get?_push_of_some _ q) (Nat.le_refl _) (dt_empty s.heap I.big), rfl, h _ (I.hok.fresh (Nat.le_refl _))⟩
end

/-- the pairs of a display, from the left -/
def tPairs : List (TE × TE) → St → Hp → (List (V × V) → Hp → Prop) → Prop
  | [], _, H, Q => Q [] H
  | (tk, tv) :: r, σ, H, Q => tk σ H fun x H1 => tv σ H1 fun y H2 => tPairs r σ H2 fun ps H3 => Q ((x, y) :: ps) H3
abbrev VV : List (V × V) → List (Value × Value) → Prop := Paired fun p q => RelV p.1 q.1 ∧ RelV p.2 q.2
def PPs (X : Cx) (pos : Pos) (keys : List (Option Expr)) (values : List Expr) (trs : List (TE × TE)) : Prop :=
  ∀ (pins : List (Addr × Obj)) (s : Shared) (σ : St) (H : Hp) (Q : List (V × V) → Hp → Prop), Inv X pins σ H s → tPairs trs σ H Q →
    wpAny (model X.prog X.w) X.A (evalPairs (pairTrees keys values X.env pos)) (fun vs s' => ∃ ps H', Inv X pins σ H' s' ∧ VV ps vs ∧ Q ps H') X.xe s
theorem pps_nil {X : Cx} {pos : Pos} : PPs X pos [] [] [] := fun pins s σ H Q I h => pairTrees_nil_walk ⟨[], H, I, .nil, h⟩
theorem pps_cons {X : Cx} {pos : Pos} {k v : Expr} {ks : List (Option Expr)} {vs : List Expr} {tk tv : TE} {trs : List (TE × TE)} (hk : PE X k tk) (hv : PE X v tv) (hr : PPs X pos ks vs trs) :
    PPs X pos (some k :: ks) (v :: vs) ((tk, tv) :: trs) := fun pins s σ H Q I h =>
  pairTrees_cons_walk (thn (hk pins s σ H _ I h) fun u s1 ⟨x, H1, I1, rx, q1⟩ => thn (hv pins s1 σ H1 _ I1 q1) fun w2 s2 ⟨y, H2, I2, ry, q2⟩ =>
    thn (hr pins s2 σ H2 _ I2 q2) fun ws s3 ⟨ps, H3, I3, rel, q3⟩ => ⟨(x, y) :: ps, H3, I3, .cons ⟨rx, ry⟩ rel, q3⟩)

def mergeK (kvs more : List (Key × V)) : List (Key × V) := more.foldl (fun acc kv => putK acc kv.1 kv.2) kvs
theorem KV.merge : ∀ {more : List (Key × V)} {rs : List (Key × Value)} {kvs : List (Key × V)} {vs : List (Key × Value)}, KV more rs → KV kvs vs → KV (mergeK kvs more) (merged vs rs) := by
  intro more rs kvs vs r
  unfold KV at r
  induction r generalizing kvs vs with
  | nil => intro q; exact q
  | @cons p q ps qs h t ih =>
    intro r0
    have e : KV (putK kvs p.1 p.2) (stored vs q.1 q.2) := by
      have := r0.put p.1 h.2
      rw [← h.1]; exact this
    exact ih e
theorem length_mergeK : ∀ (more kvs : List (Key × V)), (mergeK kvs more).length ≤ kvs.length + more.length
  | [], kvs => by show kvs.length ≤ kvs.length + 0; omega
  | p :: r, kvs => by
    have h1 := length_mergeK r (putK kvs p.1 p.2)
    have h2 := length_putK kvs p.1 p.2
    show (mergeK (putK kvs p.1 p.2) r).length ≤ _
    rw [List.length_cons]; omega
theorem carries_of {P : Program} {w : World} : ∀ {kvs : List (Key × V)} {ws : List (Value × Value)}, VV (kvs.map fun kv => (kV kv.1, kv.2)) ws → ∃ rs, Carries (mixKind P w) ws rs ∧ KV kvs rs
  | [], _, r => by rw [List.map_nil] at r; cases r; exact ⟨[], True.intro, .nil⟩
  | p :: kvs, _, r => by
    rw [List.map_cons] at r
    cases r with
    | @cons a b as bs h t =>
      obtain ⟨rs, c, q⟩ := carries_of (P := P) (w := w) t
      obtain ⟨b1, b2⟩ := b
      exact ⟨(p.1, b2) :: rs, ⟨kV_is h.1, rfl, c⟩, .cons ⟨rfl, h.2⟩ q⟩
/-- {k: v, ..} with keys ints and texts; the new dict stands empty while the pairs are made -/
def tDisp (trs : List (TE × TE)) : TE := fun σ H Q => ∀ p, H p = none → tPairs trs σ (upd H p (.dK [])) fun ps H2 => H2 p = some (.dK []) ∧ ∃ kvs : List (Key × V), ps = kvs.map (fun kv => (kV kv.1, kv.2)) ∧ kvs.length ≤ 15 ∧ Q (.ref p) (upd H2 p (.dK (mergeK [] kvs)))
theorem pe_disp {X : Cx} {pos : Pos} {keys : List (Option Expr)} {values : List Expr} {trs : List (TE × TE)} (h : PPs X pos keys values trs) (hall : keys.all (·.isSome) = true) (hl : keys.length = values.length) (h0 : keys ≠ [])
    (h15 : keys.length ≤ 15) : PE X (.Dict keys values pos) (tDisp trs) := by
  intro pins s σ H Q I q
  have hn := I.hok.fresh (Nat.le_refl s.heap.objs.size)
  have I1 := I.laid (a := s.heap.objs.size) (o := .dK []) (h' := s.heap.push { cls := .type "dict", data := .dict #[] }) (t' := s.toks) (fun _ _ q => Heap.get?_push_of_some _ q) (Nat.le_refl _) (dk_empty s.heap I.big)
  refine wpAny_Dict_walk (knd := mixKind X.prog X.w) hall hl h0 h15 (thn (h pins _ σ _ _ I1 (q _ hn)) fun ws s2 ⟨ps, H2, I2, rel, e, kvs, ep, lk, q2⟩ => ?_)
  subst ep
  obtain ⟨rs, c, rk⟩ := carries_of (P := X.prog) (w := X.w) rel
  obtain ⟨z, hd, vs0, r0, dd⟩ := dk_of I2.hok e
  cases r0
  refine ⟨rs, c, dd, fun h' dd' hs => ⟨.ref s.heap.objs.size, _, ?_, rfl, q2⟩⟩
  have hz : (mergeK [] kvs).length ≤ sizeLine := by
    have h1 := length_mergeK kvs []
    rw [List.length_nil] at h1
    rw [sizeLine_eq]; omega
  have he : ∃ q, h'.get? s.heap.objs.size = some q := let ⟨q, _, _, hq, _⟩ := dd'; ⟨q, hq⟩
  exact d_write I2 (by rw [e]; exact True.intro) hs he (dk_new hz hd (rk.merge .nil) dd')

end L2

namespace Bt
open PySem PySem.Spec PyProof.Rows L2 Ext
section
variable {X : Cx}
theorem hu1 {a c : Nat} (h : a + 64 < c) : a + 1 < c := by omega
/-! ### is, is not of truths -/
theorem op_is_b : OpR X (compareOp .Is) (fun x y H Q => ∃ a b : Bool, x = .bl a ∧ y = .bl b ∧ Q (.bl (decide (a = b))) H) := by
  intro pins s σ H x y v u Q I rx ry h
  obtain ⟨a, b, rfl, rfl, q⟩ := h
  cases rx
  cases ry
  refine wpAny_is_plain rfl ⟨.bl (decide (a = b)), H, I, ?_, q⟩
  show Value.bool (Value.bool a == Value.bool b) = Value.bool (decide (a = b))
  cases a <;> cases b <;> rfl
theorem op_isnot_b : OpR X (compareOp .IsNot) (fun x y H Q => ∃ a b : Bool, x = .bl a ∧ y = .bl b ∧ Q (.bl (!decide (a = b))) H) := by
  intro pins s σ H x y v u Q I rx ry h
  obtain ⟨a, b, rfl, rfl, q⟩ := h
  cases rx
  cases ry
  refine wpAny_isNot_plain rfl ⟨.bl (!decide (a = b)), H, I, ?_, q⟩
  show Value.bool (!(Value.bool a == Value.bool b)) = Value.bool (!decide (a = b))
  cases a <;> cases b <;> rfl
end
/-! ### words that grow -/
def gr (f : Nat → List Nat) : Nat → List Nat
  | 0 => [97]
  | k + 1 => (gr f k).flatMap f
def fA (c : Nat) : List Nat := if c = 97 then [97, 98, 99] else if c = 98 then [97, 99] else [98]
def fB (c : Nat) : List Nat := if c = 97 then [97, 98] else [98, 97]
structure Grow (f : Nat → List Nat) (kvs : List (Key × V)) : Prop where
  at' : ∀ k, k ≤ 5 → ∀ c ∈ gr f k, valV kvs (Sum.inr (ofL [c])) = some (.str (ofL (f c)))
  small : ∀ c, (f c).length ≤ 3
  len : ∀ k, k ≤ 6 → (gr f k).length ≤ 100
  long : 60 ≤ (gr f 6).length
  pre : ∀ k, k ≤ 6 → gr f k = (gr f 6).take (gr f k).length
def kvA : List (Key × V) := [(Sum.inr "a", .str "abc"), (Sum.inr "b", .str "ac"), (Sum.inr "c", .str "b")]
def kvB : List (Key × V) := [(Sum.inr "a", .str "ab"), (Sum.inr "b", .str "ba")]
theorem gr_in {f : Nat → List Nat} {A : List Nat} (h0 : 97 ∈ A) (h : ∀ c ∈ A, ∀ d ∈ f c, d ∈ A) : ∀ k, ∀ c ∈ gr f k, c ∈ A
  | 0, c, hc => by
    have : c = 97 := by simpa [gr] using hc
    subst this; exact h0
  | k + 1, c, hc => by
    obtain ⟨b, hb, hc⟩ := List.mem_flatMap.mp hc
    exact h b (gr_in h0 h k b hb) c hc
theorem inA (k : Nat) : ∀ c ∈ gr fA k, c ∈ [97, 98, 99] := gr_in (by decide) (by decide) k
theorem inB (k : Nat) : ∀ c ∈ gr fB k, c ∈ [97, 98] := gr_in (by decide) (by decide) k
theorem lenA : ∀ k, k ≤ 6 → (gr fA k).length ≤ 100 := by decide +kernel
theorem lenB : ∀ k, k ≤ 6 → (gr fB k).length ≤ 100 := by decide +kernel
theorem preA : ∀ k, k ≤ 6 → gr fA k = (gr fA 6).take (gr fA k).length := by decide +kernel
theorem preB : ∀ k, k ≤ 6 → gr fB k = (gr fB 6).take (gr fB k).length := by decide +kernel
theorem growA : Grow fA kvA := by
  refine ⟨fun k _ c hc => ?_, fun c => ?_, lenA, by decide +kernel, preA⟩
  · have := inA k c hc
    simp only [List.mem_cons, List.not_mem_nil, or_false] at this
    rcases this with rfl | rfl | rfl <;> rfl
  · unfold fA; split
    · decide
    · split <;> decide
theorem growB : Grow fB kvB := by
  refine ⟨fun k _ c hc => ?_, fun c => ?_, lenB, by decide +kernel, preB⟩
  · have := inB k c hc
    simp only [List.mem_cons, List.not_mem_nil, or_false] at this
    rcases this with rfl | rfl <;> rfl
  · unfold fB; split <;> decide
def spGrown : Sp := fun vs H Q _ => ∃ (d : Addr) (kvs : List (Key × V)) (f : Nat → List Nat) (n : Nat), vs = [.ref d, .int (n : Nat)] ∧ H d = some (.dK kvs) ∧ n ≤ 60 ∧ Grow f kvs ∧ ∀ H', Same H H' → Q (.str (ofL ((gr f 6).take n))) H'
def spWord (f : Nat → List Nat) : Sp := fun vs H Q _ => ∃ n : Nat, vs = [.int (n : Nat)] ∧ n ≤ 60 ∧ ∀ H', Same H H' → Q (.str (ofL ((gr f 6).take n))) H'
/-! ### nothing twice over -/
theorem dbl_take {l : List Nat} {n : Nat} {q : Nat × Nat} (h : q ∈ Mth.dbl (l.take n)) : q ∈ Mth.dbl l := by
  obtain ⟨h1, h2, h3⟩ := Mth.mem_dbl h
  rw [List.length_take] at h2
  unfold Mth.dbl
  rw [Mth.mem_rows]
  refine ⟨by omega, h1, by omega, ?_⟩
  unfold Mth.isD'
  rw [Bool.and_eq_true, decide_eq_true_eq, decide_eq_true_eq]
  have e : ∀ a, a + q.2 ≤ n → ((l.take n).drop a).take q.2 = (l.drop a).take q.2 := fun a ha => by
    rw [List.drop_take, List.take_take, Nat.min_eq_left (by omega)]
  rw [e _ (by omega), e _ (by omega)] at h3
  exact ⟨by rw [List.length_take, List.length_drop]; omega, h3⟩
instance (l : List Nat) (q : Nat × Nat) : Decidable (Further l q) := by unfold Further; infer_instance
theorem further_take {l : List Nat} {n : Nat} {q : Nat × Nat} (h : Further (l.take n) q) : Further l q := by
  obtain ⟨h1, h2⟩ := h
  rw [List.length_take] at h1
  refine ⟨by omega, ?_⟩
  rw [List.getElem?_take, List.getElem?_take, if_pos (by omega), if_pos (by omega)] at h2
  exact h2
theorem freeA60 : Mth.dbl ((gr fA 6).take 60) = [] := by decide +kernel
theorem calmB60 : ∀ q ∈ Mth.dbl ((gr fB 6).take 60), ¬ Further ((gr fB 6).take 60) q := by decide +kernel
theorem freeA {n : Nat} (h : n ≤ 60) : Mth.dbl ((gr fA 6).take n) = [] := by
  have e : (gr fA 6).take n = ((gr fA 6).take 60).take n := by rw [List.take_take, Nat.min_eq_left h]
  rw [e]
  cases hq : Mth.dbl (((gr fA 6).take 60).take n) with
  | nil => rfl
  | cons q r =>
    have : q ∈ Mth.dbl ((gr fA 6).take 60) := dbl_take (n := n) (by rw [hq]; exact List.mem_cons_self)
    rw [freeA60] at this
    cases this
theorem calmB {n : Nat} (h : n ≤ 60) : ∀ q ∈ Mth.dbl ((gr fB 6).take n), ¬ Further ((gr fB 6).take n) q := by
  have e : (gr fB 6).take n = ((gr fB 6).take 60).take n := by rw [List.take_take, Nat.min_eq_left h]
  rw [e]
  intro q hq hf
  exact calmB60 q (dbl_take hq) (further_take hf)
theorem not_free {l : List Nat} (h : ∀ c ∈ l, c = 120 ∨ c = 121) (h4 : 4 ≤ l.length) : (Mth.dbl l).isEmpty = false := by
  have key : ∃ p k, 1 ≤ k ∧ p + 2 * k ≤ 4 ∧ (l.drop (p + k)).take k = (l.drop p).take k := by
    match l, h4, h with
    | a :: b :: c :: d :: r, _, h =>
      have ha := h a (by simp)
      have hb := h b (by simp)
      have hc := h c (by simp)
      have hd := h d (by simp)
      by_cases e1 : a = b
      · exact ⟨0, 1, by decide, by decide, by simp [e1]⟩
      · by_cases e2 : b = c
        · exact ⟨1, 1, by decide, by decide, by simp [e2]⟩
        · by_cases e3 : c = d
          · exact ⟨2, 1, by decide, by decide, by simp [e3]⟩
          · have f1 : a = c := by omega
            have f2 : b = d := by omega
            exact ⟨0, 2, by decide, by decide, by simp [f1, f2]⟩
  obtain ⟨p, k, k1, k2, e⟩ := key
  have hm : (p, k) ∈ Mth.dbl l := by
    unfold Mth.dbl
    rw [Mth.mem_rows]
    refine ⟨by show p < l.length; omega, k1, by show k ≤ l.length - 1; omega, ?_⟩
    unfold Mth.isD'
    rw [Bool.and_eq_true, decide_eq_true_eq, decide_eq_true_eq]
    exact ⟨by rw [List.length_take, List.length_drop]; show min k (l.length - p) = k; omega, e⟩
  cases hq : Mth.dbl l with
  | nil => rw [hq] at hm; cases hm
  | cons _ _ => rfl
theorem occ_abc : ∀ c ∈ [97, 98, 99], (Builtin.Str.occurrences "abc" (ofL [c]) 0 ("abc" : Str).length 1).isEmpty = false := by decide +kernel
theorem occ_ab : ∀ c ∈ [97, 98], (Builtin.Str.occurrences "ab" (ofL [c]) 0 ("ab" : Str).length 1).isEmpty = false := by decide +kernel
end Bt

namespace Bt
open PySem PySem.Spec PyProof.Rows L2 Ext
open AutoSeq1 (wpAny_loadPart')
/-! ### <= of two lists of ints, equally long -/
theorem ints_get : ∀ {vs : List Value} {ns : List Int} {i : Nat} (_ : IntsAre vs ns) (h : i < vs.length), ∃ k t, vs[i] = Value.int k t ∧ ns[i]? = some k
  | _, _, 0, .cons n t r, _ => ⟨n, t, rfl, rfl⟩
  | _, _, i + 1, .cons n t r, h => by
    obtain ⟨k, t', e1, e2⟩ := ints_get (i := i) r (by simpa using h)
    exact ⟨k, t', by simpa using e1, by simpa using e2⟩
theorem le_loop (l b : Addr) (items items2 : Array Value) (ns ms : List Int) (hi : IntsAre items.toList ns) (hj : IntsAre items2.toList ms) (n n2 : Nat) (dd dd2 : Option Addr) (sl sl2 : Array (Option Value)) (hsz : items.size = items2.size) (k : Nat) :
    ∀ i : Nat, items.size - i = k → Meets (Builtin.«list.__eq__.loop» ⟨[.ref l, .ref b, rawInt i, rawInt 1], []⟩)
      (fun A R s => s.heap.get? l = some { cls := .type "list", dict := dd, data := .seq items n, slots := sl } ∧ s.heap.get? b = some { cls := .type "list", dict := dd2, data := .seq items2 n2, slots := sl2 } ∧
        R (.ok (.ret (.bool (!HT.lexLt (ms.drop i) (ns.drop i))))) s) := by
  have l1 : ns.length = items.size := by have := hi.length; simpa using this.symm
  have l2 : ms.length = items2.size := by have := hj.length; simpa using this.symm
  induction k with
  | zero =>
    intro i hk prog w A R s h
    obtain ⟨hp, g, d, tk, os⟩ := s; obtain ⟨hl, hb, h⟩ := h
    wp_walk using wpAny_loadPart' hl, wpAny_loadPart' hb
    have hi1 : items[((i : Nat) : Int).toNat]? = none := by simp; omega
    have hi2 : items2[((i : Nat) : Int).toNat]? = none := by simp; omega
    rw [hi1, hi2]
    wp_walk using wpAny_loadPart' hl, wpAny_loadPart' hb
    show R (.ok (.ret (.bool (decide (items.size ≤ items2.size))))) _
    rw [decide_eq_true (by omega)]
    rw [List.drop_of_length_le (by omega), List.drop_of_length_le (by omega)] at h
    exact h
  | succ k ih =>
    intro i hk prog w A R s h
    obtain ⟨hp, g, d, tk, os⟩ := s; obtain ⟨hl, hb, h⟩ := h
    wp_walk using wpAny_loadPart' hl, wpAny_loadPart' hb
    have hlt : i < items.size := by omega
    have hlt2 : i < items2.size := by omega
    have hi1 : items[((i : Nat) : Int).toNat]? = some items[i] := by simp [hlt]
    have hi2 : items2[((i : Nat) : Int).toNat]? = some items2[i] := by simp [hlt2]
    obtain ⟨p, t, e1, e2⟩ := ints_get hi (i := i) (by simpa using hlt)
    obtain ⟨q, u, f1, f2⟩ := ints_get hj (i := i) (by simpa using hlt2)
    have e1' : items[i] = Value.int p t := by simpa using e1
    have f1' : items2[i] = Value.int q u := by simpa using f1
    have dn : ns.drop i = p :: ns.drop (i + 1) := by rw [List.drop_eq_getElem_cons (by omega)]; congr 1; exact (List.getElem?_eq_some_iff.mp e2).2
    have dm : ms.drop i = q :: ms.drop (i + 1) := by rw [List.drop_eq_getElem_cons (by omega)]; congr 1; exact (List.getElem?_eq_some_iff.mp f2).2
    have hc : ((i : Int) + 1) = ((i + 1 : Nat) : Int) := by push_cast; rfl
    rw [dn, dm, HT.lexLt_cons] at h
    rw [hi1, hi2, e1', f1']
    refine wpAny_bind (wpAny_eqBool_int ?_)
    by_cases c : p = q
    · rw [if_pos c.symm] at h
      rw [show (p == q) = true by simpa using c, if_pos rfl, hc]
      exact wpAny_pure ⟨plainId_quiet MeetsSeq3.plain_eq_loop _, codeAny_builtin MeetsSeq3.entry_eq_loop (by
        rw [Around.under_plainId MeetsSeq3.plain_eq_loop _]
        exact ih (i + 1) (by omega) prog w A R _ ⟨hl, hb, h⟩)⟩
    · rw [if_neg (fun z => c z.symm)] at h
      rw [show (p == q) = false by simpa using c, if_neg (by simp)]
      refine wpAny_bind (listItems_at hl rfl (wpAny_bind (listItems_at hb rfl ?_)))
      rw [hi1, hi2, e1', f1']
      refine wpAny_bind (m := richCompare .LtE (.int p t) (.int q u)) (show wpAny _ _ (compareOp .LtE (.int p t) (.int q u)) _ _ _ from le_int ?_)
      refine wpAny_pure ?_
      have e : (!decide (q < p)) = decide (p ≤ q) := by
        by_cases c2 : q < p
        · rw [decide_eq_true c2, decide_eq_false (by omega)]; rfl
        · rw [decide_eq_false c2, decide_eq_true (by omega)]; rfl
      rw [e] at h
      exact h
theorem le_meets (l b : Addr) (items items2 : Array Value) (ns ms : List Int) (hi : IntsAre items.toList ns) (hj : IntsAre items2.toList ms) (n n2 : Nat) (dd dd2 : Option Addr) (sl sl2 : Array (Option Value)) (hsz : items.size = items2.size) :
    Meets (Builtin.«list.__le__» ⟨[.ref l, .ref b], []⟩)
      (fun A R s => s.heap.get? l = some { cls := .type "list", dict := dd, data := .seq items n, slots := sl } ∧ s.heap.get? b = some { cls := .type "list", dict := dd2, data := .seq items2 n2, slots := sl2 } ∧
        R (.ok (.ret (.bool (!HT.lexLt ms ns)))) s) := by
  intro prog w A R s h
  obtain ⟨hp, g, d, tk, os⟩ := s; obtain ⟨hl, hb, h⟩ := h
  refine wpAny_bind (m := isInstance (.ref b) (.type "list")) (wpAny_isInstance (T := "list") ⟨_, hb, rfl⟩ AutoSeq1.sub_list_list ?_)
  rw [if_neg (by simp), if_neg (by decide)]
  exact wpAny_pure ⟨plainId_quiet MeetsSeq3.plain_eq_loop _, codeAny_builtin MeetsSeq3.entry_eq_loop (by
    rw [Around.under_plainId MeetsSeq3.plain_eq_loop _]
    exact le_loop l b items items2 ns ms hi hj n n2 dd dd2 sl sl2 hsz _ 0 rfl prog w A R _ ⟨hl, hb, h⟩)⟩
theorem op_leL {X : Cx} {K : PySem.W.Frag} (hK : X.K = K) (hu : X.A.units < cLine) : OpR X (compareOp .LtE) (fun x y H Q => ∃ (a b : Addr) (ns ms : List Int), x = .ref a ∧ y = .ref b ∧ SqL K H a (ns.map V.int) ∧ SqL K H b (ms.map V.int) ∧ ns.length = ms.length ∧ Q (.bl (!HT.lexLt ms ns)) H) := by
  subst hK
  intro pins s σ H x y v u Q I rx ry h
  obtain ⟨a, b, ns, ms, rfl, rfl, ha, hb, hl, q⟩ := h
  cases rx
  cases ry
  obtain ⟨us, r1, p1, _⟩ := I.list ha
  obtain ⟨vs, r2, p2, _⟩ := I.list hb
  have i1 : IntsAre us.toArray.toList ns := by simpa using (intsAre_of r1)
  have i2 : IntsAre vs.toArray.toList ms := by simpa using (intsAre_of r2)
  obtain ⟨⟨cls, dd, data, sl⟩, ho, hc, n, hd⟩ := id p1.isList
  obtain ⟨⟨cls2, dd2, data2, sl2⟩, ho2, hc2, n2, hd2⟩ := id p2.isList
  simp only at hc hd hc2 hd2
  subst hc hd hc2 hd2
  have e1 := i1.length
  have e2 := i2.length
  have hz : us.toArray.size = vs.toArray.size := by
    simp only [List.size_toArray]
    simp only at e1 e2
    omega
  exact richCompare_meets_room (op := .LtE) ⟨_, ho, rfl⟩ ⟨_, ho2, rfl⟩ PySem.F.slot_list_le PySem.F.entry_list_le (PySem.F.args_list_le_2 _ _) (le_meets a b us.toArray vs.toArray ns ms i1 i2 n n2 dd dd2 sl sl2 hz)
    ⟨ho, ho2, (show Value.bool (!HT.lexLt ms ns) ≠ Value.notImplemented ∧ EP X pins σ Q (.bool (!HT.lexLt ms ns)) s from ⟨(fun z => nomatch z), .bl (!HT.lexLt ms ns), H, I, rfl, q⟩)⟩ hu
end Bt

namespace Bt
open PySem PySem.Spec PyProof.Rows L2 Ext
/-! ### the promises of changing -/
def spBack : Sp := fun vs H Q _ => ∃ z : Str, vs = [.str z] ∧ z.length ≤ 100 ∧ Q (.str (ofL (toL z).reverse)) H
def relet (m l : List Nat) : List Nat := l.map fun c => m.getD (c - 97) 0
def spLettered : Sp := fun vs H Q _ => ∃ z m : Str, vs = [.str z, .str m] ∧ z.length ≤ 100 ∧ Low (toL z) ∧ (toL m).length = 26 ∧ ∀ H', Same H H' → Q (.str (ofL (relet (toL m) (toL z)))) H'
def spLetters : Sp := fun vs H Q _ => ∃ n : Int, vs = [.int n] ∧ ∀ (m : Str) (H' : Hp), Same H H' → (toL m).length = 26 → (toL m).Nodup → Q (.str m) H'
def abc : Str := "abcdefghijklmnopqrstuvwxyz"
theorem abc_len : abc.length = 26 := by decide +kernel
theorem abc_at : ∀ k : Nat, k < 26 → (toL abc)[k]? = some (97 + k) := by decide +kernel
theorem abc_find : ∀ k : Nat, k < 26 → Txt.find abc (ofL [97 + k]) = (k : Int) := by decide +kernel
theorem abc_find' {c : Nat} (h1 : 97 ≤ c) (h2 : c ≤ 122) : Txt.find abc (ofL [c]) = ((c - 97 : Nat) : Int) := by
  have := abc_find (c - 97) (by omega)
  rw [show 97 + (c - 97) = c by omega] at this
  exact this
/-- a letter put in -/
structure Mixd (k : Nat) (l : List Nat) : Prop where
  len : l.length = k
  nd : l.Nodup
  low : ∀ c ∈ l, c < 97 + k
theorem Mixd.nil : Mixd 0 [] := ⟨rfl, List.nodup_nil, fun c h => nomatch h⟩
theorem Mixd.put {k : Nat} {l : List Nat} (h : Mixd k l) (a : Nat) : Mixd (k + 1) (l.take a ++ [97 + k] ++ l.drop a) := by
  have p : (l.take a ++ [97 + k] ++ l.drop a).Perm ((97 + k) :: l) := by
    rw [List.append_assoc, List.singleton_append]
    refine List.perm_middle.trans ?_
    rw [List.take_append_drop]
  refine ⟨by rw [p.length_eq, List.length_cons, h.len], p.nodup_iff.mpr (List.nodup_cons.mpr ⟨fun z => ?_, h.nd⟩), fun c hc => ?_⟩
  · have := h.low _ z; omega
  · rcases List.mem_cons.mp (p.mem_iff.mp hc) with rfl | z
    · omega
    · have := h.low c z; omega
theorem relet_len (m l : List Nat) : (relet m l).length = l.length := List.length_map ..
theorem relet_eq {m l : List Nat} (hm : m.length = 26) (nd : m.Nodup) (hl : Low l) {x y : Nat} (hx : x < l.length) (hy : y < l.length) : (relet m l)[x]? = (relet m l)[y]? ↔ l[x]? = l[y]? := by
  unfold relet
  rw [List.getElem?_map, List.getElem?_map, List.getElem?_eq_getElem hx, List.getElem?_eq_getElem hy]
  simp only [Option.map_some, Option.some.injEq]
  have b1 := hl _ (List.getElem_mem hx)
  have b2 := hl _ (List.getElem_mem hy)
  have i1 : l[x] - 97 < m.length := by omega
  have i2 : l[y] - 97 < m.length := by omega
  rw [List.getD_eq_getElem?_getD, List.getD_eq_getElem?_getD, List.getElem?_eq_getElem i1, List.getElem?_eq_getElem i2, Option.getD_some, Option.getD_some]
  constructor
  · intro e
    have := (List.getElem_inj nd).mp e
    omega
  · intro e
    simp only [e]
end Bt

namespace Bt
open PySem PySem.Spec PyProof.Rows L2 Ext
open Lyn (Ls Least rt wl Own up)
/-! ### rows by their order -/
def rot {α : Type} (l : List α) (a : Nat) : List α := l.drop a ++ l.take a
theorem rot_len {α : Type} (l : List α) (a : Nat) : (rot l a).length = l.length := by
  unfold rot
  rw [List.length_append, List.length_drop, List.length_take]; omega
theorem rot_get {α : Type} (l : List α) {a t : Nat} (ha : a < l.length) (ht : t < l.length) : (rot l a)[t]? = l[(t + a) % l.length]? := by
  unfold rot
  by_cases h : t < l.length - a
  · rw [List.getElem?_append_left (by rw [List.length_drop]; exact h), List.getElem?_drop, Nat.mod_eq_of_lt (by omega)]
    congr 1; omega
  · rw [List.getElem?_append_right (by rw [List.length_drop]; omega), List.length_drop, List.getElem?_take, if_pos (by omega)]
    congr 1
    rw [show t + a = (t - (l.length - a)) + l.length by omega, Nat.add_mod_right, Nat.mod_eq_of_lt (by omega)]
theorem rot_map {α β : Type} (f : α → β) (l : List α) (a : Nat) : rot (l.map f) a = (rot l a).map f := by
  unfold rot
  rw [List.map_append, List.map_drop, List.map_take]
theorem Ls_succ {p : Nat} {u v : Nat → Int} : Ls (p + 1) u v ↔ u 0 < v 0 ∨ (u 0 = v 0 ∧ Ls p (fun t => u (t + 1)) (fun t => v (t + 1))) := by
  constructor
  · rintro ⟨m, hm, h1, h2⟩
    cases m with
    | zero => exact .inl h2
    | succ m => exact .inr ⟨h1 0 (by omega), m, by omega, fun t ht => h1 (t + 1) (by omega), h2⟩
  · rintro (h | ⟨h0, m, hm, h1, h2⟩)
    · exact ⟨0, by omega, fun t ht => by omega, h⟩
    · refine ⟨m + 1, by omega, fun t ht => ?_, h2⟩
      cases t with
      | zero => exact h0
      | succ t => exact h1 t (by omega)
theorem lex_iff : ∀ {a b : List Int}, a.length = b.length → (HT.lexLt a b = true ↔ Ls a.length (fun t => a.getD t 0) (fun t => b.getD t 0))
  | [], [], _ => ⟨(fun h => nomatch h), fun ⟨m, hm, _⟩ => absurd hm (Nat.not_lt_zero _)⟩
  | [], _ :: _, h => by simp at h
  | _ :: _, [], h => by simp at h
  | x :: a, y :: b, h => by
    have ih := lex_iff (a := a) (b := b) (by simpa using h)
    rw [HT.lexLt_cons, List.length_cons, Ls_succ]
    show _ ↔ x < y ∨ (x = y ∧ Ls a.length (fun t => a.getD t 0) (fun t => b.getD t 0))
    by_cases e : x = y
    · rw [if_pos e, ih]
      constructor
      · intro z; exact .inr ⟨e, z⟩
      · rintro (z | z)
        · omega
        · exact z.2
    · rw [if_neg e, decide_eq_true_eq]
      constructor
      · intro z; exact .inl z
      · rintro (z | z)
        · exact z
        · exact absurd z.1 e
def cst (l : List Nat) : List Int := l.map fun c : Nat => (c : Int)
def ngt (l : List Nat) : List Int := l.map fun c : Nat => -(c : Int)
theorem nat_lt : ∀ {a b : List Nat}, a.length = b.length → (a < b ↔ HT.lexLt (cst a) (cst b) = true)
  | [], [], _ => ⟨fun h => absurd h (List.lt_irrefl _), (fun h => nomatch h)⟩
  | [], _ :: _, h => by simp at h
  | _ :: _, [], h => by simp at h
  | x :: a, y :: b, h => by
    have ih := nat_lt (a := a) (b := b) (by simpa using h)
    rw [List.cons_lt_cons_iff]
    show _ ↔ HT.lexLt ((x : Int) :: cst a) ((y : Int) :: cst b) = true
    rw [HT.lexLt_cons]
    by_cases e : x = y
    · rw [if_pos (by rw [e]), ← ih]
      constructor
      · rintro (z | z)
        · omega
        · exact z.2
      · intro z; exact .inr ⟨e, z⟩
    · rw [if_neg (by omega), decide_eq_true_eq]
      constructor
      · rintro (z | z)
        · omega
        · exact absurd z.1 e
      · intro z; exact .inl (by omega)
theorem nat_gt : ∀ {a b : List Nat}, a.length = b.length → (b < a ↔ HT.lexLt (ngt a) (ngt b) = true)
  | [], [], _ => ⟨fun h => absurd h (List.lt_irrefl _), (fun h => nomatch h)⟩
  | [], _ :: _, h => by simp at h
  | _ :: _, [], h => by simp at h
  | x :: a, y :: b, h => by
    have ih := nat_gt (a := a) (b := b) (by simpa using h)
    rw [List.cons_lt_cons_iff]
    show _ ↔ HT.lexLt (-(x : Int) :: ngt a) (-(y : Int) :: ngt b) = true
    rw [HT.lexLt_cons]
    by_cases e : x = y
    · rw [if_pos (by rw [e]), ← ih]
      constructor
      · rintro (z | z)
        · omega
        · exact z.2
      · intro z; exact .inr ⟨e.symm, z⟩
    · rw [if_neg (by omega), decide_eq_true_eq]
      constructor
      · rintro (z | z)
        · omega
        · exact absurd z.1.symm e
      · intro z; exact .inl (by omega)
/-- ahead of all its turns -/
def LeastR (ns : List Int) : Prop := ∀ a, 1 ≤ a → a < ns.length → HT.lexLt ns (rot ns a) = true
theorem least_row {R : List Int} {x p : Nat} (h : x + p ≤ R.length) : LeastR ((R.drop x).take p) ↔ Least (fun t => R.getD t 0) x p := by
  have hl : ((R.drop x).take p).length = p := by rw [List.length_take, List.length_drop]; omega
  have hg : ∀ t, t < p → ((R.drop x).take p).getD t 0 = R.getD (x + t) 0 := fun t ht => by
    rw [List.getD_eq_getElem?_getD, List.getD_eq_getElem?_getD, List.getElem?_take, if_pos ht, List.getElem?_drop]
  unfold LeastR Least
  rw [hl]
  constructor
  · intro hh a a1 a2
    have := (lex_iff (by rw [rot_len])).mp (hh a a1 a2)
    rw [hl] at this
    refine this.congr (fun t ht => ?_) fun t ht => ?_
    · rw [Lyn.rt_0 ht]; exact hg t ht
    · unfold rt
      rw [List.getD_eq_getElem?_getD, rot_get _ (by omega) (by omega), hl, ← List.getD_eq_getElem?_getD, hg _ (Nat.mod_lt _ (by omega))]
  · intro hh a a1 a2
    rw [lex_iff (by rw [rot_len]), hl]
    refine (hh a a1 a2).congr (fun t ht => ?_) fun t ht => ?_
    · rw [Lyn.rt_0 ht]; exact (hg t ht).symm
    · unfold rt
      rw [List.getD_eq_getElem?_getD, rot_get _ (by omega) (by omega), hl, ← List.getD_eq_getElem?_getD, hg _ (Nat.mod_lt _ (by omega))]
theorem cst_get (l : List Nat) (t : Nat) : (cst l).getD t 0 = wl l t := by
  unfold cst wl
  rw [List.getD_eq_getElem?_getD, List.getElem?_map, List.getD_eq_getElem?_getD]
  cases l[t]? <;> rfl
theorem ngt_get (l : List Nat) (t : Nat) : (ngt l).getD t 0 = Lyn.neg (wl l) t := by
  unfold ngt
  show _ = -((l.getD t 0 : Nat) : Int)
  rw [List.getD_eq_getElem?_getD, List.getElem?_map, List.getD_eq_getElem?_getD]
  cases l[t]? <;> rfl
/-- what leads_its_turns tells -/
def Leads (c : Bool) (L : List Nat) : Prop := ∀ a, 1 ≤ a → a < L.length → if c = true then rot L a < L else L < rot L a
theorem leads_cst {L : List Nat} : Leads false L ↔ LeastR (cst L) := by
  unfold Leads LeastR
  have e : (cst L).length = L.length := List.length_map ..
  rw [e]
  constructor
  · intro h a a1 a2
    have := h a a1 a2
    rw [if_neg (by simp), nat_lt (by rw [rot_len])] at this
    unfold cst at this ⊢
    rw [rot_map]; exact this
  · intro h a a1 a2
    rw [if_neg (by simp), nat_lt (by rw [rot_len])]
    have := h a a1 a2
    unfold cst at this ⊢
    rw [rot_map] at this; exact this
theorem leads_ngt {L : List Nat} : Leads true L ↔ LeastR (ngt L) := by
  unfold Leads LeastR
  have e : (ngt L).length = L.length := List.length_map ..
  rw [e]
  constructor
  · intro h a a1 a2
    have := h a a1 a2
    rw [if_pos rfl, nat_gt (by rw [rot_len])] at this
    unfold ngt at this ⊢
    rw [rot_map]; exact this
  · intro h a a1 a2
    rw [if_pos rfl, nat_gt (by rw [rot_len])]
    have := h a a1 a2
    unfold ngt at this ⊢
    rw [rot_map] at this; exact this
theorem cut_cst (l : List Nat) (x p : Nat) : cst ((l.drop x).take p) = ((cst l).drop x).take p := by unfold cst; rw [List.map_take, List.map_drop]
theorem cut_ngt (l : List Nat) (x p : Nat) : ngt ((l.drop x).take p) = ((ngt l).drop x).take p := by unfold ngt; rw [List.map_take, List.map_drop]
theorem leads_iff {l : List Nat} {c : Bool} {x p : Nat} (h : x + p ≤ l.length) : Leads c ((l.drop x).take p) ↔ Least (if c = true then Lyn.neg (wl l) else wl l) x p := by
  cases c with
  | false =>
    rw [leads_cst, cut_cst, least_row (by unfold cst; rw [List.length_map]; exact h), if_neg (by simp)]
    rw [show (fun t => (cst l).getD t 0) = wl l from funext (cst_get l)]
  | true =>
    rw [leads_ngt, cut_ngt, least_row (by unfold ngt; rw [List.length_map]; exact h), if_pos rfl]
    rw [show (fun t => (ngt l).getD t 0) = Lyn.neg (wl l) from funext (ngt_get l)]
/-- the law's row -/
def rowOf (c : Bool) (l : List Nat) : List Int := if c = true then l.map (fun a => -((a - 97 : Nat) : Int)) else l.map fun a => ((a - 97 : Nat) : Int)
theorem rowOf_len (c : Bool) (l : List Nat) : (rowOf c l).length = l.length := by unfold rowOf; split <;> rw [List.length_map]
theorem Ls_shift {p : Nat} {u v u' v' : Nat → Int} (k : Int) (hu : ∀ t, t < p → u' t = u t + k) (hv : ∀ t, t < p → v' t = v t + k) : Ls p u v ↔ Ls p u' v' := by
  constructor
  · rintro ⟨m, hm, h1, h2⟩
    exact ⟨m, hm, fun t ht => by rw [hu t (by omega), hv t (by omega), h1 t ht], by rw [hu m hm, hv m hm]; omega⟩
  · rintro ⟨m, hm, h1, h2⟩
    refine ⟨m, hm, fun t ht => ?_, ?_⟩
    · have := h1 t ht
      rw [hu t (by omega), hv t (by omega)] at this
      omega
    · rw [hu m hm, hv m hm] at h2
      omega
theorem least_shift {w w' : Nat → Int} {n x p : Nat} (k : Int) (h : ∀ t, t < n → w' t = w t + k) (hx : x + p ≤ n) : Least w x p ↔ Least w' x p := by
  have key : ∀ a, a < p → 1 ≤ a → (Ls p (rt w x p 0) (rt w x p a) ↔ Ls p (rt w' x p 0) (rt w' x p a)) := fun a a2 a1 => Ls_shift k (fun t ht => by
    unfold rt; exact h _ (by have := Nat.mod_lt (t + 0) (show 0 < p by omega); omega)) fun t ht => by
    unfold rt; exact h _ (by have := Nat.mod_lt (t + a) (show 0 < p by omega); omega)
  unfold Least
  exact ⟨fun hh a a1 a2 => (key a a2 a1).mp (hh a a1 a2), fun hh a a1 a2 => (key a a2 a1).mpr (hh a a1 a2)⟩
theorem row_iff {l : List Nat} {c : Bool} {x p : Nat} (hl : Low l) (h : x + p ≤ l.length) : LeastR (((rowOf c l).drop x).take p) ↔ Least (if c = true then Lyn.neg (wl l) else wl l) x p := by
  rw [least_row (by rw [rowOf_len]; exact h)]
  refine (least_shift (n := l.length) (if c = true then 97 else -97) (fun t ht => ?_) h).symm
  have b := hl _ (List.getElem_mem ht)
  unfold rowOf wl Lyn.neg
  cases c with
  | false =>
    simp only [Bool.false_eq_true, if_false]
    rw [List.getD_eq_getElem?_getD, List.getElem?_map, List.getD_eq_getElem?_getD, List.getElem?_eq_getElem ht]
    show ((l[t] - 97 : Nat) : Int) = ((l[t] : Nat) : Int) + -97
    omega
  | true =>
    simp only [if_true]
    rw [List.getD_eq_getElem?_getD, List.getElem?_map, List.getD_eq_getElem?_getD, List.getElem?_eq_getElem ht]
    show -((l[t] - 97 : Nat) : Int) = -((l[t] : Nat) : Int) + 97
    omega
/-! ### places of their own -/
/-- the contrary order is taken -/
def Contra (l : List Nat) (e p : Nat) : Prop := e < l.length ∧ wl l (e - p) < wl l e
theorem own_iff {l : List Nat} {r : Tri} {c : Bool} {x : Nat} (hr : Lyn.Run (wl l) l.length r.1 r.2.1 r.2.2) (hc : c = true ↔ Contra l r.2.1 r.2.2) :
    Own (wl l) l.length r.1 r.2.1 r.2.2 x ↔ r.1 < x ∧ x + r.2.2 ≤ r.2.1 ∧ Least (if c = true then Lyn.neg (wl l) else wl l) x r.2.2 := by
  have hup : c = true ↔ ¬ up (wl l) l.length r.2.1 r.2.2 := by
    rw [hc]
    unfold Contra up
    have en := hr.en
    rcases hr.right with z | z
    · constructor
      · intro h; omega
      · intro h; exact absurd (.inl z) h
    · constructor
      · rintro ⟨h1, h2⟩ (h3 | h3)
        · omega
        · omega
      · intro h
        have h1 : ¬ r.2.1 = l.length := fun e => h (.inl e)
        have h2 : ¬ wl l r.2.1 < wl l (r.2.1 - r.2.2) := fun e => h (.inr e)
        omega
  unfold Own
  cases c with
  | false =>
    have u : up (wl l) l.length r.2.1 r.2.2 := Classical.byContradiction fun z => by have := hup.mpr z; cases this
    simp only [Bool.false_eq_true, if_false]
    exact ⟨fun ⟨h1, h2, h3⟩ => ⟨h1, h2, h3.elim (fun z => z.2) fun z => absurd u z.1⟩, fun ⟨h1, h2, h3⟩ => ⟨h1, h2, .inl ⟨u, h3⟩⟩⟩
  | true =>
    have u := hup.mp rfl
    simp only [if_true]
    exact ⟨fun ⟨h1, h2, h3⟩ => ⟨h1, h2, h3.elim (fun z => absurd z.1 u) fun z => z.2⟩, fun ⟨h1, h2, h3⟩ => ⟨h1, h2, .inr ⟨u, h3⟩⟩⟩
/-- the rising row of places up to x -/
structure OwnTo (l : List Nat) (r : Tri) (m : Nat) (xs : List Nat) : Prop where
  rise : xs.Pairwise (· < ·)
  mem : ∀ x, x ∈ xs ↔ Own (wl l) l.length r.1 r.2.1 r.2.2 x ∧ x < m
theorem rise_nat : ∀ {a b : List Nat}, a.Pairwise (· < ·) → b.Pairwise (· < ·) → (∀ r, r ∈ a ↔ r ∈ b) → a = b
  | [], [], _, _, _ => rfl
  | [], y :: _, _, _, h => absurd ((h y).mpr List.mem_cons_self) (by simp)
  | x :: _, [], _, _, h => absurd ((h x).mp List.mem_cons_self) (by simp)
  | x :: a, y :: b, ha, hb, h => by
    have ha' := List.pairwise_cons.mp ha
    have hb' := List.pairwise_cons.mp hb
    have e : x = y := by
      rcases List.mem_cons.mp ((h x).mp List.mem_cons_self) with z | z
      · exact z
      · rcases List.mem_cons.mp ((h y).mpr List.mem_cons_self) with z' | z'
        · exact z'.symm
        · have := hb'.1 x z
          have := ha'.1 y z'
          omega
    subst e
    rw [rise_nat ha'.2 hb'.2 fun r => ?_]
    have q := h r
    rw [List.mem_cons, List.mem_cons] at q
    constructor
    · intro z
      rcases q.mp (.inr z) with z' | z'
      · subst z'; exact absurd (ha'.1 r z) (Nat.lt_irrefl _)
      · exact z'
    · intro z
      rcases q.mpr (.inr z) with z' | z'
      · subst z'; exact absurd (hb'.1 r z) (Nat.lt_irrefl _)
      · exact z'
theorem OwnTo.start (l : List Nat) (r : Tri) : OwnTo l r (r.1 + 1) [] := ⟨List.Pairwise.nil, fun x => ⟨fun h => (nomatch h), fun ⟨h, h2⟩ => by have := h.1; omega⟩⟩
theorem OwnTo.yes {l : List Nat} {r : Tri} {m : Nat} {xs : List Nat} (d : OwnTo l r m xs) (h : Own (wl l) l.length r.1 r.2.1 r.2.2 m) : OwnTo l r (m + 1) (xs ++ [m]) := by
  refine ⟨List.pairwise_append.mpr ⟨d.rise, List.pairwise_singleton _ _, fun a ha b hb => ?_⟩, fun x => ?_⟩
  · rw [List.mem_singleton.mp hb]
    exact ((d.mem a).mp ha).2
  · rw [List.mem_append, d.mem, List.mem_singleton]
    constructor
    · rintro (⟨h1, h2⟩ | rfl)
      · exact ⟨h1, by omega⟩
      · exact ⟨h, by omega⟩
    · rintro ⟨h1, h2⟩
      rcases Nat.lt_or_ge x m with z | z
      · exact .inl ⟨h1, z⟩
      · exact .inr (by omega)
theorem OwnTo.no {l : List Nat} {r : Tri} {m : Nat} {xs : List Nat} (d : OwnTo l r m xs) (h : ¬ Own (wl l) l.length r.1 r.2.1 r.2.2 m) : OwnTo l r (m + 1) xs := by
  refine ⟨d.rise, fun x => (d.mem x).trans ⟨fun ⟨h1, h2⟩ => ⟨h1, by omega⟩, fun ⟨h1, h2⟩ => ⟨h1, ?_⟩⟩⟩
  rcases Nat.lt_or_ge x m with z | z
  · exact z
  · have : x = m := by omega
    subst this
    exact absurd h1 h
def OwnL (l : List Nat) (r : Tri) (xs : List Nat) : Prop := xs.Pairwise (· < ·) ∧ ∀ x, x ∈ xs ↔ Own (wl l) l.length r.1 r.2.1 r.2.2 x
theorem OwnTo.done {l : List Nat} {r : Tri} {xs : List Nat} {m : Nat} (hm : r.2.1 - r.2.2 < m) (d : OwnTo l r m xs) : OwnL l r xs := by
  refine ⟨d.rise, fun x => (d.mem x).trans ⟨fun h => h.1, fun h => ⟨h, ?_⟩⟩⟩
  have := h.2.1
  omega
theorem OwnL.uniq {l : List Nat} {r : Tri} {a b : List Nat} (x : OwnL l r a) (y : OwnL l r b) : a = b := rise_nat x.1 y.1 fun t => (x.2 t).trans (y.2 t).symm
abbrev natV (xs : List Nat) : List V := xs.map fun x => V.int ((x : Nat) : Int)
def spContra : Sp := fun vs H Q _ => ∃ (z : Str) (e b : Nat), vs = [.str z, .int (e : Nat), .int (b : Nat)] ∧ z.length ≤ 100 ∧ b ≤ e ∧ e ≤ z.length ∧ ∀ c : Bool, (c = true ↔ Contra (toL z) e b) → Q (.bl c) H
def spLeads : Sp := fun vs H Q _ => ∃ (z : Str) (c : Bool), vs = [.str z, .bl c] ∧ z.length ≤ 100 ∧ ∀ (b : Bool) (H' : Hp), Same H H' → (b = true ↔ Leads c (toL z)) → Q (.bl b) H'
def spOwn : Sp := fun vs H Q _ => ∃ (z : Str) (a : Addr) (r : Tri), vs = [.str z, .ref a] ∧ z.length ≤ 60 ∧ H a = some (.tup [.int (r.1 : Nat), .int (r.2.1 : Nat), .int (r.2.2 : Nat)]) ∧ IsRun (toL z) r ∧
  ∀ (t : Addr) (xs : List Nat) (H' : Hp), Same H H' → H' t = some (.tup (natV xs)) → OwnL (toL z) r xs → Q (.ref t) H'
def spOrder : Sp := fun vs H Q _ => ∃ (z : Str) (a : Addr) (r : Tri), vs = [.str z, .ref a] ∧ z.length ≤ 60 ∧ Low (toL z) ∧ H a = some (.tup [.int (r.1 : Nat), .int (r.2.1 : Nat), .int (r.2.2 : Nat)]) ∧ IsRun (toL z) r ∧
  ∀ (t : Addr) (c : Bool) (H' : Hp), Same H H' → H' t = some (.lst ((rowOf c (toL z)).map V.int)) → (c = true ↔ Contra (toL z) r.2.1 r.2.2) → Q (.ref t) H'
def spIsLeast : Sp := fun vs H Q _ => ∃ (a : Addr) (ns : List Int), vs = [.ref a] ∧ H a = some (.lst (ns.map V.int)) ∧ ns.length ≤ 100 ∧ ∀ (b : Bool) (H' : Hp), Same H H' → (b = true ↔ LeastR ns) → Q (.bl b) H'
end Bt

namespace Bt
open PySem PySem.Spec PyProof.Rows L2 Ext
open Lyn (wl Own)
/-! ### cuts of lists -/
theorem cutV_ss (l : List V) {a b : Int} (ha : 0 ≤ a) (hab : 0 ≤ b) : cutV l (some a) (some b) = (l.drop a.toNat).take (b.toNat - a.toNat) := by
  obtain ⟨m, rfl⟩ : ∃ m : Nat, a = m := ⟨a.toNat, by omega⟩
  obtain ⟨n, rfl⟩ : ∃ n : Nat, b = n := ⟨b.toNat, by omega⟩
  unfold cutV
  rw [HT.sIx_nat, HT.sIx_nat]
  simp only [Int.toNat_natCast]
  by_cases h : m ≤ l.length
  · rw [Nat.min_eq_left h]
    by_cases h2 : n ≤ l.length
    · rw [Nat.min_eq_left h2]
    · rw [Nat.min_eq_right (show l.length ≤ n by omega)]
      rw [List.take_of_length_le (by rw [List.length_drop]; omega), List.take_of_length_le (by rw [List.length_drop]; omega)]
  · rw [Nat.min_eq_right (show l.length ≤ m by omega), List.drop_of_length_le (Nat.le_refl _), List.drop_of_length_le (show l.length ≤ m by omega)]; simp
theorem cutV_sn (l : List V) {a : Int} (ha : 0 ≤ a) : cutV l (some a) none = l.drop a.toNat := by
  obtain ⟨m, rfl⟩ : ∃ m : Nat, a = m := ⟨a.toNat, by omega⟩
  unfold cutV
  rw [HT.sIx_nat, HT.sIx_none]
  simp only [Int.toNat_natCast]
  by_cases h : m ≤ l.length
  · rw [Nat.min_eq_left h, List.take_of_length_le (by rw [List.length_drop]; omega)]
  · rw [Nat.min_eq_right (by omega), List.drop_of_length_le (Nat.le_refl _), List.drop_of_length_le (by omega)]; simp
theorem cutV_ns (l : List V) {b : Int} (hb : 0 ≤ b) : cutV l none (some b) = l.take b.toNat := by
  obtain ⟨n, rfl⟩ : ∃ n : Nat, b = n := ⟨b.toNat, by omega⟩
  unfold cutV
  rw [HT.sIx_nat, HT.sIx_none]
  simp only [Int.toNat_natCast, List.drop_zero, Nat.sub_zero]
  by_cases h : n ≤ l.length
  · rw [Nat.min_eq_left h]
  · rw [Nat.min_eq_right (by omega), List.take_length, List.take_of_length_le (by omega)]
theorem cut_rot (ns : List Int) (i : Nat) : cutV (ns.map V.int) (some (1 + (i : Int))) none ++ cutV (ns.map V.int) none (some (1 + (i : Int))) = (rot ns (1 + i)).map V.int := by
  rw [cutV_sn _ (by omega), cutV_ns _ (by omega), show (1 + (i : Int)).toNat = 1 + i by omega, ← rot_map]
  rfl
theorem cut_row (ns : List Int) {a b : Int} (x p : Nat) (ha : a = (x : Nat)) (hb : b = ((x + p : Nat) : Int)) : cutV (ns.map V.int) (some a) (some b) = ((ns.drop x).take p).map V.int := by
  subst ha hb
  rw [cutV_ss _ (by omega) (by omega), Int.toNat_natCast, Int.toNat_natCast, Nat.add_sub_cancel_left, List.map_take, List.map_drop]
/-! ### numbers as tuples -/
theorem Reps.nats {K : PySem.W.Frag} {H : Hp} : ∀ xs : List Nat, Reps K H (natV xs) (xs.map fun x : Nat => PyData.int (x : Int))
  | [] => .nil
  | x :: xs => .cons (.int _) (Reps.nats xs)
theorem lay_nats : ∀ xs : List Nat, PyData.canLayAll0 (xs.map fun x : Nat => PyData.int (x : Int)) = true ∧ PyData.depthAll (xs.map fun x : Nat => PyData.int (x : Int)) ≤ 1
  | [] => ⟨by simp [PyData.canLayAll0], by simp [PyData.depthAll]⟩
  | x :: xs => by
    obtain ⟨h1, h2⟩ := lay_nats xs
    constructor
    · simp [PyData.canLayAll0, PyData.canLay0, h1]
    · simp only [List.map_cons, PyData.depthAll, PyData.depth]
      omega
theorem shaped_nats (xs : List Nat) : SeqAt.shaped (.tuple (xs.map fun x : Nat => PyData.int (x : Int))) = true := by
  obtain ⟨h1, h2⟩ := lay_nats xs
  unfold SeqAt.shaped
  have e1 : (PyData.tuple (xs.map fun x : Nat => PyData.int (x : Int))).canLay0 = true := by simpa only [PyData.canLay0] using h1
  have e2 : (PyData.tuple (xs.map fun x : Nat => PyData.int (x : Int))).depth ≤ 64 := by
    simp only [PyData.depth]
    omega
  rw [e1, Bool.true_and]
  exact decide_eq_true e2
theorem eqvAll_nats : ∀ xs : List Nat, PyData.eqvAll (xs.map fun x : Nat => PyData.int (x : Int)) (xs.map fun x : Nat => PyData.int (x : Int)) = true
  | [] => by simp [PyData.eqvAll]
  | x :: xs => by simp [PyData.eqvAll, PyData.eqv, eqvAll_nats xs]
theorem eqv_nats (xs : List Nat) : PyData.eqv (.tuple (xs.map fun x : Nat => PyData.int (x : Int))) (.tuple (xs.map fun x : Nat => PyData.int (x : Int))) = true := by simp only [PyData.eqv, eqvAll_nats]
theorem eqv_nil {xs : List Nat} (h : xs ≠ []) : PyData.eqv (.tuple (xs.map fun x : Nat => PyData.int (x : Int))) (.tuple []) = false := by
  cases xs with
  | nil => exact absurd rfl h
  | cons x xs => simp [PyData.eqv, PyData.eqvAll]
theorem shaped_nil : SeqAt.shaped (.tuple []) = true := shaped_nats []
/-! ### places met -/
structure Met (l : List Nat) (rs : List Tri) (i : Nat) (xs : List Nat) (j : Nat) (kvs : List (Key × V)) : Prop where
  in_ : ∀ x : Nat, (valV kvs (Sum.inl ((x : Nat) : Int))).isSome = true ↔ (∃ r ∈ rs.take i, Own (wl l) l.length r.1 r.2.1 r.2.2 x) ∨ x ∈ xs.take j
  few : kvs.length ≤ 100 * i + j
theorem Met.start (l : List Nat) (rs : List Tri) : Met l rs 0 [] 0 [] := ⟨fun x => ⟨(fun h => nomatch h), fun h => by rcases h with ⟨_, h, _⟩ | h <;> cases h⟩, Nat.zero_le _⟩
theorem Met.enter {l : List Nat} {rs : List Tri} {i : Nat} {kvs : List (Key × V)} (xs : List Nat) (m : Met l rs i [] 0 kvs) : Met l rs i xs 0 kvs := ⟨fun x => by rw [m.in_ x]; simp, m.few⟩
theorem Met.put {l : List Nat} {rs : List Tri} {i j x : Nat} {xs : List Nat} {kvs : List (Key × V)} (v : V) (m : Met l rs i xs j kvs) (h : xs[j]? = some x) : Met l rs i xs (j + 1) (putK kvs (Sum.inl ((x : Nat) : Int)) v) := by
  refine ⟨fun y => ?_, ?_⟩
  · rw [valV_put, List.take_succ, h]
    by_cases e : y = x
    · subst e
      rw [if_pos rfl]
      exact ⟨fun _ => .inr (by simp), fun _ => rfl⟩
    · rw [if_neg (fun z => e (by have := Sum.inl.inj z; omega)), m.in_ y]
      simp [e]
  · have := length_putK kvs (Sum.inl ((x : Nat) : Int) : Key) v
    have := m.few
    omega
theorem Met.leave {l : List Nat} {rs : List Tri} {i : Nat} {r : Tri} {xs : List Nat} {kvs : List (Key × V)} (m : Met l rs i xs xs.length kvs) (hr : rs[i]? = some r) (o : OwnL l r xs) (hx : xs.length ≤ 100) : Met l rs (i + 1) [] 0 kvs := by
  refine ⟨fun x => ?_, by have := m.few; omega⟩
  rw [m.in_ x, List.take_length, List.take_succ, hr, o.2]
  constructor
  · rintro (⟨s, hs, h⟩ | h)
    · exact .inl ⟨s, List.mem_append_left _ hs, h⟩
    · exact .inl ⟨r, by simp, h⟩
  · rintro (⟨s, hs, h⟩ | h)
    · rcases List.mem_append.mp hs with z | z
      · exact .inl ⟨s, z, h⟩
      · have : s = r := by simpa using z
        subst this
        exact .inr h
    · simp at h
theorem OwnL.len {l : List Nat} {r : Tri} {xs : List Nat} (h : Lyn.Run (wl l) l.length r.1 r.2.1 r.2.2) (o : OwnL l r xs) : xs.length ≤ l.length - 1 :=
  Lyn.nodup_bound l.length xs (o.1.imp (fun h => Nat.ne_of_lt h)) fun x hx => Lyn.own_range h ((o.2 x).mp hx)
/-- a place is not met twice -/
theorem Met.new {l : List Nat} {rs : List Tri} {i j x : Nat} {r : Tri} {xs : List Nat} {kvs : List (Key × V)} (m : Met l rs i xs j kvs) (nd : rs.Nodup) (hrs : ∀ r ∈ rs, Lyn.Run (wl l) l.length r.1 r.2.1 r.2.2) (hr : rs[i]? = some r) (o : OwnL l r xs) (hx : xs[j]? = some x) : valV kvs (Sum.inl ((x : Nat) : Int)) = none := by
  cases hv : valV kvs (Sum.inl ((x : Nat) : Int)) with
  | none => rfl
  | some v =>
    exfalso
    have := (m.in_ x).mp (by rw [hv]; rfl)
    have ox := (o.2 x).mp (List.mem_of_getElem? hx)
    rcases this with ⟨s, hs, os⟩ | h
    · obtain ⟨e1, e2, e3⟩ := Lyn.own_apart (hrs r (List.mem_of_getElem? hr)) (hrs s (List.mem_of_mem_take hs)) ox os
      have e : s = r := by
        obtain ⟨a1, a2, a3⟩ := r
        obtain ⟨b1, b2, b3⟩ := s
        simp only at e1 e2 e3
        subst e1 e2 e3
        rfl
      subst e
      obtain ⟨k, hk, ek⟩ := List.mem_iff_getElem.mp hs
      rw [List.length_take] at hk
      rw [List.getElem_take] at ek
      obtain ⟨hi, ei⟩ := List.getElem?_eq_some_iff.mp hr
      have := (List.getElem_inj nd).mp (ek.trans ei.symm)
      omega
    · obtain ⟨k, hk, ek⟩ := List.mem_iff_getElem.mp h
      rw [List.length_take] at hk
      rw [List.getElem_take] at ek
      obtain ⟨hj, ej⟩ := List.getElem?_eq_some_iff.mp hx
      have := (List.getElem_inj (o.1.imp (fun h => Nat.ne_of_lt h))).mp (ek.trans ej.symm)
      omega
end Bt
namespace Bt
open PySem PySem.Spec PyProof.Rows L2 Ext
theorem contra_one {l : List Nat} {e b x1 x2 : Nat} (he : e < l.length) (h1 : l[e]? = some x1) (h2 : l[e - b]? = some x2) : toL (⟨#[x2]⟩ : Str) < toL (⟨#[x1]⟩ : Str) ↔ Contra l e b := by
  unfold Contra Lyn.wl
  rw [List.getD_eq_getElem?_getD, List.getD_eq_getElem?_getD, h1, h2, Option.getD_some, Option.getD_some]
  show [x2] < [x1] ↔ _
  rw [List.cons_lt_cons_iff]
  constructor
  · rintro (h | ⟨_, h⟩)
    · exact ⟨he, by omega⟩
    · cases h
  · rintro ⟨_, h⟩
    exact .inl (by omega)
theorem rowOf_add (c : Bool) (l : List Nat) (a : Nat) : rowOf c (l ++ [a]) = rowOf c l ++ [if c = true then -((a - 97 : Nat) : Int) else ((a - 97 : Nat) : Int)] := by
  unfold rowOf
  cases c <;> simp
theorem upd_dk {H : Hp} {d c : Addr} {kvs : List (Key × V)} {xs : List V} {o : HO} (hd : H d = some (.dK kvs)) (hc : H c = some (.tup xs)) : upd H d o c = some (.tup xs) := by
  rw [upd_ne (fun e => by subst e; rw [hd] at hc; cases hc)]
  exact hc
theorem RepT.updD {H : Hp} {d : Addr} {kvs : List (Key × V)} {xs : List V} {ds : List Tri} {o : HO} (rp : RepT H xs ds) (hd : H d = some (.dK kvs)) : RepT (upd H d o) xs ds :=
  Paired.mapP rp fun v q ⟨c, h1, h2⟩ => ⟨c, h1, upd_dk hd h2⟩
end Bt

namespace K23
open PySem PySem.Spec PyProof.Rows L2 Ext Bt
def top (i : Nat) : Stmt := PySem.Challenge.pw_beatruns_k23_whole_own_places.main.body.getD i (.Pass ⟨0, 0, 0, 0⟩)
abbrev s_has_beat : Stmt := top 1
abbrev s_least_beat : Stmt := top 2
abbrev s_is_double : Stmt := top 3
abbrev s_doubles : Stmt := top 4
abbrev s_reach_ahead : Stmt := top 6
abbrev s_reach_behind : Stmt := top 7
abbrev s_run_of : Stmt := top 8
abbrev s_runs : Stmt := top 9
abbrev s_takes_contrary_order : Stmt := top 10
abbrev s_leads_its_turns : Stmt := top 11
abbrev s_own_places : Stmt := top 12
abbrev s__law_cell_at : Stmt := top 14
abbrev s__law_mixed : Stmt := top 15
abbrev s__law_drawn : Stmt := top 16
abbrev s__law_text : Stmt := top 17
abbrev s__law_rich : Stmt := top 18
abbrev s__law_number : Stmt := top 19
abbrev s__law_order : Stmt := top 20
abbrev s__law_is_least : Stmt := top 21
abbrev s_law : Stmt := top 22
structure Adr where
  a_has_beat : Addr
  d_has_beat : FuncData
  a_least_beat : Addr
  d_least_beat : FuncData
  a_is_double : Addr
  d_is_double : FuncData
  a_doubles : Addr
  d_doubles : FuncData
  a_reach_ahead : Addr
  d_reach_ahead : FuncData
  a_reach_behind : Addr
  d_reach_behind : FuncData
  a_run_of : Addr
  d_run_of : FuncData
  a_runs : Addr
  d_runs : FuncData
  a_takes_contrary_order : Addr
  d_takes_contrary_order : FuncData
  a_leads_its_turns : Addr
  d_leads_its_turns : FuncData
  a_own_places : Addr
  d_own_places : FuncData
  a__law_cell_at : Addr
  d__law_cell_at : FuncData
  a__law_mixed : Addr
  d__law_mixed : FuncData
  a__law_drawn : Addr
  d__law_drawn : FuncData
  a__law_text : Addr
  d__law_text : FuncData
  a__law_rich : Addr
  d__law_rich : FuncData
  a__law_number : Addr
  d__law_number : FuncData
  a__law_order : Addr
  d__law_order : FuncData
  a__law_is_least : Addr
  d__law_is_least : FuncData
  a_law : Addr
  d_law : FuncData
structure Txt (K : PySem.W.Frag) (mg : Str → Option Value) (A : Adr) : Prop where
  F_has_beat : Fun K "has_beat" "has_beat" s_has_beat A.a_has_beat A.d_has_beat
  m_has_beat : mg "has_beat" = some (.ref A.a_has_beat)
  b_has_beat : Binds K A.d_has_beat ["text", "beat"] []
  F_least_beat : Fun K "least_beat" "least_beat" s_least_beat A.a_least_beat A.d_least_beat
  m_least_beat : mg "least_beat" = some (.ref A.a_least_beat)
  b_least_beat : Binds K A.d_least_beat ["text"] []
  F_is_double : Fun K "is_double" "is_double" s_is_double A.a_is_double A.d_is_double
  m_is_double : mg "is_double" = some (.ref A.a_is_double)
  b_is_double : Binds K A.d_is_double ["text", "place", "half"] []
  F_doubles : Fun K "doubles" "doubles" s_doubles A.a_doubles A.d_doubles
  m_doubles : mg "doubles" = some (.ref A.a_doubles)
  b_doubles : Binds K A.d_doubles ["text"] []
  F_reach_ahead : Fun K "reach_ahead" "reach_ahead" s_reach_ahead A.a_reach_ahead A.d_reach_ahead
  m_reach_ahead : mg "reach_ahead" = some (.ref A.a_reach_ahead)
  b_reach_ahead : Binds K A.d_reach_ahead ["text", "first", "beat"] []
  F_reach_behind : Fun K "reach_behind" "reach_behind" s_reach_behind A.a_reach_behind A.d_reach_behind
  m_reach_behind : mg "reach_behind" = some (.ref A.a_reach_behind)
  b_reach_behind : Binds K A.d_reach_behind ["text", "end", "beat"] []
  F_run_of : Fun K "run_of" "run_of" s_run_of A.a_run_of A.d_run_of
  m_run_of : mg "run_of" = some (.ref A.a_run_of)
  b_run_of : Binds K A.d_run_of ["text", "place", "half"] []
  F_runs : Fun K "runs" "runs" s_runs A.a_runs A.d_runs
  m_runs : mg "runs" = some (.ref A.a_runs)
  b_runs : Binds K A.d_runs ["text"] []
  F_takes_contrary_order : Fun K "takes_contrary_order" "takes_contrary_order" s_takes_contrary_order A.a_takes_contrary_order A.d_takes_contrary_order
  m_takes_contrary_order : mg "takes_contrary_order" = some (.ref A.a_takes_contrary_order)
  b_takes_contrary_order : Binds K A.d_takes_contrary_order ["text", "end", "beat"] []
  F_leads_its_turns : Fun K "leads_its_turns" "leads_its_turns" s_leads_its_turns A.a_leads_its_turns A.d_leads_its_turns
  m_leads_its_turns : mg "leads_its_turns" = some (.ref A.a_leads_its_turns)
  b_leads_its_turns : Binds K A.d_leads_its_turns ["letters", "contrary"] []
  F_own_places : Fun K "own_places" "own_places" s_own_places A.a_own_places A.d_own_places
  m_own_places : mg "own_places" = some (.ref A.a_own_places)
  b_own_places : Binds K A.d_own_places ["text", "run"] []
  F__law_cell_at : Fun K "_law_cell_at" "_law_cell_at" s__law_cell_at A.a__law_cell_at A.d__law_cell_at
  m__law_cell_at : mg "_law_cell_at" = some (.ref A.a__law_cell_at)
  b__law_cell_at : Binds K A.d__law_cell_at ["_law_script", "_law_k"] []
  F__law_mixed : Fun K "_law_mixed" "_law_mixed" s__law_mixed A.a__law_mixed A.d__law_mixed
  m__law_mixed : mg "_law_mixed" = some (.ref A.a__law_mixed)
  b__law_mixed : Binds K A.d__law_mixed ["_law_script", "_law_k"] []
  F__law_drawn : Fun K "_law_drawn" "_law_drawn" s__law_drawn A.a__law_drawn A.d__law_drawn
  m__law_drawn : mg "_law_drawn" = some (.ref A.a__law_drawn)
  b__law_drawn : Binds K A.d__law_drawn ["_law_number_here", "_law_k"] []
  F__law_text : Fun K "_law_text" "_law_text" s__law_text A.a__law_text A.d__law_text
  m__law_text : mg "_law_text" = some (.ref A.a__law_text)
  b__law_text : Binds K A.d__law_text ["_law_number_here", "_law_most"] []
  F__law_rich : Fun K "_law_rich" "_law_rich" s__law_rich A.a__law_rich A.d__law_rich
  m__law_rich : mg "_law_rich" = some (.ref A.a__law_rich)
  b__law_rich : Binds K A.d__law_rich ["_law_number_here", "_law_most"] []
  F__law_number : Fun K "_law_number" "_law_number" s__law_number A.a__law_number A.d__law_number
  m__law_number : mg "_law_number" = some (.ref A.a__law_number)
  b__law_number : Binds K A.d__law_number ["_law_thing", "_law_low", "_law_high"] []
  F__law_order : Fun K "_law_order" "_law_order" s__law_order A.a__law_order A.d__law_order
  m__law_order : mg "_law_order" = some (.ref A.a__law_order)
  b__law_order : Binds K A.d__law_order ["_law_text_here", "_law_run"] []
  F__law_is_least : Fun K "_law_is_least" "_law_is_least" s__law_is_least A.a__law_is_least A.d__law_is_least
  m__law_is_least : mg "_law_is_least" = some (.ref A.a__law_is_least)
  b__law_is_least : Binds K A.d__law_is_least ["_law_row"] []
  F_law : Fun K "law" "law" s_law A.a_law A.d_law
  m_law : mg "law" = some (.ref A.a_law)
  b_law : Binds K A.d_law ["_law_script"] []
  z_all : mg "all" = none
  z_bool : mg "bool" = none
  z_int : mg "int" = none
  z_isinstance : mg "isinstance" = none
  z_len : mg "len" = none
  z_range : mg "range" = none
  z_set : mg "set" = none
  z_sorted : mg "sorted" = none
  z_tuple : mg "tuple" = none
theorem Txt.k_has_beat {K : PySem.W.Frag} {mg : Str → Option Value} {A : Adr} (T : Txt K mg A) : PySem.W.keepIn K (.ref A.a_has_beat) = true := T.F_has_beat.kp
theorem Txt.k_least_beat {K : PySem.W.Frag} {mg : Str → Option Value} {A : Adr} (T : Txt K mg A) : PySem.W.keepIn K (.ref A.a_least_beat) = true := T.F_least_beat.kp
theorem Txt.k_is_double {K : PySem.W.Frag} {mg : Str → Option Value} {A : Adr} (T : Txt K mg A) : PySem.W.keepIn K (.ref A.a_is_double) = true := T.F_is_double.kp
theorem Txt.k_doubles {K : PySem.W.Frag} {mg : Str → Option Value} {A : Adr} (T : Txt K mg A) : PySem.W.keepIn K (.ref A.a_doubles) = true := T.F_doubles.kp
theorem Txt.k_reach_ahead {K : PySem.W.Frag} {mg : Str → Option Value} {A : Adr} (T : Txt K mg A) : PySem.W.keepIn K (.ref A.a_reach_ahead) = true := T.F_reach_ahead.kp
theorem Txt.k_reach_behind {K : PySem.W.Frag} {mg : Str → Option Value} {A : Adr} (T : Txt K mg A) : PySem.W.keepIn K (.ref A.a_reach_behind) = true := T.F_reach_behind.kp
theorem Txt.k_run_of {K : PySem.W.Frag} {mg : Str → Option Value} {A : Adr} (T : Txt K mg A) : PySem.W.keepIn K (.ref A.a_run_of) = true := T.F_run_of.kp
theorem Txt.k_runs {K : PySem.W.Frag} {mg : Str → Option Value} {A : Adr} (T : Txt K mg A) : PySem.W.keepIn K (.ref A.a_runs) = true := T.F_runs.kp
theorem Txt.k_takes_contrary_order {K : PySem.W.Frag} {mg : Str → Option Value} {A : Adr} (T : Txt K mg A) : PySem.W.keepIn K (.ref A.a_takes_contrary_order) = true := T.F_takes_contrary_order.kp
theorem Txt.k_leads_its_turns {K : PySem.W.Frag} {mg : Str → Option Value} {A : Adr} (T : Txt K mg A) : PySem.W.keepIn K (.ref A.a_leads_its_turns) = true := T.F_leads_its_turns.kp
theorem Txt.k_own_places {K : PySem.W.Frag} {mg : Str → Option Value} {A : Adr} (T : Txt K mg A) : PySem.W.keepIn K (.ref A.a_own_places) = true := T.F_own_places.kp
theorem Txt.k__law_cell_at {K : PySem.W.Frag} {mg : Str → Option Value} {A : Adr} (T : Txt K mg A) : PySem.W.keepIn K (.ref A.a__law_cell_at) = true := T.F__law_cell_at.kp
theorem Txt.k__law_mixed {K : PySem.W.Frag} {mg : Str → Option Value} {A : Adr} (T : Txt K mg A) : PySem.W.keepIn K (.ref A.a__law_mixed) = true := T.F__law_mixed.kp
theorem Txt.k__law_drawn {K : PySem.W.Frag} {mg : Str → Option Value} {A : Adr} (T : Txt K mg A) : PySem.W.keepIn K (.ref A.a__law_drawn) = true := T.F__law_drawn.kp
theorem Txt.k__law_text {K : PySem.W.Frag} {mg : Str → Option Value} {A : Adr} (T : Txt K mg A) : PySem.W.keepIn K (.ref A.a__law_text) = true := T.F__law_text.kp
theorem Txt.k__law_rich {K : PySem.W.Frag} {mg : Str → Option Value} {A : Adr} (T : Txt K mg A) : PySem.W.keepIn K (.ref A.a__law_rich) = true := T.F__law_rich.kp
theorem Txt.k__law_number {K : PySem.W.Frag} {mg : Str → Option Value} {A : Adr} (T : Txt K mg A) : PySem.W.keepIn K (.ref A.a__law_number) = true := T.F__law_number.kp
theorem Txt.k__law_order {K : PySem.W.Frag} {mg : Str → Option Value} {A : Adr} (T : Txt K mg A) : PySem.W.keepIn K (.ref A.a__law_order) = true := T.F__law_order.kp
theorem Txt.k__law_is_least {K : PySem.W.Frag} {mg : Str → Option Value} {A : Adr} (T : Txt K mg A) : PySem.W.keepIn K (.ref A.a__law_is_least) = true := T.F__law_is_least.kp
theorem Txt.k_law {K : PySem.W.Frag} {mg : Str → Option Value} {A : Adr} (T : Txt K mg A) : PySem.W.keepIn K (.ref A.a_law) = true := T.F_law.kp

section
variable {P : Program} {w : World} {K : PySem.W.Frag} {mg : Str → Option Value} {base : Heap} {A₀ : Adr}
theorem sc_has_beat : FnScope ["text", "beat"] ["text", "beat"] (defScope s_has_beat) := ⟨rfl, rfl, rfl, by decide +kernel, rfl, by decide +kernel, by decide +kernel⟩
theorem ok_has_beat (T : Txt K mg A₀) : FnOk P w K mg base CX0 1 A₀.a_has_beat A₀.d_has_beat ["text", "beat"] (spHB) := by
  refine T.F_has_beat.ok (k := 0) sc_has_beat (fun vs H Q E h => ?_) (fun cdv A outer s H vs Q E hr h => ?_)
  · obtain ⟨z, b, rfl, _⟩ := h
    rfl
  obtain ⟨z, b, rfl, hz, b0, b1, q⟩ := h
  have hu : (_ : Nat) + 64 < cLine ∧ (_ : Nat) < cLine := ⟨hr.units, hr.units0⟩
  refine ⟨_, (@pss_one _ _ _ (@ps_ret _ _ _ _ (@pe_cmpR _ _ _ _ _ _ _ _ op_eq (@pe_slice _ _ _ _ _ _ _ _ _ _ sl_str (@pv _ 0 _ _ (by rfl) (by first | exact Or.inl rfl | exact Or.inr ( Or.inl rfl ) | exact Or.inr ( Or.inr rfl )) (by decide) (by decide)) (@po_none _) (@po_some _ _ _ (@pe_op _ _ _ _ _ _ _ _ op_sub (@pe_callB _ _ _ _ _ _ _ _ _ call_len_str rfl T.z_len PySem.boot_len (@pa_cons _ _ _ _ _ (@pv _ 0 _ _ (by rfl) (by first | exact Or.inl rfl | exact Or.inr ( Or.inl rfl ) | exact Or.inr ( Or.inr rfl )) (by decide) (by decide)) (@pa_nil _) (by rfl)) (by decide) (by decide) (by rfl) (by rfl)) (@pv _ 1 _ _ (by rfl) (by first | exact Or.inl rfl | exact Or.inr ( Or.inl rfl ) | exact Or.inr ( Or.inr rfl )) (by decide) (by decide))))) (@pe_slice _ _ _ _ _ _ _ _ _ _ sl_str (@pv _ 0 _ _ (by rfl) (by first | exact Or.inl rfl | exact Or.inr ( Or.inl rfl ) | exact Or.inr ( Or.inr rfl )) (by decide) (by decide)) (@po_some _ _ _ (@pv _ 1 _ _ (by rfl) (by first | exact Or.inl rfl | exact Or.inr ( Or.inl rfl ) | exact Or.inr ( Or.inr rfl )) (by decide) (by decide))) (@po_none _)) (nomark _)))), ?_⟩
  refine ⟨_, rfl, _, rfl, z, rfl, small (by omega), _, rfl, _, _, rfl, rfl, _, rfl, z, rfl, small (by omega), _, rfl, _, rfl, b, rfl, z, rfl, small (by omega), rfl, ?_⟩
  refine q _ ?_
  rw [cut_ns _ (by omega), cut_sn _ b0, decide_eq_true_eq, V.str.injEq, ofL_inj]
  unfold Mth.hb
  rw [toL_len, show ((z.length : Int) - b).toNat = z.length - b.toNat by omega]
theorem sc_least_beat : FnScope ["text", "beat"] ["text"] (defScope s_least_beat) := ⟨rfl, rfl, rfl, by decide +kernel, rfl, by decide +kernel, by decide +kernel⟩
theorem ok_least_beat (T : Txt K mg A₀) : FnOk P w K mg base CX0 2 A₀.a_least_beat A₀.d_least_beat ["text"] (spLB) := by
  have G_has_beat : FnOk P w K mg base CX0 1 A₀.a_has_beat A₀.d_has_beat ["text", "beat"] (spHB) := ok_has_beat T
  refine T.F_least_beat.ok (k := 1) sc_least_beat (fun vs H Q E h => ?_) (fun cdv A outer s H vs Q E hr h => ?_)
  · obtain ⟨z, rfl, _⟩ := h
    rfl
  obtain ⟨z, rfl, z1, hz, q⟩ := h
  have hu : (_ : Nat) + 64 < cLine ∧ (_ : Nat) < cLine := ⟨hr.units, hr.units0⟩
  refine ⟨_, (@pss_cons _ _ _ _ _ (@ps_for _ _ _ _ _ _ _ _ PassesOwn.never rfl (@pi_range2 _ _ _ _ _ _ _ rfl T.z_range (@pa_cons _ _ _ _ _ (@pe_int _ _ _ _) (@pa_cons _ _ _ _ _ (@pe_callB _ _ _ _ _ _ _ _ _ call_len_str rfl T.z_len PySem.boot_len (@pa_cons _ _ _ _ _ (@pv _ 0 _ _ (by rfl) (by first | exact Or.inl rfl | exact Or.inr ( Or.inl rfl ) | exact Or.inr ( Or.inr rfl )) (by decide) (by decide)) (@pa_nil _) (by rfl)) (by decide) (by decide) (by rfl) (by rfl)) (@pa_nil _) (by rfl)) (by rfl)) (by rfl) (by rfl)) (@pg_name _ _ (1) _ sc_least_beat.nd rfl (Or.inl rfl) (by first | exact Or.inl rfl | exact Or.inr rfl | assumption)) (@pss_one _ _ _ (@ps_if _ _ _ _ _ _ _ _ (@pt_val _ _ _ (@pe_call _ _ _ _ _ _ _ _ _ _ _ _ _ _ _ _ G_has_beat (hr.mono (by decide)) rfl T.m_has_beat T.k_has_beat T.b_has_beat .nil pass0 (@pa_cons _ _ _ _ _ (@pv _ 0 _ _ (by rfl) (by first | exact Or.inl rfl | exact Or.inr ( Or.inl rfl ) | exact Or.inr ( Or.inr rfl )) (by decide) (by decide)) (@pa_cons _ _ _ _ _ (@pv _ 1 _ _ (by rfl) (by first | exact Or.inl rfl | exact Or.inr ( Or.inl rfl ) | exact Or.inr ( Or.inr rfl )) (by decide) (by decide)) (@pa_nil _) (by rfl)) (by rfl)) (by decide) (by rfl) (by rfl)) (by intro _ ; rfl)) (@pss_one _ _ _ (@ps_ret _ _ _ _ (@pv _ 1 _ _ (by rfl) (by first | exact Or.inl rfl | exact Or.inr ( Or.inl rfl ) | exact Or.inr ( Or.inr rfl )) (by decide) (by decide)))) (@pss_nil _))) (by intro _ ; rfl)) (@pss_one _ _ _ (@ps_ret _ _ _ _ (@pe_callB _ _ _ _ _ _ _ _ _ call_len_str rfl T.z_len PySem.boot_len (@pa_cons _ _ _ _ _ (@pv _ 0 _ _ (by rfl) (by first | exact Or.inl rfl | exact Or.inr ( Or.inl rfl ) | exact Or.inr ( Or.inr rfl )) (by decide) (by decide)) (@pa_nil _) (by rfl)) (by decide) (by decide) (by rfl) (by rfl))))), ?_⟩
  refine ⟨_, rfl, z, rfl, small (by omega), 1, _, rfl, ⟨by decide, by decide, by omega, by omega⟩, for_range (lo := 1) (n := ((z.length : Int) - 1).toNat) (fun i σ H2 => ∃ bt : Option V, σ = [some (.str z), bt] ∧ H2 = H ∧ ∀ t, 1 ≤ t → t < i + 1 → ¬ Mth.hb (toL z) t)
    ⟨none, rfl, rfl, fun t h1 h2 => by omega⟩ ?_ ?_⟩
  · rintro i σ H2 hi ⟨bt, rfl, rfl, hn⟩
    refine ⟨_, rfl, _, rfl, z, 1 + (i : Int), rfl, by omega, by omega, by omega, fun c hc => ?_⟩
    rw [show (1 + (i : Int)).toNat = i + 1 by omega] at hc
    refine ⟨_, rfl, ?_⟩
    cases c with
    | true =>
      refine iteT ?_
      refine ⟨_, rfl, ?_⟩
      have := q (i + 1) ⟨by omega, by rw [toL_len]; omega, hc.mp rfl, fun t h1 h2 => hn t h1 h2⟩
      rw [show ((i + 1 : Nat) : Int) = 1 + (i : Int) by omega] at this
      exact this
    | false =>
      refine iteF ?_
      refine ⟨_, rfl, rfl, fun t h1 h2 => ?_⟩
      rcases Nat.lt_or_ge t (i + 1) with z' | z'
      · exact hn t h1 z'
      · have : t = i + 1 := by omega
        subst this
        exact fun w' => absurd (hc.mpr w') (by decide)
  · rintro σ H2 ⟨bt, rfl, rfl, hn⟩
    refine ⟨_, rfl, z, rfl, small (by omega), ?_⟩
    exact q z.length ⟨by omega, by rw [toL_len]; omega, by rw [← toL_len]; exact Mth.hb_len _, fun t h1 h2 => hn t h1 (by omega)⟩
theorem sc_is_double : FnScope ["text", "place", "half", "middle"] ["text", "place", "half"] (defScope s_is_double) := ⟨rfl, rfl, rfl, by decide +kernel, rfl, by decide +kernel, by decide +kernel⟩
theorem ok_is_double (T : Txt K mg A₀) : FnOk P w K mg base CX0 1 A₀.a_is_double A₀.d_is_double ["text", "place", "half"] (spDb) := by
  refine T.F_is_double.ok (k := 0) sc_is_double (fun vs H Q E h => ?_) (fun cdv A outer s H vs Q E hr h => ?_)
  · obtain ⟨z, p, hf, rfl, _⟩ := h
    rfl
  obtain ⟨z, p, hf, rfl, hz, p0, h0, q⟩ := h
  have hu : (_ : Nat) + 64 < cLine ∧ (_ : Nat) < cLine := ⟨hr.units, hr.units0⟩
  refine ⟨_, (@pss_cons _ _ _ _ _ (@ps_set _ _ (3) _ _ _ _ sc_is_double.nd rfl (Or.inl rfl) (@pe_op _ _ _ _ _ _ _ _ op_add (@pv _ 1 _ _ (by rfl) (by first | exact Or.inl rfl | exact Or.inr ( Or.inl rfl ) | exact Or.inr ( Or.inr rfl )) (by decide) (by decide)) (@pv _ 2 _ _ (by rfl) (by first | exact Or.inl rfl | exact Or.inr ( Or.inl rfl ) | exact Or.inr ( Or.inr rfl )) (by decide) (by decide))) (by rfl) (by first | exact Or.inl rfl | exact Or.inr rfl | assumption)) (@pss_one _ _ _ (@ps_ret _ _ _ _ (@pe_cmpR _ _ _ _ _ _ _ _ op_eq (@pe_slice _ _ _ _ _ _ _ _ _ _ sl_str (@pv _ 0 _ _ (by rfl) (by first | exact Or.inl rfl | exact Or.inr ( Or.inl rfl ) | exact Or.inr ( Or.inr rfl )) (by decide) (by decide)) (@po_some _ _ _ (@pv _ 1 _ _ (by rfl) (by first | exact Or.inl rfl | exact Or.inr ( Or.inl rfl ) | exact Or.inr ( Or.inr rfl )) (by decide) (by decide))) (@po_some _ _ _ (@pv _ 3 _ _ (by rfl) (by first | exact Or.inl rfl | exact Or.inr ( Or.inl rfl ) | exact Or.inr ( Or.inr rfl )) (by decide) (by decide)))) (@pe_slice _ _ _ _ _ _ _ _ _ _ sl_str (@pv _ 0 _ _ (by rfl) (by first | exact Or.inl rfl | exact Or.inr ( Or.inl rfl ) | exact Or.inr ( Or.inr rfl )) (by decide) (by decide)) (@po_some _ _ _ (@pv _ 3 _ _ (by rfl) (by first | exact Or.inl rfl | exact Or.inr ( Or.inl rfl ) | exact Or.inr ( Or.inr rfl )) (by decide) (by decide))) (@po_some _ _ _ (@pe_op _ _ _ _ _ _ _ _ op_add (@pv _ 3 _ _ (by rfl) (by first | exact Or.inl rfl | exact Or.inr ( Or.inl rfl ) | exact Or.inr ( Or.inr rfl )) (by decide) (by decide)) (@pv _ 2 _ _ (by rfl) (by first | exact Or.inl rfl | exact Or.inr ( Or.inl rfl ) | exact Or.inr ( Or.inr rfl )) (by decide) (by decide))))) (nomark _))))), ?_⟩
  refine ⟨_, rfl, _, rfl, _, _, rfl, rfl, ?_⟩
  refine ⟨_, rfl, _, rfl, p, rfl, _, rfl, p + hf, rfl, z, rfl, small (by omega), _, rfl, _, rfl, p + hf, rfl, _, rfl, _, rfl, _, _, rfl, rfl, _, rfl, z, rfl, small (by omega), rfl, ?_⟩
  refine q _ ?_
  rw [cut_ss _ p0 (by omega), cut_ss _ (by omega) (by omega), Bool.eq_iff_iff]
  unfold Mth.isD
  rw [decide_eq_true_eq, decide_eq_true_eq, V.str.injEq, ofL_inj, show (p + hf).toNat - p.toNat = hf.toNat by omega, show (p + hf + hf).toNat - (p + hf).toNat = hf.toNat by omega, show (p + hf).toNat = p.toNat + hf.toNat by omega]
theorem sc_doubles : FnScope ["text", "found", "place", "most_half", "half"] ["text"] (defScope s_doubles) := ⟨rfl, rfl, rfl, by decide +kernel, rfl, by decide +kernel, by decide +kernel⟩
theorem ok_doubles (T : Txt K mg A₀) : FnOk P w K mg base CX0 2 A₀.a_doubles A₀.d_doubles ["text"] (spDoubles) := by
  have G_is_double : FnOk P w K mg base CX0 1 A₀.a_is_double A₀.d_is_double ["text", "place", "half"] (spDb) := ok_is_double T
  refine T.F_doubles.ok (k := 1) sc_doubles (fun vs H Q E h => ?_) (fun cdv A outer s H vs Q E hr h => ?_)
  · obtain ⟨z, rfl, _⟩ := h
    rfl
  obtain ⟨z, rfl, hz, q⟩ := h
  have hu : (_ : Nat) + 64 < cLine ∧ (_ : Nat) < cLine := ⟨hr.units, hr.units0⟩
  refine ⟨_, (@pss_cons _ _ _ _ _ (@ps_set _ _ (1) _ _ _ _ sc_doubles.nd rfl (Or.inl rfl) (@pe_lst _ _ _ _ (@pa_nil _)) (by rfl) (by first | exact Or.inl rfl | exact Or.inr rfl | assumption)) (@pss_cons _ _ _ _ _ (@ps_for _ _ _ _ _ _ _ _ PassesOwn.never rfl (@pi_range1 _ _ _ _ _ _ rfl T.z_range (@pa_cons _ _ _ _ _ (@pe_callB _ _ _ _ _ _ _ _ _ call_len_str rfl T.z_len PySem.boot_len (@pa_cons _ _ _ _ _ (@pv _ 0 _ _ (by rfl) (by first | exact Or.inl rfl | exact Or.inr ( Or.inl rfl ) | exact Or.inr ( Or.inr rfl )) (by decide) (by decide)) (@pa_nil _) (by rfl)) (by decide) (by decide) (by rfl) (by rfl)) (@pa_nil _) (by rfl)) (by rfl)) (@pg_name _ _ (2) _ sc_doubles.nd rfl (Or.inl rfl) (by first | exact Or.inl rfl | exact Or.inr rfl | assumption)) (@pss_cons _ _ _ _ _ (@ps_set _ _ (3) _ _ _ _ sc_doubles.nd rfl (Or.inl rfl) (@pe_op _ _ _ _ _ _ _ _ op_fdiv (@pe_op _ _ _ _ _ _ _ _ op_sub (@pe_callB _ _ _ _ _ _ _ _ _ call_len_str rfl T.z_len PySem.boot_len (@pa_cons _ _ _ _ _ (@pv _ 0 _ _ (by rfl) (by first | exact Or.inl rfl | exact Or.inr ( Or.inl rfl ) | exact Or.inr ( Or.inr rfl )) (by decide) (by decide)) (@pa_nil _) (by rfl)) (by decide) (by decide) (by rfl) (by rfl)) (@pv _ 2 _ _ (by rfl) (by first | exact Or.inl rfl | exact Or.inr ( Or.inl rfl ) | exact Or.inr ( Or.inr rfl )) (by decide) (by decide))) (@pe_int _ _ _ _)) (by rfl) (by first | exact Or.inl rfl | exact Or.inr rfl | assumption)) (@pss_one _ _ _ (@ps_for _ _ _ _ _ _ _ _ PassesOwn.never rfl (@pi_range2 _ _ _ _ _ _ _ rfl T.z_range (@pa_cons _ _ _ _ _ (@pe_int _ _ _ _) (@pa_cons _ _ _ _ _ (@pe_op _ _ _ _ _ _ _ _ op_add (@pv _ 3 _ _ (by rfl) (by first | exact Or.inl rfl | exact Or.inr ( Or.inl rfl ) | exact Or.inr ( Or.inr rfl )) (by decide) (by decide)) (@pe_int _ _ _ _)) (@pa_nil _) (by rfl)) (by rfl)) (by rfl) (by rfl)) (@pg_name _ _ (4) _ sc_doubles.nd rfl (Or.inl rfl) (by first | exact Or.inl rfl | exact Or.inr rfl | assumption)) (@pss_one _ _ _ (@ps_if _ _ _ _ _ _ _ _ (@pt_val _ _ _ (@pe_call _ _ _ _ _ _ _ _ _ _ _ _ _ _ _ _ G_is_double (hr.mono (by decide)) rfl T.m_is_double T.k_is_double T.b_is_double .nil pass0 (@pa_cons _ _ _ _ _ (@pv _ 0 _ _ (by rfl) (by first | exact Or.inl rfl | exact Or.inr ( Or.inl rfl ) | exact Or.inr ( Or.inr rfl )) (by decide) (by decide)) (@pa_cons _ _ _ _ _ (@pv _ 2 _ _ (by rfl) (by first | exact Or.inl rfl | exact Or.inr ( Or.inl rfl ) | exact Or.inr ( Or.inr rfl )) (by decide) (by decide)) (@pa_cons _ _ _ _ _ (@pv _ 4 _ _ (by rfl) (by first | exact Or.inl rfl | exact Or.inr ( Or.inl rfl ) | exact Or.inr ( Or.inr rfl )) (by decide) (by decide)) (@pa_nil _) (by rfl)) (by rfl)) (by rfl)) (by decide) (by rfl) (by rfl)) (by intro _ ; rfl)) (@pss_one _ _ _ (@ps_expr _ _ _ _ (@pe_bm _ _ _ _ _ _ _ _ _ _ _ _ PySem.F.plainAttrs_list PySem.F.slot_list_append PySem.F.type_list_append mt_append (@pv _ 1 _ _ (by rfl) (by first | exact Or.inl rfl | exact Or.inr ( Or.inl rfl ) | exact Or.inr ( Or.inr rfl )) (by decide) (by decide)) (@pa_cons _ _ _ _ _ (@pe_tup _ _ _ _ _ (@pa_cons _ _ _ _ _ (@pv _ 2 _ _ (by rfl) (by first | exact Or.inl rfl | exact Or.inr ( Or.inl rfl ) | exact Or.inr ( Or.inr rfl )) (by decide) (by decide)) (@pa_cons _ _ _ _ _ (@pv _ 4 _ _ (by rfl) (by first | exact Or.inl rfl | exact Or.inr ( Or.inl rfl ) | exact Or.inr ( Or.inr rfl )) (by decide) (by decide)) (@pa_nil _) (by rfl)) (by rfl))) (@pa_nil _) (by rfl)) (by rfl) (by rfl) (by rfl) (by rfl) (by rfl)) (by rfl))) (@pss_nil _))) (by intro _ ; rfl)))) (by intro _ ; rfl)) (@pss_one _ _ _ (@ps_ret _ _ _ _ (@pe_callTy _ _ _ _ _ _ _ _ _ call_tuple_of rfl T.z_tuple PyProof.Rows.boot_tuple (@pa_cons _ _ _ _ _ (@pv _ 1 _ _ (by rfl) (by first | exact Or.inl rfl | exact Or.inr ( Or.inl rfl ) | exact Or.inr ( Or.inr rfl )) (by decide) (by decide)) (@pa_nil _) (by rfl)) (by decide) (by decide) (by rfl) (by rfl)))))), ?_⟩
  refine ⟨(by show 0 ≤ sizeLine; decide), fun l hl => ?_⟩
  refine ⟨_, rfl, z, rfl, small (by omega), _, rfl, by omega, by omega, for_range (lo := 0) (n := ((z.length : Nat) : Int).toNat) (fun i σ H2 => ∃ (v1 v2 v3 : Option V) (xs : List V), σ = [some (.str z), some (.ref l), v1, v2, v3] ∧ Same H H2 ∧ H2 l = some (.lst xs) ∧ RepP H2 xs (Mth.rows (Mth.isD (toL z)) (fun p => ((toL z).length - p) / 2) i))
    ⟨none, none, none, [], rfl, same_new hl _, upd_same, .nil⟩ ?_ ?_⟩
  · rintro i σ H2 hi ⟨v1, v2, v3, xs, rfl, s2, hx, rp⟩
    have hi' : i < z.length := by omega
    refine ⟨_, rfl, z, rfl, small (by omega), _, rfl, _, _, rfl, rfl, _, _, rfl, rfl, ⟨by decide, by decide⟩, ?_⟩
    have eh : ((z.length : Int) - (0 + (i : Int))) / 2 = (((z.length - i) / 2 : Nat) : Int) := by omega
    dsimp only
    rw [eh]
    have hb : (z.length - i) / 2 ≤ 100 := by omega
    have tl := toL_len z
    refine ⟨_, rfl, _, _, rfl, rfl, 1, _, rfl, ⟨by decide, by decide, by omega, by omega⟩, for_range (lo := 1) (n := ((((z.length - i) / 2 : Nat) : Int) + 1 - 1).toNat) (fun j σ H3 => ∃ (v3 : Option V) (xs : List V), σ = [some (.str z), some (.ref l), some (.int (0 + (i : Int))), some (.int (((z.length - i) / 2 : Nat) : Int)), v3] ∧ Same H H3 ∧ H3 l = some (.lst xs) ∧ RepP H3 xs (Mth.rows (Mth.isD (toL z)) (fun p => ((toL z).length - p) / 2) i ++ Mth.row (Mth.isD (toL z)) i j))
      ⟨v3, xs, rfl, s2, hx, by simpa [Mth.row] using rp⟩ ?_ ?_⟩
    · rintro j σ H3 hj ⟨v3, xs, rfl, s3, hx, rp⟩
      refine ⟨_, rfl, _, rfl, _, rfl, z, 0 + (i : Int), 1 + (j : Int), rfl, by omega, by omega, by omega, fun c hc => ?_⟩
      rw [show (0 + (i : Int)).toNat = i by omega, show (1 + (j : Int)).toNat = j + 1 by omega] at hc
      have lenb : (Mth.rows (Mth.isD (toL z)) (fun p => ((toL z).length - p) / 2) i ++ Mth.row (Mth.isD (toL z)) i j).length ≤ 20000 := by
        rw [List.length_append]
        have r1 := Mth.rows_len (Mth.isD (toL z)) (fun p => ((toL z).length - p) / 2) i 100 (fun p _ => by rw [tl]; omega)
        have r2 := Mth.row_len (Mth.isD (toL z)) i j
        have r3 : i * 100 ≤ 100 * 100 := Nat.mul_le_mul_right 100 (by omega)
        omega
      refine ⟨_, rfl, ?_⟩
      cases c with
      | true =>
        refine iteT ?_
        refine ⟨_, rfl, .inl ⟨rfl, _, SqL.of hx⟩, _, rfl, _, rfl, (by show 2 ≤ sizeLine; decide), fun p hp => ?_⟩
        refine ⟨l, xs, _, rfl, rfl, (by rw [upd_ne (ne_of_none hx hp)]; exact hx), (by rw [rp.length]; exact Nat.lt_of_le_of_lt lenb (by decide)), ?_⟩
        refine ⟨_, _, rfl, same_upd (s3.trans (same_new hp _)) hl, upd_same, ?_⟩
        rw [Mth.row_succ, ← hc, if_pos rfl, ← List.append_assoc]
        refine RepP.add rp hx hp ?_ ?_
        · omega
        · omega
      | false =>
        refine iteF ?_
        refine ⟨_, xs, rfl, s3, hx, ?_⟩
        rw [Mth.row_succ, ← hc, if_neg Bool.false_ne_true, List.append_nil]
        exact rp
    · rintro σ H3 ⟨v3, xs, rfl, s3, hx, rp⟩
      refine ⟨_, _, _, xs, rfl, s3, hx, ?_⟩
      rw [Mth.rows_succ]
      have e : ((((z.length - i) / 2 : Nat) : Int) + 1 - 1).toNat = ((toL z).length - i) / 2 := by rw [tl]; omega
      rw [e] at rp
      exact rp
  · rintro σ H2 ⟨v1, v2, v3, xs, rfl, s2, hx, rp⟩
    refine ⟨_, rfl, l, xs, rfl, .inl ⟨SqL.of hx, fun p hp => ?_⟩⟩
    refine q p xs _ (s2.trans (same_new hp _)) upd_same ?_
    have e : (((z.length : Nat) : Int)).toNat = (toL z).length := by rw [toL_len]; omega
    rw [e, Mth.doubles_eq] at rp
    exact rp.same (same_new hp _)
theorem sc_reach_ahead : FnScope ["text", "first", "beat"] ["text", "first", "beat"] (defScope s_reach_ahead) := ⟨rfl, rfl, rfl, by decide +kernel, rfl, by decide +kernel, by decide +kernel⟩
theorem ok_reach_ahead (T : Txt K mg A₀) : FnOk P w K mg base CX0 1 A₀.a_reach_ahead A₀.d_reach_ahead ["text", "first", "beat"] (spAhead) := by
  refine T.F_reach_ahead.ok (k := 0) sc_reach_ahead (fun vs H Q E h => ?_) (fun cdv A outer s H vs Q E hr h => ?_)
  · obtain ⟨z, f, b, rfl, _⟩ := h
    rfl
  obtain ⟨z, f, b, rfl, hz, hfb, q⟩ := h
  have hu : (_ : Nat) + 64 < cLine ∧ (_ : Nat) < cLine := ⟨hr.units, hr.units0⟩
  refine ⟨_, (@pss_cons _ _ _ _ _ (@ps_while _ _ _ _ _ _ PassesOwn.never (@PW.pt _ _ _ (@pw_and _ _ _ _ _ _ _ (@pt_cmpR _ _ _ _ _ _ _ _ op_gt (@pv _ 1 _ _ (by rfl) (by first | exact Or.inl rfl | exact Or.inr ( Or.inl rfl ) | exact Or.inr ( Or.inr rfl )) (by decide) (by decide)) (@pe_int _ _ _ _) (nomark _)) (@pw_and1 _ _ _ _ (@pt_cmpR _ _ _ _ _ _ _ _ op_eq (@pe_ix _ _ _ _ _ _ _ ix_str (@pv _ 0 _ _ (by rfl) (by first | exact Or.inl rfl | exact Or.inr ( Or.inl rfl ) | exact Or.inr ( Or.inr rfl )) (by decide) (by decide)) (@pe_op _ _ _ _ _ _ _ _ op_sub (@pv _ 1 _ _ (by rfl) (by first | exact Or.inl rfl | exact Or.inr ( Or.inl rfl ) | exact Or.inr ( Or.inr rfl )) (by decide) (by decide)) (@pe_int _ _ _ _)) (fun _ _ => rfl)) (@pe_ix _ _ _ _ _ _ _ ix_str (@pv _ 0 _ _ (by rfl) (by first | exact Or.inl rfl | exact Or.inr ( Or.inl rfl ) | exact Or.inr ( Or.inr rfl )) (by decide) (by decide)) (@pe_op _ _ _ _ _ _ _ _ op_add (@pe_op _ _ _ _ _ _ _ _ op_sub (@pv _ 1 _ _ (by rfl) (by first | exact Or.inl rfl | exact Or.inr ( Or.inl rfl ) | exact Or.inr ( Or.inr rfl )) (by decide) (by decide)) (@pe_int _ _ _ _)) (@pv _ 2 _ _ (by rfl) (by first | exact Or.inl rfl | exact Or.inr ( Or.inl rfl ) | exact Or.inr ( Or.inr rfl )) (by decide) (by decide))) (fun _ _ => rfl)) (nomark _))))) (@pss_one _ _ _ (@ps_aug _ _ (1) _ _ _ _ _ _ sc_reach_ahead.nd rfl (Or.inl rfl) (@pe_int _ _ _ _) ip_sub (by first | exact Or.inl rfl | exact Or.inr rfl | assumption)))) (@pss_one _ _ _ (@ps_ret _ _ _ _ (@pv _ 1 _ _ (by rfl) (by first | exact Or.inl rfl | exact Or.inr ( Or.inl rfl ) | exact Or.inr ( Or.inr rfl )) (by decide) (by decide))))), ?_⟩
  have tl := toL_len z
  refine ⟨fun mm σ H2 => ∃ g : Nat, σ = [some (.str z), some (.int (g : Nat)), some (.int (b : Nat))] ∧ H2 = H ∧ g ≤ f ∧ (∀ t, g ≤ t → t < f → (toL z)[t]? = (toL z)[t + b]?) ∧ mm = g,
    ⟨_, f, rfl, rfl, Nat.le_refl _, fun t h1 h2 => by omega, rfl⟩, ?_⟩
  rintro mm σ H2 ⟨g, rfl, rfl, gf, ge, hm⟩
  refine ⟨_, rfl, _, _, rfl, rfl, _, rfl, ?_⟩
  refine ite2 (fun c1 => ?_) (fun c1 => ?_)
  · have c1' : (0 : Int) < g := of_decide_eq_true c1
    obtain ⟨x1, h1, h1', _⟩ := at_some (l := toL z) (k := (g : Int) - 1) (by omega) (by omega)
    obtain ⟨x2, h2, h2', _⟩ := at_some (l := toL z) (k := (g : Int) - 1 + (b : Int)) (by omega) (by omega)
    rw [show ((g : Int) - 1).toNat = g - 1 by omega] at h1'
    rw [show ((g : Int) - 1 + (b : Int)).toNat = g - 1 + b by omega] at h2'
    refine ⟨_, rfl, _, rfl, _, _, rfl, rfl, z, _, x1, rfl, rfl, small (by omega), h1, _, rfl, _, rfl, _, _, rfl, rfl, _, rfl, _, _, rfl, rfl, z, _, x2, rfl, rfl, small (by omega), h2, rfl, _, rfl, ?_⟩
    refine ite2 (fun c2 => ?_) (fun c2 => ?_)
    · have c2' := one_eq.mp (of_decide_eq_true c2)
      refine ⟨fun σ' H' => σ' = [some (.str z), some (.int ((g - 1 : Nat) : Int)), some (.int (b : Nat))] ∧ H' = H2, ?_, ?_⟩
      · rintro σ' H' ⟨rfl, rfl⟩
        refine ⟨g - 1, by omega, g - 1, rfl, rfl, by omega, fun t h3 h4 => ?_, rfl⟩
        rcases Nat.lt_or_ge t g with z' | z'
        · have : t = g - 1 := by omega
          subst this
          rw [h1', h2', c2']
        · exact ge t z' h4
      · refine ⟨_, rfl, _, _, rfl, rfl, ?_, rfl⟩
        show [some (V.str z), some (V.int ((g : Int) - 1)), some (V.int (b : Nat))] = _
        rw [show (g : Int) - 1 = ((g - 1 : Nat) : Int) by omega]
    · refine ⟨_, rfl, q g gf ge (.inr ?_)⟩
      rw [h1', h2']
      exact fun e => c2 (decide_eq_true (one_eq.mpr (Option.some.inj e)))
  · refine ⟨_, rfl, q g gf ge (.inl ?_)⟩
    have : ¬ (0 : Int) < g := fun e => c1 (decide_eq_true e)
    omega
theorem sc_reach_behind : FnScope ["text", "end", "beat"] ["text", "end", "beat"] (defScope s_reach_behind) := ⟨rfl, rfl, rfl, by decide +kernel, rfl, by decide +kernel, by decide +kernel⟩
theorem ok_reach_behind (T : Txt K mg A₀) : FnOk P w K mg base CX0 1 A₀.a_reach_behind A₀.d_reach_behind ["text", "end", "beat"] (spBehind) := by
  refine T.F_reach_behind.ok (k := 0) sc_reach_behind (fun vs H Q E h => ?_) (fun cdv A outer s H vs Q E hr h => ?_)
  · obtain ⟨z, e, b, rfl, _⟩ := h
    rfl
  obtain ⟨z, e, b, rfl, hz, he, hb, q⟩ := h
  have hu : (_ : Nat) + 64 < cLine ∧ (_ : Nat) < cLine := ⟨hr.units, hr.units0⟩
  refine ⟨_, (@pss_cons _ _ _ _ _ (@ps_while _ _ _ _ _ _ PassesOwn.never (@PW.pt _ _ _ (@pw_and _ _ _ _ _ _ _ (@pt_cmpR _ _ _ _ _ _ _ _ op_lt (@pv _ 1 _ _ (by rfl) (by first | exact Or.inl rfl | exact Or.inr ( Or.inl rfl ) | exact Or.inr ( Or.inr rfl )) (by decide) (by decide)) (@pe_callB _ _ _ _ _ _ _ _ _ call_len_str rfl T.z_len PySem.boot_len (@pa_cons _ _ _ _ _ (@pv _ 0 _ _ (by rfl) (by first | exact Or.inl rfl | exact Or.inr ( Or.inl rfl ) | exact Or.inr ( Or.inr rfl )) (by decide) (by decide)) (@pa_nil _) (by rfl)) (by decide) (by decide) (by rfl) (by rfl)) (nomark _)) (@pw_and1 _ _ _ _ (@pt_cmpR _ _ _ _ _ _ _ _ op_eq (@pe_ix _ _ _ _ _ _ _ ix_str (@pv _ 0 _ _ (by rfl) (by first | exact Or.inl rfl | exact Or.inr ( Or.inl rfl ) | exact Or.inr ( Or.inr rfl )) (by decide) (by decide)) (@pv _ 1 _ _ (by rfl) (by first | exact Or.inl rfl | exact Or.inr ( Or.inl rfl ) | exact Or.inr ( Or.inr rfl )) (by decide) (by decide)) (fun _ _ => rfl)) (@pe_ix _ _ _ _ _ _ _ ix_str (@pv _ 0 _ _ (by rfl) (by first | exact Or.inl rfl | exact Or.inr ( Or.inl rfl ) | exact Or.inr ( Or.inr rfl )) (by decide) (by decide)) (@pe_op _ _ _ _ _ _ _ _ op_sub (@pv _ 1 _ _ (by rfl) (by first | exact Or.inl rfl | exact Or.inr ( Or.inl rfl ) | exact Or.inr ( Or.inr rfl )) (by decide) (by decide)) (@pv _ 2 _ _ (by rfl) (by first | exact Or.inl rfl | exact Or.inr ( Or.inl rfl ) | exact Or.inr ( Or.inr rfl )) (by decide) (by decide))) (fun _ _ => rfl)) (nomark _))))) (@pss_one _ _ _ (@ps_aug _ _ (1) _ _ _ _ _ _ sc_reach_behind.nd rfl (Or.inl rfl) (@pe_int _ _ _ _) ip_add (by first | exact Or.inl rfl | exact Or.inr rfl | assumption)))) (@pss_one _ _ _ (@ps_ret _ _ _ _ (@pv _ 1 _ _ (by rfl) (by first | exact Or.inl rfl | exact Or.inr ( Or.inl rfl ) | exact Or.inr ( Or.inr rfl )) (by decide) (by decide))))), ?_⟩
  have tl := toL_len z
  refine ⟨fun mm σ H2 => ∃ g : Nat, σ = [some (.str z), some (.int (g : Nat)), some (.int (b : Nat))] ∧ H2 = H ∧ e ≤ g ∧ g ≤ z.length ∧ (∀ t, e ≤ t → t < g → (toL z)[t]? = (toL z)[t - b]?) ∧ mm = z.length - g,
    ⟨_, e, rfl, rfl, Nat.le_refl _, he, fun t h1 h2 => by omega, rfl⟩, ?_⟩
  rintro mm σ H2 ⟨g, rfl, rfl, eg, gz, ge, rfl⟩
  refine ⟨_, rfl, _, rfl, z, rfl, small (by omega), _, _, rfl, rfl, _, rfl, ?_⟩
  refine ite2 (fun c1 => ?_) (fun c1 => ?_)
  · have c1' : (g : Int) < (z.length : Int) := of_decide_eq_true c1
    obtain ⟨x1, h1, h1', _⟩ := at_some (l := toL z) (k := (g : Int)) (by omega) (by omega)
    obtain ⟨x2, h2, h2', _⟩ := at_some (l := toL z) (k := (g : Int) - (b : Int)) (by omega) (by omega)
    rw [Int.toNat_natCast] at h1'
    rw [show ((g : Int) - (b : Int)).toNat = g - b by omega] at h2'
    refine ⟨_, rfl, _, rfl, z, _, x1, rfl, rfl, small (by omega), h1, _, rfl, _, rfl, _, rfl, _, _, rfl, rfl, z, _, x2, rfl, rfl, small (by omega), h2, rfl, _, rfl, ?_⟩
    refine ite2 (fun c2 => ?_) (fun c2 => ?_)
    · have c2' := one_eq.mp (of_decide_eq_true c2)
      refine ⟨fun σ' H' => σ' = [some (.str z), some (.int ((g + 1 : Nat) : Int)), some (.int (b : Nat))] ∧ H' = H2, ?_, ?_⟩
      · rintro σ' H' ⟨rfl, rfl⟩
        refine ⟨z.length - (g + 1), by omega, g + 1, rfl, rfl, by omega, by omega, fun t h3 h4 => ?_, rfl⟩
        rcases Nat.lt_or_ge t g with z' | z'
        · exact ge t h3 z'
        · have : t = g := by omega
          subst this
          rw [h1', h2', c2']
      · refine ⟨_, rfl, _, _, rfl, rfl, ?_, rfl⟩
        show [some (V.str z), some (V.int ((g : Int) + 1)), some (V.int (b : Nat))] = _
        rw [show (g : Int) + 1 = ((g + 1 : Nat) : Int) by omega]
    · refine ⟨_, rfl, q g eg gz ge (.inr ?_)⟩
      rw [h1', h2']
      exact fun e => c2 (decide_eq_true (one_eq.mpr (Option.some.inj e)))
  · refine ⟨_, rfl, q g eg gz ge (.inl ?_)⟩
    have : ¬ (g : Int) < (z.length : Int) := fun e => c1 (decide_eq_true e)
    omega
theorem sc_run_of : FnScope ["text", "place", "half", "end", "beat"] ["text", "place", "half"] (defScope s_run_of) := ⟨rfl, rfl, rfl, by decide +kernel, rfl, by decide +kernel, by decide +kernel⟩
theorem ok_run_of (T : Txt K mg A₀) : FnOk P w K mg base CX0 3 A₀.a_run_of A₀.d_run_of ["text", "place", "half"] (spRunOf) := by
  have G_least_beat : FnOk P w K mg base CX0 2 A₀.a_least_beat A₀.d_least_beat ["text"] (spLB) := ok_least_beat T
  have G_reach_ahead : FnOk P w K mg base CX0 1 A₀.a_reach_ahead A₀.d_reach_ahead ["text", "first", "beat"] (spAhead) := ok_reach_ahead T
  have G_reach_behind : FnOk P w K mg base CX0 1 A₀.a_reach_behind A₀.d_reach_behind ["text", "end", "beat"] (spBehind) := ok_reach_behind T
  refine T.F_run_of.ok (k := 2) sc_run_of (fun vs H Q E h => ?_) (fun cdv A outer s H vs Q E hr h => ?_)
  · obtain ⟨z, p, hf, rfl, _⟩ := h
    rfl
  obtain ⟨z, p, hf, rfl, hz, h1, hn, hP, q⟩ := h
  have hu : (_ : Nat) + 64 < cLine ∧ (_ : Nat) < cLine := ⟨hr.units, hr.units0⟩
  refine ⟨_, (@pss_cons _ _ _ _ _ (@ps_set _ _ (3) _ _ _ _ sc_run_of.nd rfl (Or.inl rfl) (@pe_op _ _ _ _ _ _ _ _ op_add (@pv _ 1 _ _ (by rfl) (by first | exact Or.inl rfl | exact Or.inr ( Or.inl rfl ) | exact Or.inr ( Or.inr rfl )) (by decide) (by decide)) (@pe_op _ _ _ _ _ _ _ _ op_mul (@pe_int _ _ _ _) (@pv _ 2 _ _ (by rfl) (by first | exact Or.inl rfl | exact Or.inr ( Or.inl rfl ) | exact Or.inr ( Or.inr rfl )) (by decide) (by decide)))) (by rfl) (by first | exact Or.inl rfl | exact Or.inr rfl | assumption)) (@pss_cons _ _ _ _ _ (@ps_set _ _ (4) _ _ _ _ sc_run_of.nd rfl (Or.inl rfl) (@pe_call _ _ _ _ _ _ _ _ _ _ _ _ _ _ _ _ G_least_beat (hr.mono (by decide)) rfl T.m_least_beat T.k_least_beat T.b_least_beat .nil pass0 (@pa_cons _ _ _ _ _ (@pe_slice _ _ _ _ _ _ _ _ _ _ sl_str (@pv _ 0 _ _ (by rfl) (by first | exact Or.inl rfl | exact Or.inr ( Or.inl rfl ) | exact Or.inr ( Or.inr rfl )) (by decide) (by decide)) (@po_some _ _ _ (@pv _ 1 _ _ (by rfl) (by first | exact Or.inl rfl | exact Or.inr ( Or.inl rfl ) | exact Or.inr ( Or.inr rfl )) (by decide) (by decide))) (@po_some _ _ _ (@pv _ 3 _ _ (by rfl) (by first | exact Or.inl rfl | exact Or.inr ( Or.inl rfl ) | exact Or.inr ( Or.inr rfl )) (by decide) (by decide)))) (@pa_nil _) (by rfl)) (by decide) (by rfl) (by rfl)) (by rfl) (by first | exact Or.inl rfl | exact Or.inr rfl | assumption)) (@pss_one _ _ _ (@ps_ret _ _ _ _ (@pe_tup _ _ _ _ _ (@pa_cons _ _ _ _ _ (@pe_call _ _ _ _ _ _ _ _ _ _ _ _ _ _ _ _ G_reach_ahead (hr.mono (by decide)) rfl T.m_reach_ahead T.k_reach_ahead T.b_reach_ahead .nil pass0 (@pa_cons _ _ _ _ _ (@pv _ 0 _ _ (by rfl) (by first | exact Or.inl rfl | exact Or.inr ( Or.inl rfl ) | exact Or.inr ( Or.inr rfl )) (by decide) (by decide)) (@pa_cons _ _ _ _ _ (@pv _ 1 _ _ (by rfl) (by first | exact Or.inl rfl | exact Or.inr ( Or.inl rfl ) | exact Or.inr ( Or.inr rfl )) (by decide) (by decide)) (@pa_cons _ _ _ _ _ (@pv _ 4 _ _ (by rfl) (by first | exact Or.inl rfl | exact Or.inr ( Or.inl rfl ) | exact Or.inr ( Or.inr rfl )) (by decide) (by decide)) (@pa_nil _) (by rfl)) (by rfl)) (by rfl)) (by decide) (by rfl) (by rfl)) (@pa_cons _ _ _ _ _ (@pe_call _ _ _ _ _ _ _ _ _ _ _ _ _ _ _ _ G_reach_behind (hr.mono (by decide)) rfl T.m_reach_behind T.k_reach_behind T.b_reach_behind .nil pass0 (@pa_cons _ _ _ _ _ (@pv _ 0 _ _ (by rfl) (by first | exact Or.inl rfl | exact Or.inr ( Or.inl rfl ) | exact Or.inr ( Or.inr rfl )) (by decide) (by decide)) (@pa_cons _ _ _ _ _ (@pv _ 3 _ _ (by rfl) (by first | exact Or.inl rfl | exact Or.inr ( Or.inl rfl ) | exact Or.inr ( Or.inr rfl )) (by decide) (by decide)) (@pa_cons _ _ _ _ _ (@pv _ 4 _ _ (by rfl) (by first | exact Or.inl rfl | exact Or.inr ( Or.inl rfl ) | exact Or.inr ( Or.inr rfl )) (by decide) (by decide)) (@pa_nil _) (by rfl)) (by rfl)) (by rfl)) (by decide) (by rfl) (by rfl)) (@pa_cons _ _ _ _ _ (@pv _ 4 _ _ (by rfl) (by first | exact Or.inl rfl | exact Or.inr ( Or.inl rfl ) | exact Or.inr ( Or.inr rfl )) (by decide) (by decide)) (@pa_nil _) (by rfl)) (by rfl)) (by rfl))))))), ?_⟩
  have tl := toL_len z
  refine ⟨_, rfl, _, rfl, _, _, rfl, rfl, .inl ⟨by decide, by decide⟩, _, _, rfl, rfl, ?_⟩
  have ecut : cutN (toL z) (some (p : Int)) (some ((p : Int) + 2 * (hf : Int))) = ((toL z).drop p).take (p + 2 * hf - p) := by
    rw [cut_ss _ (by omega) (by omega), show ((p : Int) + 2 * (hf : Int)).toNat - ((p : Int)).toNat = p + 2 * hf - p by omega, Int.toNat_natCast]
  have lcut : (cutN (toL z) (some (p : Int)) (some ((p : Int) + 2 * (hf : Int)))).length = 2 * hf := by
    rw [ecut, List.length_take, List.length_drop]; omega
  refine ⟨_, rfl, _, rfl, _, rfl, _, rfl, _, rfl, z, rfl, small (by omega), _, rfl, (by rw [len_ofL, lcut]; omega), (by rw [len_ofL, lcut]; omega), fun b hb => ?_⟩
  rw [toL_ofL, ecut, Lyn.isLB_cut (by omega) (by omega)] at hb
  obtain ⟨x, hb2⟩ := hb
  obtain ⟨q', hq', x'⟩ := Lyn.lb_exists hf h1 hP
  have eq := x.unique x'
  subst eq
  have b1 := x.q1
  refine ⟨_, rfl, _, rfl, _, rfl, z, p, b, rfl, hz, by omega, fun f' f1 f2 f3 => ?_⟩
  refine ⟨_, rfl, _, rfl, _, rfl, z, p + 2 * hf, b, (by rw [show ((p + 2 * hf : Nat) : Int) = (p : Int) + 2 * (hf : Int) by omega]; rfl), hz, hn, by omega, fun e' e1 e2 e3 e4 => ?_⟩
  refine ⟨_, rfl, (by show 3 ≤ sizeLine; decide), fun t ht => ?_⟩
  refine q t (f', e', b) _ (same_new ht _) upd_same ?_
  obtain ⟨w1, w2⟩ := Lyn.run_of_spec (w := Lyn.wl (toL z)) (n := (toL z).length) (f := f') (e := e') h1 (by omega) hP x f1 (fun t t1 t2 => (Lyn.wl_eq (by omega) (by omega)).mpr (f2 t t1 t2))
    (f3.imp id fun y w' => y ((Lyn.wl_eq (by omega) (by omega)).mp w')) e1 (by omega) (fun t t1 t2 => (Lyn.wl_eq (by omega) (by omega)).mpr (e3 t t1 t2)) (by
      rcases e4 with y | y
      · left; omega
      · by_cases c : e' = (toL z).length
        · exact .inl c
        · exact .inr fun w' => y ((Lyn.wl_eq (by omega) (by omega)).mp w'))
  exact ⟨w1, f1, e1, w2⟩
theorem sc_runs : FnScope ["text"] ["text"] (defScope s_runs) := ⟨rfl, rfl, rfl, by decide +kernel, rfl, by decide +kernel, by decide +kernel⟩
theorem ok_runs (T : Txt K mg A₀) : FnOk P w K mg base CX0 4 A₀.a_runs A₀.d_runs ["text"] (spRuns) := by
  have G_run_of : FnOk P w K mg base CX0 3 A₀.a_run_of A₀.d_run_of ["text", "place", "half"] (spRunOf) := ok_run_of T
  have G_doubles : FnOk P w K mg base CX0 2 A₀.a_doubles A₀.d_doubles ["text"] (spDoubles) := ok_doubles T
  refine T.F_runs.ok (k := 3) sc_runs (fun vs H Q E h => ?_) (fun cdv A outer s H vs Q E hr h => ?_)
  · obtain ⟨z, rfl, _⟩ := h
    rfl
  obtain ⟨z, rfl, hz, q⟩ := h
  have hu : (_ : Nat) + 64 < cLine ∧ (_ : Nat) < cLine := ⟨hr.units, hr.units0⟩
  refine ⟨_, (@pss_one _ _ _ (@ps_ret _ _ _ _ (@pe_callTy _ _ _ _ _ _ _ _ _ call_tuple_of rfl T.z_tuple PyProof.Rows.boot_tuple (@pa_cons _ _ _ _ _ (@pe_callB _ _ _ _ _ _ _ _ _ call_sorted_set rfl T.z_sorted PyProof.Rows.boot_sorted (@pa_cons _ _ _ _ _ (@pe_callTy _ _ _ _ _ _ _ _ _ (call_set_of hu.1) rfl T.z_set PyProof.Rows.boot_set (@pa_cons _ _ _ _ _ (@pe_comp _ _ _ _ _ _ _ _ _ _ _ _ _ _ rfl (compScope_of (sc := defScope s_runs) (N := ["text"]) (N' := ["place",  "half",  "text"]) (k := 2) (caps := [0]) rfl (by decide +kernel) (by decide +kernel) (by decide +kernel) rfl (by decide +kernel)) (@pi_tup _ _ _ _ (@pe_call _ _ _ _ _ _ _ _ _ _ _ _ _ _ _ _ G_doubles (hr.mono (by decide)) rfl T.m_doubles T.k_doubles T.b_doubles .nil pass0 (@pa_cons _ _ _ _ _ (@pv _ 0 _ _ (by rfl) (by first | exact Or.inl rfl | exact Or.inr ( Or.inl rfl ) | exact Or.inr ( Or.inr rfl )) (by decide) (by decide)) (@pa_nil _) (by rfl)) (by decide) (by rfl) (by rfl))) (@gk_tup _ _ _ _ (@gks_cons _ (0) _ (by decide) (@gks_cons _ (1) _ (by decide) (@gks_nil _)))) (fun cl C s₀ H₀ ex => ⟨(@pg_tupK _ (K) _ _ _ _ (2) rfl rfl (@pgs_cons _ _ _ _ _ (@pg_name _ _ (0) _ (show (["place",  "half",  "text"] : List Str).Nodup by decide +kernel) rfl (Or.inl rfl) (by first | exact Or.inl rfl | exact Or.inr rfl | assumption)) (@pgs_cons _ _ _ _ _ (@pg_name _ _ (1) _ (show (["place",  "half",  "text"] : List Str).Nodup by decide +kernel) rfl (Or.inl rfl) (by first | exact Or.inl rfl | exact Or.inr rfl | assumption)) (@pgs_nil _) (by rfl)) (by rfl)) (by rfl) (by rfl)), (@pif0 _), (@pe_call _ _ _ _ _ _ _ _ _ _ _ _ _ _ _ _ G_run_of (hr.mono (by decide)) rfl T.m_run_of T.k_run_of T.b_run_of .nil pass0 (@pa_cons _ _ _ _ _ (@pv _ 2 _ _ (by rfl) (by first | exact Or.inl rfl | exact Or.inr ( Or.inl rfl ) | exact Or.inr ( Or.inr rfl )) (by decide) (by decide)) (@pa_cons _ _ _ _ _ (@pv _ 0 _ _ (by rfl) (by first | exact Or.inl rfl | exact Or.inr ( Or.inl rfl ) | exact Or.inr ( Or.inr rfl )) (by decide) (by decide)) (@pa_cons _ _ _ _ _ (@pv _ 1 _ _ (by rfl) (by first | exact Or.inl rfl | exact Or.inr ( Or.inl rfl ) | exact Or.inr ( Or.inr rfl )) (by decide) (by decide)) (@pa_nil _) (by rfl)) (by rfl)) (by rfl)) (by decide) (by rfl) (by rfl))⟩) (by intro _ ; rfl)) (@pa_nil _) (by rfl)) (by decide) (by decide) (by rfl) (by rfl)) (@pa_nil _) (by rfl)) (by decide) (by decide) (by rfl) (by rfl)) (@pa_nil _) (by rfl)) (by decide) (by decide) (by rfl) (by rfl)))), ?_⟩
  have tl := toL_len z
  refine ⟨_, rfl, z, rfl, by omega, fun a xs H1 s1 hx rp => ?_⟩
  have xb : xs.length ≤ 10000 := by
    rw [rp.length]
    have b1 := Mth.dbl_len (toL z)
    have b2 : (toL z).length * (toL z).length ≤ 60 * 60 := Nat.mul_le_mul (by omega) (by omega)
    omega
  refine ⟨a, rfl, ⟨xs, SqT.of hx⟩, comp_tup (K := K) (a := a) (xs := xs) (small (by omega)) (fun i ys H2 => Same H1 H2 ∧ ∃ rs, RepT H2 ys rs ∧ rs.length = i ∧ ∀ j d, j < i → (Mth.dbl (toL z))[j]? = some d → ∃ r, rs[j]? = some r ∧ Lyn.RunOf (toL z) d r)
    ⟨Same.refl _, [], .nil, rfl, fun j d h1 _ => by omega⟩ (fun i ys H2 ⟨_, rs, h2, h3, _⟩ => by rw [h2.length, h3]; exact Nat.le_refl _) (fun i ys H2 ⟨h1, _⟩ => SqT.of (h1 _ _ hx)) ?_ ?_⟩
  · rintro i y ys H2 hy ⟨s2, rs, rt, hl, hj⟩
    obtain ⟨⟨p, hf⟩, hd, r, rfl, hr'⟩ := rp.get hy
    obtain ⟨b1, b2, b3⟩ := Lyn.dbl_double (List.mem_of_getElem? hd)
    simp only at b1 b2 b3 hr'
    refine ⟨r, _, rfl, SqT.of (s2 _ _ hr'), rfl, _, _, rfl, _, _, rfl, rfl, ?_⟩
    refine ⟨_, rfl, _, rfl, _, rfl, z, p, hf, rfl, by omega, b1, by omega, b3, fun t r3 H3 s3 h3 ro => ?_⟩
    refine ⟨s2.trans s3, rs ++ [r3], trip_one (rt.same s3) ⟨t, rfl, h3⟩, by rw [List.length_append, hl]; rfl, fun j d h1 h2 => ?_⟩
    rcases Nat.lt_or_ge j i with z' | z'
    · obtain ⟨r', e1, e2⟩ := hj j d z' h2
      exact ⟨r', by rw [List.getElem?_append_left (by omega)]; exact e1, e2⟩
    · have : j = i := by omega
      subst this
      rw [hd] at h2
      cases h2
      exact ⟨r3, by rw [List.getElem?_append_right (by omega), hl]; simp, ro⟩
  · rintro ys H2 ⟨s2, rs, rt, hl, hj⟩ l hl'
    rw [rp.length] at hl hj
    obtain ⟨its, e1, e2, e3⟩ := rt.its
    subst e1
    have all1 : ∀ d ∈ Mth.dbl (toL z), ∃ r ∈ rs, Lyn.RunOf (toL z) d r := fun d hd => by
      obtain ⟨j, hj1, e⟩ := List.mem_iff_getElem.mp hd
      obtain ⟨r, w1, w2⟩ := hj j d hj1 (by rw [List.getElem?_eq_getElem hj1, e])
      exact ⟨r, List.mem_of_getElem? w1, w2⟩
    have all2 : ∀ r ∈ rs, ∃ d ∈ Mth.dbl (toL z), Lyn.RunOf (toL z) d r := fun r hr => by
      obtain ⟨j, hj1, e⟩ := List.mem_iff_getElem.mp hr
      have hj2 : j < (Mth.dbl (toL z)).length := by omega
      obtain ⟨r', w1, w2⟩ := hj j _ hj2 (List.getElem?_eq_getElem hj2)
      rw [List.getElem?_eq_getElem hj1, e] at w1
      cases w1
      exact ⟨_, List.getElem_mem hj2, w2⟩
    have runs1 : ∀ r ∈ rs, Lyn.Run (Lyn.wl (toL z)) (toL z).length r.1 r.2.1 r.2.2 := fun r hr => by
      obtain ⟨d, _, w1⟩ := all2 r hr
      exact w1.1
    obtain ⟨us, u1, u2⟩ := dedup_exists rs
    have ulen := (Lyn.runs_few u1 fun r hr => runs1 r ((u2 r).mp hr)).1
    have keyU : ∀ q ∈ its, q.1 ∈ us.map kT := fun q' hq' => by
      have : q'.1 ∈ rs.map kT := by rw [← e2]; exact List.mem_map.mpr ⟨q', hq', rfl⟩
      obtain ⟨r, hr, e⟩ := List.mem_map.mp this
      exact List.mem_map.mpr ⟨r, (u2 r).mpr hr, e⟩
    have g3 := same_new hl' (.lst (its.map fun q => V.ref q.2))
    have tup3 : tupAt (upd H2 l (.lst (its.map fun q => V.ref q.2))) its := fun q hq => g3 _ _ (e3 q hq)
    refine ⟨l, its, us.map kT, rfl, SqL.of upd_same, tup3, by rw [List.length_map]; omega, keyU, rfl, fun sa Ms hsa G => ?_⟩
    have g4 := same_new hsa (setO P w sa Ms)
    have lenM : Ms.length < 64 := by
      have := STab.nodup_sub (Ms.map (·.1)) (us.map kT) G.nd fun x hx => by
        obtain ⟨q', hq', rfl⟩ := List.mem_map.mp hx
        exact keyU q' (G.sub q' hq')
      rw [List.length_map, List.length_map] at this
      omega
    have keyM : ∀ q ∈ Ms, ∃ r : Tri, q.1 = kT r ∧ r ∈ rs := fun q' hq' => by
      have : q'.1 ∈ rs.map kT := by rw [← e2]; exact List.mem_map.mpr ⟨q', G.sub q' hq', rfl⟩
      obtain ⟨r, hr, e⟩ := List.mem_map.mp this
      exact ⟨r, e.symm, hr⟩
    have tup4 : tupAt (upd (upd H2 l (.lst (its.map fun q => V.ref q.2))) sa (setO P w sa Ms)) Ms := fun q hq => g4 _ _ (tup3 q (G.sub q hq))
    refine ⟨sa, Ms, rkT, rfl, upd_same, tup4, rank_of fun q' hq' => ?_, lenM, rfl, fun l2 out hl2 p1 p2 => ?_⟩
    · obtain ⟨r, e, hr⟩ := keyM q' hq'
      have := Lyn.Run.low (runs1 r hr)
      exact ⟨r, e, by omega, by omega, by omega⟩
    have g5 := same_new hl2 (.lst (out.map fun q => V.ref q.2))
    refine ⟨l2, _, rfl, .inl ⟨SqL.of upd_same, fun l3 hl3 => ?_⟩⟩
    have g6 := same_new hl3 (.tup (out.map fun q => V.ref q.2))
    obtain ⟨rs', k1, k2⟩ := its_rep (H := upd (upd (upd (upd H2 l (.lst (its.map fun q => V.ref q.2))) sa (setO P w sa Ms)) l2 (.lst (out.map fun q => V.ref q.2))) l3 (.tup (out.map fun q => V.ref q.2))) (its := out) (fun q hq => g6 _ _ (g5 _ _ (tup4 q (p1.mem_iff.mp hq)))) fun q hq => by
      obtain ⟨r, e, _⟩ := keyM q (p1.mem_iff.mp hq)
      exact ⟨r, e⟩
    refine q l3 _ rs' _ ((s1.trans s2).trans (g3.trans (g4.trans (g5.trans g6)))) upd_same k2 (Lyn.Rl.of_doubles (rise_of k1 p2) (fun d hd => ?_) fun r hr => ?_)
    · obtain ⟨r, w1, w2⟩ := all1 d hd
      refine ⟨r, ?_, w2⟩
      have m1 : kT r ∈ its.map (·.1) := by rw [e2]; exact List.mem_map.mpr ⟨r, w1, rfl⟩
      obtain ⟨q1, hq1, eq1⟩ := List.mem_map.mp m1
      have m2 := G.all q1 hq1
      rw [eq1] at m2
      obtain ⟨q2, hq2, eq2⟩ := List.mem_map.mp m2
      have m3 : kT r ∈ rs'.map kT := by rw [← k1]; exact List.mem_map.mpr ⟨q2, p1.mem_iff.mpr hq2, eq2⟩
      obtain ⟨r', hr', er⟩ := List.mem_map.mp m3
      rw [kT_inj er] at hr'
      exact hr'
    · have m1 : kT r ∈ out.map (·.1) := by rw [k1]; exact List.mem_map.mpr ⟨r, hr, rfl⟩
      obtain ⟨q1, hq1, eq1⟩ := List.mem_map.mp m1
      obtain ⟨r', e', hr'⟩ := keyM q1 (p1.mem_iff.mp hq1)
      rw [eq1] at e'
      rw [kT_inj e']
      exact all2 r' hr' 
theorem sc_takes_contrary_order : FnScope ["text", "end", "beat"] ["text", "end", "beat"] (defScope s_takes_contrary_order) := ⟨rfl, rfl, rfl, by decide +kernel, rfl, by decide +kernel, by decide +kernel⟩
theorem ok_takes_contrary_order (T : Txt K mg A₀) : FnOk P w K mg base CX0 1 A₀.a_takes_contrary_order A₀.d_takes_contrary_order ["text", "end", "beat"] (spContra) := by
  refine T.F_takes_contrary_order.ok (k := 0) sc_takes_contrary_order (fun vs H Q E h => ?_) (fun cdv A outer s H vs Q E hr h => ?_)
  · obtain ⟨z, e, b, rfl, _⟩ := h
    rfl
  obtain ⟨z, e, b, rfl, hz, hb, he, q⟩ := h
  have hu : (_ : Nat) + 64 < cLine ∧ (_ : Nat) < cLine := ⟨hr.units, hr.units0⟩
  refine ⟨_, (@pss_one _ _ _ (@ps_ret _ _ _ _ (@pe_and _ _ _ _ _ _ _ (@pe_cmpR _ _ _ _ _ _ _ _ op_lt (@pv _ 1 _ _ (by rfl) (by first | exact Or.inl rfl | exact Or.inr ( Or.inl rfl ) | exact Or.inr ( Or.inr rfl )) (by decide) (by decide)) (@pe_callB _ _ _ _ _ _ _ _ _ call_len_str rfl T.z_len PySem.boot_len (@pa_cons _ _ _ _ _ (@pv _ 0 _ _ (by rfl) (by first | exact Or.inl rfl | exact Or.inr ( Or.inl rfl ) | exact Or.inr ( Or.inr rfl )) (by decide) (by decide)) (@pa_nil _) (by rfl)) (by decide) (by decide) (by rfl) (by rfl)) (nomark _)) (@pe_one _ _ _ _ _ (@pe_cmpR _ _ _ _ _ _ _ _ op_gt_str (@pe_ix _ _ _ _ _ _ _ ix_str (@pv _ 0 _ _ (by rfl) (by first | exact Or.inl rfl | exact Or.inr ( Or.inl rfl ) | exact Or.inr ( Or.inr rfl )) (by decide) (by decide)) (@pv _ 1 _ _ (by rfl) (by first | exact Or.inl rfl | exact Or.inr ( Or.inl rfl ) | exact Or.inr ( Or.inr rfl )) (by decide) (by decide)) (fun _ _ => rfl)) (@pe_ix _ _ _ _ _ _ _ ix_str (@pv _ 0 _ _ (by rfl) (by first | exact Or.inl rfl | exact Or.inr ( Or.inl rfl ) | exact Or.inr ( Or.inr rfl )) (by decide) (by decide)) (@pe_op _ _ _ _ _ _ _ _ op_sub (@pv _ 1 _ _ (by rfl) (by first | exact Or.inl rfl | exact Or.inr ( Or.inl rfl ) | exact Or.inr ( Or.inr rfl )) (by decide) (by decide)) (@pv _ 2 _ _ (by rfl) (by first | exact Or.inl rfl | exact Or.inr ( Or.inl rfl ) | exact Or.inr ( Or.inr rfl )) (by decide) (by decide))) (fun _ _ => rfl)) (nomark _)))))), ?_⟩
  have tl := toL_len z
  refine ⟨_, rfl, _, rfl, z, rfl, small (by omega), _, _, rfl, rfl, _, rfl, ?_⟩
  refine ite2 (fun c1 => ?_) (fun c1 => ?_)
  · have c1' : ((e : Nat) : Int) < ((z.length : Nat) : Int) := of_decide_eq_true c1
    obtain ⟨x1, h1, h1', _⟩ := at_some (l := toL z) (k := ((e : Nat) : Int)) (by omega) (by omega)
    obtain ⟨x2, h2, h2', _⟩ := at_some (l := toL z) (k := ((e : Nat) : Int) - ((b : Nat) : Int)) (by omega) (by omega)
    rw [Int.toNat_natCast] at h1'
    rw [show (((e : Nat) : Int) - ((b : Nat) : Int)).toNat = e - b by omega] at h2'
    refine ⟨_, rfl, _, rfl, z, _, x1, rfl, rfl, small (by omega), h1, _, rfl, _, rfl, _, rfl, _, _, rfl, rfl, z, _, x2, rfl, rfl, small (by omega), h2, _, _, rfl, rfl, ?_⟩
    refine q _ ?_
    rw [decide_eq_true_eq]
    exact contra_one (by omega) h1' h2'
  · refine q false ⟨(fun x => nomatch x), fun x => ?_⟩
    exact absurd (decide_eq_true (show ((e : Nat) : Int) < ((z.length : Nat) : Int) by have := x.1; omega)) c1
theorem sc_leads_its_turns : FnScope ["letters", "contrary", "turns"] ["letters", "contrary"] (defScope s_leads_its_turns) := ⟨rfl, rfl, rfl, by decide +kernel, rfl, by decide +kernel, by decide +kernel⟩
theorem ok_leads_its_turns (T : Txt K mg A₀) : FnOk P w K mg base CX0 1 A₀.a_leads_its_turns A₀.d_leads_its_turns ["letters", "contrary"] (spLeads) := by
  refine T.F_leads_its_turns.ok (k := 0) sc_leads_its_turns (fun vs H Q E h => ?_) (fun cdv A outer s H vs Q E hr h => ?_)
  · obtain ⟨z, c, rfl, _⟩ := h
    rfl
  obtain ⟨z, c, rfl, hz, q⟩ := h
  have hu : (_ : Nat) + 64 < cLine ∧ (_ : Nat) < cLine := ⟨hr.units, hr.units0⟩
  refine ⟨_, (@pss_cons _ _ _ _ _ (@ps_setComp _ (2) _ _ _ _ _ _ _ _ _ _ _ _ _ _ _ _ sc_leads_its_turns.nd rfl (Or.inl rfl) (.inl rfl) rfl (compScope_of (sc := defScope s_leads_its_turns) (N := ["letters",  "contrary",  "turns"]) (N' := ["cut",  "letters"]) (k := 1) (caps := [0]) rfl (by decide +kernel) (by decide +kernel) (by decide +kernel) rfl (by decide +kernel)) (@pi_range2 _ _ _ _ _ _ _ rfl T.z_range (@pa_cons _ _ _ _ _ (@pe_int _ _ _ _) (@pa_cons _ _ _ _ _ (@pe_callB _ _ _ _ _ _ _ _ _ call_len_str rfl T.z_len PySem.boot_len (@pa_cons _ _ _ _ _ (@pv _ 0 _ _ (by rfl) (by first | exact Or.inl rfl | exact Or.inr ( Or.inl rfl ) | exact Or.inr ( Or.inr rfl )) (by decide) (by decide)) (@pa_nil _) (by rfl)) (by decide) (by decide) (by rfl) (by rfl)) (@pa_nil _) (by rfl)) (by rfl)) (by rfl) (by rfl)) (@gk_name _ _ (by decide)) (fun cl C s₀ H₀ ex => ⟨(@pg_name _ _ (0) _ (show (["cut",  "letters"] : List Str).Nodup by decide +kernel) rfl (Or.inl rfl) (by first | exact Or.inl rfl | exact Or.inr rfl | assumption)), (@pif0 _), (@pe_op _ _ _ _ _ _ _ _ op_add_str (@pe_slice _ _ _ _ _ _ _ _ _ _ sl_str (@pv _ 1 _ _ (by rfl) (by first | exact Or.inl rfl | exact Or.inr ( Or.inl rfl ) | exact Or.inr ( Or.inr rfl )) (by decide) (by decide)) (@po_some _ _ _ (@pv _ 0 _ _ (by rfl) (by first | exact Or.inl rfl | exact Or.inr ( Or.inl rfl ) | exact Or.inr ( Or.inr rfl )) (by decide) (by decide))) (@po_none _)) (@pe_slice _ _ _ _ _ _ _ _ _ _ sl_str (@pv _ 1 _ _ (by rfl) (by first | exact Or.inl rfl | exact Or.inr ( Or.inl rfl ) | exact Or.inr ( Or.inr rfl )) (by decide) (by decide)) (@po_none _) (@po_some _ _ _ (@pv _ 0 _ _ (by rfl) (by first | exact Or.inl rfl | exact Or.inr ( Or.inl rfl ) | exact Or.inr ( Or.inr rfl )) (by decide) (by decide)))))⟩) (by rfl) (by intro _ ; rfl)) (@pss_cons _ _ _ _ _ (@ps_if _ _ _ _ _ _ _ _ (@pt_val _ _ _ (@pv _ 1 _ _ (by rfl) (by first | exact Or.inl rfl | exact Or.inr ( Or.inl rfl ) | exact Or.inr ( Or.inr rfl )) (by decide) (by decide)) (by intro _ ; rfl)) (@pss_one _ _ _ (@ps_ret _ _ _ _ (@pe_callB _ _ _ _ _ _ _ _ _ call_all rfl T.z_all PyProof.Rows.boot_all (@pa_cons _ _ _ _ _ (@pe_comp _ _ _ _ _ _ _ _ _ _ _ _ _ _ rfl (compScope_of (sc := defScope s_leads_its_turns) (N := ["letters",  "contrary",  "turns"]) (N' := ["turn",  "letters"]) (k := 1) (caps := [0]) rfl (by decide +kernel) (by decide +kernel) (by decide +kernel) rfl (by decide +kernel)) (@pi_list _ _ _ _ (@pv _ 2 _ _ (by rfl) (by first | exact Or.inl rfl | exact Or.inr ( Or.inl rfl ) | exact Or.inr ( Or.inr rfl )) (by decide) (by decide))) (@gk_name _ _ (by decide)) (fun cl C s₀ H₀ ex => ⟨(@pg_name _ _ (0) _ (show (["turn",  "letters"] : List Str).Nodup by decide +kernel) rfl (Or.inl rfl) (by first | exact Or.inl rfl | exact Or.inr rfl | assumption)), (@pif0 _), (@pe_cmpR _ _ _ _ _ _ _ _ op_gt_str (@pv _ 1 _ _ (by rfl) (by first | exact Or.inl rfl | exact Or.inr ( Or.inl rfl ) | exact Or.inr ( Or.inr rfl )) (by decide) (by decide)) (@pv _ 0 _ _ (by rfl) (by first | exact Or.inl rfl | exact Or.inr ( Or.inl rfl ) | exact Or.inr ( Or.inr rfl )) (by decide) (by decide)) (nomark _))⟩) (by intro _ ; rfl)) (@pa_nil _) (by rfl)) (by decide) (by decide) (by rfl) (by rfl)))) (@pss_nil _)) (@pss_one _ _ _ (@ps_ret _ _ _ _ (@pe_callB _ _ _ _ _ _ _ _ _ call_all rfl T.z_all PyProof.Rows.boot_all (@pa_cons _ _ _ _ _ (@pe_comp _ _ _ _ _ _ _ _ _ _ _ _ _ _ rfl (compScope_of (sc := defScope s_leads_its_turns) (N := ["letters",  "contrary",  "turns"]) (N' := ["turn",  "letters"]) (k := 1) (caps := [0]) rfl (by decide +kernel) (by decide +kernel) (by decide +kernel) rfl (by decide +kernel)) (@pi_list _ _ _ _ (@pv _ 2 _ _ (by rfl) (by first | exact Or.inl rfl | exact Or.inr ( Or.inl rfl ) | exact Or.inr ( Or.inr rfl )) (by decide) (by decide))) (@gk_name _ _ (by decide)) (fun cl C s₀ H₀ ex => ⟨(@pg_name _ _ (0) _ (show (["turn",  "letters"] : List Str).Nodup by decide +kernel) rfl (Or.inl rfl) (by first | exact Or.inl rfl | exact Or.inr rfl | assumption)), (@pif0 _), (@pe_cmpR _ _ _ _ _ _ _ _ op_lt_str (@pv _ 1 _ _ (by rfl) (by first | exact Or.inl rfl | exact Or.inr ( Or.inl rfl ) | exact Or.inr ( Or.inr rfl )) (by decide) (by decide)) (@pv _ 0 _ _ (by rfl) (by first | exact Or.inl rfl | exact Or.inr ( Or.inl rfl ) | exact Or.inr ( Or.inr rfl )) (by decide) (by decide)) (nomark _))⟩) (by intro _ ; rfl)) (@pa_nil _) (by rfl)) (by decide) (by decide) (by rfl) (by rfl)))))), ?_⟩
  have tl := toL_len z
  refine ⟨_, rfl, z, rfl, small (by omega), 1, _, rfl, ⟨by decide, by decide, by omega, by omega⟩, comp_range (lo := 1) (n := (((z.length : Nat) : Int) - 1).toNat) (small (by omega)) (fun i ys H2 => H2 = H ∧ ∃ ts : List Str, ys = ts.map V.str ∧ ts.map toL = (List.range i).map fun j => rot (toL z) (1 + j))
    ⟨rfl, [], rfl, rfl⟩ (fun i ys H2 ⟨_, ts, h2, h3⟩ => by have := congrArg List.length h3; rw [h2]; simp at this ⊢; omega) ?_ ?_⟩
  · rintro i ys H2 hi ⟨rfl, ts, rfl, et⟩
    have k1 : (cutN (toL z) none (some (1 + (i : Int)))).length ≤ z.length := by rw [← toL_len]; exact cutN_len _ _ _
    have k2 : (cutN (toL z) (some (1 + (i : Int))) none).length ≤ z.length := by rw [← toL_len]; exact cutN_len _ _ _
    refine ⟨_, rfl, _, rfl, _, rfl, z, rfl, small (by omega), _, rfl, _, rfl, _, rfl, z, rfl, small (by omega), _, _, rfl, rfl, (by rw [len_ofL, len_ofL]; exact small (by omega)), ?_⟩
    refine ⟨rfl, ts ++ [ofL (cutN (toL z) (some (1 + (i : Int))) none) ++ ofL (cutN (toL z) none (some (1 + (i : Int))))], by rw [List.map_append]; rfl, ?_⟩
    rw [List.map_append, et, List.range_succ, List.map_append]
    congr 1
    show [toL _] = [rot (toL z) (1 + i)]
    rw [toL_append, toL_ofL, toL_ofL, cut_sn _ (by omega), cut_ns _ (by omega), show (1 + (i : Int)).toNat = 1 + i by omega]
    rfl
  rintro ys H2 ⟨rfl, ts, rfl, et⟩ k1 hk1
  have lt : ts.length = z.length - 1 := by
    have := congrArg List.length et
    simp at this
    omega
  have at' : ∀ j, j < z.length - 1 → ∃ t, ts[j]? = some t ∧ toL t = rot (toL z) (1 + j) := fun j hj => by
    have := congrArg (fun l => l[j]?) et
    simp only [List.getElem?_map] at this
    rw [List.getElem?_range (by omega)] at this
    cases e : ts[j]? with
    | none => rw [e] at this; cases this
    | some t => rw [e] at this; exact ⟨t, rfl, by simpa using this⟩
  have lm : (ts.map V.str).length = ts.length := List.length_map ..
  have hk := upd_same (H := H2) (a := k1) (o := .lst (ts.map V.str))
  have g1 := same_new hk1 (.lst (ts.map V.str))
  refine ⟨_, rfl, _, rfl, ?_⟩
  cases c with
  | true =>
    refine iteT ?_
    refine ⟨_, rfl, k1, rfl, ⟨_, SqL.of hk⟩, comp_list (K := K) (a := k1) (xs := ts.map V.str) (small (by omega)) (fun i ys H3 => H3 = upd H2 k1 (.lst (ts.map V.str)) ∧ ys = ((ts.take i).map fun t => decide (toL t < toL z)).map V.bl)
      ⟨rfl, rfl⟩ (fun i ys H3 ⟨_, h2⟩ => by rw [h2]; simp; omega) (fun i ys H3 ⟨h1, _⟩ => by rw [h1]; exact SqL.of hk) ?_ ?_⟩
    · rintro i y ys H3 hy ⟨rfl, rfl⟩
      rw [List.getElem?_map] at hy
      obtain ⟨t, ht, rfl⟩ := Option.map_eq_some_iff.mp hy
      refine ⟨_, rfl, _, rfl, z, t, rfl, rfl, rfl, ?_⟩
      rw [List.take_succ, ht, List.map_append, List.map_append]
      rfl
    · rintro ys H3 ⟨rfl, rfl⟩ l hl
      rw [lm, List.take_length]
      refine ⟨l, ts.map fun t => decide (toL t < toL z), rfl, SqL.of upd_same, rfl, q _ _ (g1.trans (same_new hl _)) ?_⟩
      rw [List.all_map, List.all_eq_true]
      constructor
      · intro hh a a1 a2
        obtain ⟨t, t1, t2⟩ := at' (a - 1) (by omega)
        have := hh t (List.mem_of_getElem? t1)
        rw [show 1 + (a - 1) = a by omega] at t2
        rw [if_pos rfl, ← t2]
        exact of_decide_eq_true this
      · intro hh t ht
        obtain ⟨j, hj, rfl⟩ := List.mem_iff_getElem.mp ht
        obtain ⟨t, t1, t2⟩ := at' j (by omega)
        rw [List.getElem?_eq_getElem hj] at t1
        cases t1
        have := hh (1 + j) (by omega) (by omega)
        rw [if_pos rfl, ← t2] at this
        exact decide_eq_true this
  | false =>
    refine iteF ?_
    refine ⟨_, rfl, k1, rfl, ⟨_, SqL.of hk⟩, comp_list (K := K) (a := k1) (xs := ts.map V.str) (small (by omega)) (fun i ys H3 => H3 = upd H2 k1 (.lst (ts.map V.str)) ∧ ys = ((ts.take i).map fun t => decide (toL z < toL t)).map V.bl)
      ⟨rfl, rfl⟩ (fun i ys H3 ⟨_, h2⟩ => by rw [h2]; simp; omega) (fun i ys H3 ⟨h1, _⟩ => by rw [h1]; exact SqL.of hk) ?_ ?_⟩
    · rintro i y ys H3 hy ⟨rfl, rfl⟩
      rw [List.getElem?_map] at hy
      obtain ⟨t, ht, rfl⟩ := Option.map_eq_some_iff.mp hy
      refine ⟨_, rfl, _, rfl, z, t, rfl, rfl, rfl, ?_⟩
      rw [List.take_succ, ht, List.map_append, List.map_append]
      rfl
    · rintro ys H3 ⟨rfl, rfl⟩ l hl
      rw [lm, List.take_length]
      refine ⟨l, ts.map fun t => decide (toL z < toL t), rfl, SqL.of upd_same, rfl, q _ _ (g1.trans (same_new hl _)) ?_⟩
      rw [List.all_map, List.all_eq_true]
      constructor
      · intro hh a a1 a2
        obtain ⟨t, t1, t2⟩ := at' (a - 1) (by omega)
        have := hh t (List.mem_of_getElem? t1)
        rw [show 1 + (a - 1) = a by omega] at t2
        rw [if_neg Bool.false_ne_true, ← t2]
        exact of_decide_eq_true this
      · intro hh t ht
        obtain ⟨j, hj, rfl⟩ := List.mem_iff_getElem.mp ht
        obtain ⟨t, t1, t2⟩ := at' j (by omega)
        rw [List.getElem?_eq_getElem hj] at t1
        cases t1
        have := hh (1 + j) (by omega) (by omega)
        rw [if_neg Bool.false_ne_true, ← t2] at this
        exact decide_eq_true this
theorem sc_own_places : FnScope ["text", "run", "first", "end", "beat", "contrary", "found", "place"] ["text", "run"] (defScope s_own_places) := ⟨rfl, rfl, rfl, by decide +kernel, rfl, by decide +kernel, by decide +kernel⟩
theorem ok_own_places (T : Txt K mg A₀) : FnOk P w K mg base CX0 2 A₀.a_own_places A₀.d_own_places ["text", "run"] (spOwn) := by
  have G_takes_contrary_order : FnOk P w K mg base CX0 1 A₀.a_takes_contrary_order A₀.d_takes_contrary_order ["text", "end", "beat"] (spContra) := ok_takes_contrary_order T
  have G_leads_its_turns : FnOk P w K mg base CX0 1 A₀.a_leads_its_turns A₀.d_leads_its_turns ["letters", "contrary"] (spLeads) := ok_leads_its_turns T
  refine T.F_own_places.ok (k := 1) sc_own_places (fun vs H Q E h => ?_) (fun cdv A outer s H vs Q E hr h => ?_)
  · obtain ⟨z, a, r, rfl, _⟩ := h
    rfl
  obtain ⟨z, a, r, rfl, hz, ha, isr, q⟩ := h
  have hu : (_ : Nat) + 64 < cLine ∧ (_ : Nat) < cLine := ⟨hr.units, hr.units0⟩
  refine ⟨_, (@pss_cons _ _ _ _ _ (@ps_set _ _ (2) _ _ _ _ sc_own_places.nd rfl (Or.inl rfl) (@pe_ix _ _ _ _ _ _ _ ix_tup (@pv _ 1 _ _ (by rfl) (by first | exact Or.inl rfl | exact Or.inr ( Or.inl rfl ) | exact Or.inr ( Or.inr rfl )) (by decide) (by decide)) (@pe_int _ _ _ _) (fun _ _ => rfl)) (by rfl) (by first | exact Or.inl rfl | exact Or.inr rfl | assumption)) (@pss_cons _ _ _ _ _ (@ps_set _ _ (3) _ _ _ _ sc_own_places.nd rfl (Or.inl rfl) (@pe_ix _ _ _ _ _ _ _ ix_tup (@pv _ 1 _ _ (by rfl) (by first | exact Or.inl rfl | exact Or.inr ( Or.inl rfl ) | exact Or.inr ( Or.inr rfl )) (by decide) (by decide)) (@pe_int _ _ _ _) (fun _ _ => rfl)) (by rfl) (by first | exact Or.inl rfl | exact Or.inr rfl | assumption)) (@pss_cons _ _ _ _ _ (@ps_set _ _ (4) _ _ _ _ sc_own_places.nd rfl (Or.inl rfl) (@pe_ix _ _ _ _ _ _ _ ix_tup (@pv _ 1 _ _ (by rfl) (by first | exact Or.inl rfl | exact Or.inr ( Or.inl rfl ) | exact Or.inr ( Or.inr rfl )) (by decide) (by decide)) (@pe_int _ _ _ _) (fun _ _ => rfl)) (by rfl) (by first | exact Or.inl rfl | exact Or.inr rfl | assumption)) (@pss_cons _ _ _ _ _ (@ps_set _ _ (5) _ _ _ _ sc_own_places.nd rfl (Or.inl rfl) (@pe_call _ _ _ _ _ _ _ _ _ _ _ _ _ _ _ _ G_takes_contrary_order (hr.mono (by decide)) rfl T.m_takes_contrary_order T.k_takes_contrary_order T.b_takes_contrary_order .nil pass0 (@pa_cons _ _ _ _ _ (@pv _ 0 _ _ (by rfl) (by first | exact Or.inl rfl | exact Or.inr ( Or.inl rfl ) | exact Or.inr ( Or.inr rfl )) (by decide) (by decide)) (@pa_cons _ _ _ _ _ (@pv _ 3 _ _ (by rfl) (by first | exact Or.inl rfl | exact Or.inr ( Or.inl rfl ) | exact Or.inr ( Or.inr rfl )) (by decide) (by decide)) (@pa_cons _ _ _ _ _ (@pv _ 4 _ _ (by rfl) (by first | exact Or.inl rfl | exact Or.inr ( Or.inl rfl ) | exact Or.inr ( Or.inr rfl )) (by decide) (by decide)) (@pa_nil _) (by rfl)) (by rfl)) (by rfl)) (by decide) (by rfl) (by rfl)) (by rfl) (by first | exact Or.inl rfl | exact Or.inr rfl | assumption)) (@pss_cons _ _ _ _ _ (@ps_set _ _ (6) _ _ _ _ sc_own_places.nd rfl (Or.inl rfl) (@pe_lst _ _ _ _ (@pa_nil _)) (by rfl) (by first | exact Or.inl rfl | exact Or.inr rfl | assumption)) (@pss_cons _ _ _ _ _ (@ps_for _ _ _ _ _ _ _ _ PassesOwn.never rfl (@pi_range2 _ _ _ _ _ _ _ rfl T.z_range (@pa_cons _ _ _ _ _ (@pe_op _ _ _ _ _ _ _ _ op_add (@pv _ 2 _ _ (by rfl) (by first | exact Or.inl rfl | exact Or.inr ( Or.inl rfl ) | exact Or.inr ( Or.inr rfl )) (by decide) (by decide)) (@pe_int _ _ _ _)) (@pa_cons _ _ _ _ _ (@pe_op _ _ _ _ _ _ _ _ op_add (@pe_op _ _ _ _ _ _ _ _ op_sub (@pv _ 3 _ _ (by rfl) (by first | exact Or.inl rfl | exact Or.inr ( Or.inl rfl ) | exact Or.inr ( Or.inr rfl )) (by decide) (by decide)) (@pv _ 4 _ _ (by rfl) (by first | exact Or.inl rfl | exact Or.inr ( Or.inl rfl ) | exact Or.inr ( Or.inr rfl )) (by decide) (by decide))) (@pe_int _ _ _ _)) (@pa_nil _) (by rfl)) (by rfl)) (by rfl) (by rfl)) (@pg_name _ _ (7) _ sc_own_places.nd rfl (Or.inl rfl) (by first | exact Or.inl rfl | exact Or.inr rfl | assumption)) (@pss_one _ _ _ (@ps_if _ _ _ _ _ _ _ _ (@pt_val _ _ _ (@pe_call _ _ _ _ _ _ _ _ _ _ _ _ _ _ _ _ G_leads_its_turns (hr.mono (by decide)) rfl T.m_leads_its_turns T.k_leads_its_turns T.b_leads_its_turns .nil pass0 (@pa_cons _ _ _ _ _ (@pe_slice _ _ _ _ _ _ _ _ _ _ sl_str (@pv _ 0 _ _ (by rfl) (by first | exact Or.inl rfl | exact Or.inr ( Or.inl rfl ) | exact Or.inr ( Or.inr rfl )) (by decide) (by decide)) (@po_some _ _ _ (@pv _ 7 _ _ (by rfl) (by first | exact Or.inl rfl | exact Or.inr ( Or.inl rfl ) | exact Or.inr ( Or.inr rfl )) (by decide) (by decide))) (@po_some _ _ _ (@pe_op _ _ _ _ _ _ _ _ op_add (@pv _ 7 _ _ (by rfl) (by first | exact Or.inl rfl | exact Or.inr ( Or.inl rfl ) | exact Or.inr ( Or.inr rfl )) (by decide) (by decide)) (@pv _ 4 _ _ (by rfl) (by first | exact Or.inl rfl | exact Or.inr ( Or.inl rfl ) | exact Or.inr ( Or.inr rfl )) (by decide) (by decide))))) (@pa_cons _ _ _ _ _ (@pv _ 5 _ _ (by rfl) (by first | exact Or.inl rfl | exact Or.inr ( Or.inl rfl ) | exact Or.inr ( Or.inr rfl )) (by decide) (by decide)) (@pa_nil _) (by rfl)) (by rfl)) (by decide) (by rfl) (by rfl)) (by intro _ ; rfl)) (@pss_one _ _ _ (@ps_expr _ _ _ _ (@pe_bm _ _ _ _ _ _ _ _ _ _ _ _ PySem.F.plainAttrs_list PySem.F.slot_list_append PySem.F.type_list_append mt_append (@pv _ 6 _ _ (by rfl) (by first | exact Or.inl rfl | exact Or.inr ( Or.inl rfl ) | exact Or.inr ( Or.inr rfl )) (by decide) (by decide)) (@pa_cons _ _ _ _ _ (@pv _ 7 _ _ (by rfl) (by first | exact Or.inl rfl | exact Or.inr ( Or.inl rfl ) | exact Or.inr ( Or.inr rfl )) (by decide) (by decide)) (@pa_nil _) (by rfl)) (by rfl) (by rfl) (by rfl) (by rfl) (by rfl)) (by rfl))) (@pss_nil _))) (by intro _ ; rfl)) (@pss_one _ _ _ (@ps_ret _ _ _ _ (@pe_callTy _ _ _ _ _ _ _ _ _ call_tuple_of rfl T.z_tuple PyProof.Rows.boot_tuple (@pa_cons _ _ _ _ _ (@pv _ 6 _ _ (by rfl) (by first | exact Or.inl rfl | exact Or.inr ( Or.inl rfl ) | exact Or.inr ( Or.inr rfl )) (by decide) (by decide)) (@pa_nil _) (by rfl)) (by decide) (by decide) (by rfl) (by rfl)))))))))), ?_⟩
  have tl := toL_len z
  have low := Lyn.Run.low isr
  have p1 := isr.p1
  have two := isr.two
  have en := isr.en
  refine ⟨_, rfl, a, _, _, _, rfl, rfl, SqT.of ha, rfl, _, rfl, a, _, _, _, rfl, rfl, SqT.of ha, rfl, _, rfl, a, _, _, _, rfl, rfl, SqT.of ha, rfl, ?_⟩
  refine ⟨_, rfl, _, rfl, _, rfl, z, r.2.1, r.2.2, rfl, by omega, by omega, by omega, fun c hc => ?_⟩
  refine ⟨(by show 0 ≤ sizeLine; decide), fun l hl => ?_⟩
  refine ⟨_, rfl, _, _, rfl, rfl, _, rfl, _, rfl, _, _, rfl, rfl, _, _, rfl, rfl, _, _, rfl, ⟨by omega, by omega, by omega, by omega⟩, for_range (lo := ((r.1 : Nat) : Int) + 1) (n := (((r.2.1 : Nat) : Int) - ((r.2.2 : Nat) : Int) + 1 - (((r.1 : Nat) : Int) + 1)).toNat) (fun i σ H2 => ∃ (v : Option V) (xs : List Nat), σ = [some (.str z), some (.ref a), some (.int (r.1 : Nat)), some (.int (r.2.1 : Nat)), some (.int (r.2.2 : Nat)), some (.bl c), some (.ref l), v] ∧ Same H H2 ∧ H2 l = some (.lst (natV xs)) ∧ xs.length ≤ i ∧ OwnTo (toL z) r (r.1 + 1 + i) xs)
    ⟨none, [], rfl, same_new hl _, upd_same, Nat.le_refl _, OwnTo.start _ _⟩ ?_ ?_⟩
  · rintro i σ H2 hi ⟨v, xs, rfl, s2, hx, hlx, ot⟩
    have ecut : cutN (toL z) (some (((r.1 : Nat) : Int) + 1 + (i : Int))) (some (((r.1 : Nat) : Int) + 1 + (i : Int) + ((r.2.2 : Nat) : Int))) = ((toL z).drop (r.1 + 1 + i)).take r.2.2 := by
      rw [cut_ss _ (by omega) (by omega)]
      rw [show (((r.1 : Nat) : Int) + 1 + (i : Int) + ((r.2.2 : Nat) : Int)).toNat - (((r.1 : Nat) : Int) + 1 + (i : Int)).toNat = r.2.2 by omega, show (((r.1 : Nat) : Int) + 1 + (i : Int)).toNat = r.1 + 1 + i by omega]
    have own := (own_iff (x := r.1 + 1 + i) isr hc).trans (Iff.intro (fun h => h.2.2) fun h => ⟨by omega, by omega, h⟩)
    rw [← leads_iff (by omega)] at own
    refine ⟨_, rfl, _, rfl, _, rfl, _, rfl, _, rfl, _, _, rfl, rfl, _, rfl, z, rfl, small (by omega), _, rfl, _, c, rfl, ?_, fun b H3 s3 hb => ?_⟩
    · rw [len_ofL]
      exact Nat.le_trans (cutN_len _ _ _) (by omega)
    rw [toL_ofL, ecut, ← own] at hb
    refine ⟨_, rfl, ?_⟩
    have hx3 := s3 _ _ hx
    cases b with
    | true =>
      refine iteT ?_
      refine ⟨_, rfl, .inl ⟨rfl, _, SqL.of hx3⟩, _, rfl, l, natV xs, _, rfl, rfl, hx3, (by rw [List.length_map]; exact Nat.lt_of_le_of_lt (show xs.length ≤ 1000 by omega) (by decide)), ?_⟩
      refine ⟨_, xs ++ [r.1 + 1 + i], rfl, same_upd (s2.trans s3) hl, ?_, (by rw [List.length_append]; exact Nat.succ_le_succ hlx), ot.yes (hb.mp rfl)⟩
      rw [upd_same]
      unfold natV
      rw [List.map_append]
      show some (HO.lst (_ ++ [V.int (((r.1 : Nat) : Int) + 1 + (i : Int))])) = some (HO.lst (_ ++ [V.int ((r.1 + 1 + i : Nat) : Int)]))
      rw [show ((r.1 : Nat) : Int) + 1 + (i : Int) = ((r.1 + 1 + i : Nat) : Int) by omega]
    | false =>
      refine iteF ?_
      exact ⟨_, xs, rfl, s2.trans s3, hx3, Nat.le_succ_of_le hlx, ot.no fun h => nomatch hb.mpr h⟩
  · rintro σ H2 ⟨v, xs, rfl, s2, hx, hlx, ot⟩
    refine ⟨_, rfl, l, natV xs, rfl, .inl ⟨SqL.of hx, fun u hu' => ?_⟩⟩
    exact q u xs _ (s2.trans (same_new hu' _)) upd_same (ot.done (by omega))
theorem sc__law_cell_at : FnScope ["_law_script", "_law_k"] ["_law_script", "_law_k"] (defScope s__law_cell_at) := ⟨rfl, rfl, rfl, by decide +kernel, rfl, by decide +kernel, by decide +kernel⟩
theorem ok__law_cell_at (T : Txt K mg A₀) : FnOk P w K mg base CX0 1 A₀.a__law_cell_at A₀.d__law_cell_at ["_law_script", "_law_k"] (spCell K) := by
  refine T.F__law_cell_at.ok (k := 0) sc__law_cell_at (fun vs H Q E h => ?_) (fun cdv A outer s H vs Q E hr h => ?_)
  · obtain ⟨a, ns, k, rfl, _⟩ := h
    rfl
  obtain ⟨a, ns, k, rfl, hS, h0, q⟩ := h
  have hl : (ns.map V.int).length = ns.length := List.length_map _
  have hu : (_ : Nat) + 64 < cLine ∧ (_ : Nat) < cLine := ⟨hr.units, hr.units0⟩
  refine ⟨_, (@pss_cons _ _ _ _ _ (@ps_if _ _ _ _ _ _ _ _ (@pt_cmpR _ _ _ _ _ _ _ _ op_lt (@pv _ 1 _ _ (by rfl) (by first | exact Or.inl rfl | exact Or.inr ( Or.inl rfl ) | exact Or.inr ( Or.inr rfl )) (by decide) (by decide)) (@pe_callB _ _ _ _ _ _ _ _ _ call_len_seq rfl T.z_len PySem.boot_len (@pa_cons _ _ _ _ _ (@pv _ 0 _ _ (by rfl) (by first | exact Or.inl rfl | exact Or.inr ( Or.inl rfl ) | exact Or.inr ( Or.inr rfl )) (by decide) (by decide)) (@pa_nil _) (by rfl)) (by decide) (by decide) (by rfl) (by rfl)) (nomark _)) (@pss_one _ _ _ (@ps_ret _ _ _ _ (@pe_ix _ _ _ _ _ _ _ ix_list (@pv _ 0 _ _ (by rfl) (by first | exact Or.inl rfl | exact Or.inr ( Or.inl rfl ) | exact Or.inr ( Or.inr rfl )) (by decide) (by decide)) (@pv _ 1 _ _ (by rfl) (by first | exact Or.inl rfl | exact Or.inr ( Or.inl rfl ) | exact Or.inr ( Or.inr rfl )) (by decide) (by decide)) (fun _ _ => rfl)))) (@pss_nil _)) (@pss_one _ _ _ (@ps_ret _ _ _ _ (@pe_int _ _ _ _)))), ?_⟩
  refine ⟨_, rfl, _, rfl, a, _, rfl, .inl hS, _, _, rfl, rfl, _, rfl, ?_⟩
  refine ite2 (fun c => ?_) (fun c => ?_)
  · have c' : k < (((ns.map V.int).length : Nat) : Int) := of_decide_eq_true c
    rw [hl] at c'
    obtain ⟨v, hv⟩ := at_ints h0 c'
    exact ⟨_, rfl, _, rfl, a, _, _, _, rfl, rfl, hS, hv, q v⟩
  · exact q 0
theorem sc__law_mixed : FnScope ["_law_script", "_law_k", "_law_drawn_here"] ["_law_script", "_law_k"] (defScope s__law_mixed) := ⟨rfl, rfl, rfl, by decide +kernel, rfl, by decide +kernel, by decide +kernel⟩
theorem ok__law_mixed (T : Txt K mg A₀) : FnOk P w K mg base CX0 2 A₀.a__law_mixed A₀.d__law_mixed ["_law_script", "_law_k"] (spMixed K) := by
  have G__law_cell_at : FnOk P w K mg base CX0 1 A₀.a__law_cell_at A₀.d__law_cell_at ["_law_script", "_law_k"] (spCell K) := ok__law_cell_at T
  refine T.F__law_mixed.ok (k := 1) sc__law_mixed (fun vs H Q E h => ?_) (fun cdv A outer s H vs Q E hr h => ?_)
  · obtain ⟨a, ns, k, rfl, _⟩ := h
    rfl
  obtain ⟨a, ns, k, rfl, hS, h0, q⟩ := h
  have hu : (_ : Nat) + 64 < cLine ∧ (_ : Nat) < cLine := ⟨hr.units, hr.units0⟩
  refine ⟨_, (@pss_cons _ _ _ _ _ (@ps_set _ _ (2) _ _ _ _ sc__law_mixed.nd rfl (Or.inl rfl) (@pe_op _ _ _ _ _ _ _ _ op_mod (@pe_op _ _ _ _ _ _ _ _ op_mul (@pe_op _ _ _ _ _ _ _ _ op_add (@pe_op _ _ _ _ _ _ _ _ op_add (@pe_call _ _ _ _ _ _ _ _ _ _ _ _ _ _ _ _ G__law_cell_at (hr.mono (by decide)) rfl T.m__law_cell_at T.k__law_cell_at T.b__law_cell_at .nil pass0 (@pa_cons _ _ _ _ _ (@pv _ 0 _ _ (by rfl) (by first | exact Or.inl rfl | exact Or.inr ( Or.inl rfl ) | exact Or.inr ( Or.inr rfl )) (by decide) (by decide)) (@pa_cons _ _ _ _ _ (@pv _ 1 _ _ (by rfl) (by first | exact Or.inl rfl | exact Or.inr ( Or.inl rfl ) | exact Or.inr ( Or.inr rfl )) (by decide) (by decide)) (@pa_nil _) (by rfl)) (by rfl)) (by decide) (by rfl) (by rfl)) (@pe_op _ _ _ _ _ _ _ _ op_mul (@pe_int _ _ _ _) (@pv _ 1 _ _ (by rfl) (by first | exact Or.inl rfl | exact Or.inr ( Or.inl rfl ) | exact Or.inr ( Or.inr rfl )) (by decide) (by decide)))) (@pe_int _ _ _ _)) (@pe_int _ _ _ _)) (@pe_int _ _ _ _)) (by rfl) (by first | exact Or.inl rfl | exact Or.inr rfl | assumption)) (@pss_one _ _ _ (@ps_ret _ _ _ _ (@pe_op _ _ _ _ _ _ _ _ op_mod (@pe_op _ _ _ _ _ _ _ _ op_add (@pe_op _ _ _ _ _ _ _ _ op_add (@pe_op _ _ _ _ _ _ _ _ op_mul (@pv _ 2 _ _ (by rfl) (by first | exact Or.inl rfl | exact Or.inr ( Or.inl rfl ) | exact Or.inr ( Or.inr rfl )) (by decide) (by decide)) (@pv _ 2 _ _ (by rfl) (by first | exact Or.inl rfl | exact Or.inr ( Or.inl rfl ) | exact Or.inr ( Or.inr rfl )) (by decide) (by decide))) (@pe_op _ _ _ _ _ _ _ _ op_mul (@pe_int _ _ _ _) (@pv _ 2 _ _ (by rfl) (by first | exact Or.inl rfl | exact Or.inr ( Or.inl rfl ) | exact Or.inr ( Or.inr rfl )) (by decide) (by decide)))) (@pv _ 1 _ _ (by rfl) (by first | exact Or.inl rfl | exact Or.inr ( Or.inl rfl ) | exact Or.inr ( Or.inr rfl )) (by decide) (by decide))) (@pe_int _ _ _ _))))), ?_⟩
  refine ⟨_, rfl, _, rfl, a, ns, k, rfl, hS, h0, fun z => ?_⟩
  refine ⟨_, rfl, _, _, rfl, rfl, .inl ⟨by decide, by decide⟩, _, _, rfl, rfl, _, _, rfl, rfl, _, _, rfl, rfl, .inr ⟨by decide, by decide⟩, _, _, rfl, rfl, (by show (0 : Int) < _; decide), ?_⟩
  have m1 : 0 ≤ (z + 7919 * k + 1) * 48271 % 2147483647 := Int.emod_nonneg _ (by decide)
  have m2 : (z + 7919 * k + 1) * 48271 % 2147483647 < 2147483647 := Int.emod_lt_of_pos _ (by decide)
  dsimp only
  generalize (z + 7919 * k + 1) * 48271 % 2147483647 = d at m1 m2 ⊢
  refine ⟨_, rfl, _, rfl, _, _, rfl, rfl, .inl ⟨by omega, by omega⟩, _, rfl, _, _, rfl, rfl, .inl ⟨by decide, by decide⟩, _, _, rfl, rfl, _, rfl, _, _, rfl, rfl, _, _, rfl, rfl, (by show (0 : Int) < _; decide), ?_⟩
  exact q _ (Int.emod_nonneg _ (by decide))
theorem sc__law_drawn : FnScope ["_law_number_here", "_law_k", "_law_drawn_here"] ["_law_number_here", "_law_k"] (defScope s__law_drawn) := ⟨rfl, rfl, rfl, by decide +kernel, rfl, by decide +kernel, by decide +kernel⟩
theorem ok__law_drawn (T : Txt K mg A₀) : FnOk P w K mg base CX0 1 A₀.a__law_drawn A₀.d__law_drawn ["_law_number_here", "_law_k"] (spDrawn) := by
  refine T.F__law_drawn.ok (k := 0) sc__law_drawn (fun vs H Q E h => ?_) (fun cdv A outer s H vs Q E hr h => ?_)
  · obtain ⟨n, k, rfl, _⟩ := h
    rfl
  obtain ⟨n, k, rfl, q⟩ := h
  have hu : (_ : Nat) + 64 < cLine ∧ (_ : Nat) < cLine := ⟨hr.units, hr.units0⟩
  refine ⟨_, (@pss_cons _ _ _ _ _ (@ps_set _ _ (2) _ _ _ _ sc__law_drawn.nd rfl (Or.inl rfl) (@pe_op _ _ _ _ _ _ _ _ op_mod (@pe_op _ _ _ _ _ _ _ _ op_mul (@pe_op _ _ _ _ _ _ _ _ op_add (@pe_op _ _ _ _ _ _ _ _ op_add (@pv _ 0 _ _ (by rfl) (by first | exact Or.inl rfl | exact Or.inr ( Or.inl rfl ) | exact Or.inr ( Or.inr rfl )) (by decide) (by decide)) (@pe_op _ _ _ _ _ _ _ _ op_mul (@pe_int _ _ _ _) (@pv _ 1 _ _ (by rfl) (by first | exact Or.inl rfl | exact Or.inr ( Or.inl rfl ) | exact Or.inr ( Or.inr rfl )) (by decide) (by decide)))) (@pe_int _ _ _ _)) (@pe_int _ _ _ _)) (@pe_int _ _ _ _)) (by rfl) (by first | exact Or.inl rfl | exact Or.inr rfl | assumption)) (@pss_one _ _ _ (@ps_ret _ _ _ _ (@pe_op _ _ _ _ _ _ _ _ op_mod (@pe_op _ _ _ _ _ _ _ _ op_add (@pe_op _ _ _ _ _ _ _ _ op_add (@pe_op _ _ _ _ _ _ _ _ op_mul (@pv _ 2 _ _ (by rfl) (by first | exact Or.inl rfl | exact Or.inr ( Or.inl rfl ) | exact Or.inr ( Or.inr rfl )) (by decide) (by decide)) (@pv _ 2 _ _ (by rfl) (by first | exact Or.inl rfl | exact Or.inr ( Or.inl rfl ) | exact Or.inr ( Or.inr rfl )) (by decide) (by decide))) (@pe_op _ _ _ _ _ _ _ _ op_mul (@pe_int _ _ _ _) (@pv _ 2 _ _ (by rfl) (by first | exact Or.inl rfl | exact Or.inr ( Or.inl rfl ) | exact Or.inr ( Or.inr rfl )) (by decide) (by decide)))) (@pv _ 1 _ _ (by rfl) (by first | exact Or.inl rfl | exact Or.inr ( Or.inl rfl ) | exact Or.inr ( Or.inr rfl )) (by decide) (by decide))) (@pe_int _ _ _ _))))), ?_⟩
  refine ⟨_, rfl, _, rfl, _, _, rfl, rfl, .inl ⟨by decide, by decide⟩, _, _, rfl, rfl, _, _, rfl, rfl, _, _, rfl, rfl, .inr ⟨by decide, by decide⟩, _, _, rfl, rfl, (by show (0 : Int) < _; decide), ?_⟩
  have m1 : 0 ≤ (n + 104729 * k + 17) * 69621 % 2147483647 := Int.emod_nonneg _ (by decide)
  have m2 : (n + 104729 * k + 17) * 69621 % 2147483647 < 2147483647 := Int.emod_lt_of_pos _ (by decide)
  dsimp only
  generalize (n + 104729 * k + 17) * 69621 % 2147483647 = d at m1 m2 ⊢
  refine ⟨_, rfl, _, rfl, _, _, rfl, rfl, .inl ⟨by omega, by omega⟩, _, rfl, _, _, rfl, rfl, .inl ⟨by decide, by decide⟩, _, _, rfl, rfl, _, rfl, _, _, rfl, rfl, _, _, rfl, rfl, (by show (0 : Int) < _; decide), ?_⟩
  exact q _ (Int.emod_nonneg _ (by decide))
theorem sc__law_text : FnScope ["_law_number_here", "_law_most", "_law_letters", "_law_many", "_law_found", "_law_k", "_law_by"] ["_law_number_here", "_law_most"] (defScope s__law_text) := ⟨rfl, rfl, rfl, by decide +kernel, rfl, by decide +kernel, by decide +kernel⟩
theorem ok__law_text (T : Txt K mg A₀) : FnOk P w K mg base CX0 2 A₀.a__law_text A₀.d__law_text ["_law_number_here", "_law_most"] (spText) := by
  have G__law_drawn : FnOk P w K mg base CX0 1 A₀.a__law_drawn A₀.d__law_drawn ["_law_number_here", "_law_k"] (spDrawn) := ok__law_drawn T
  refine T.F__law_text.ok (k := 1) sc__law_text (fun vs H Q E h => ?_) (fun cdv A outer s H vs Q E hr h => ?_)
  · obtain ⟨n, m, rfl, _⟩ := h
    rfl
  obtain ⟨n, m, rfl, hn, h0, h60, q⟩ := h
  have hu : (_ : Nat) + 64 < cLine ∧ (_ : Nat) < cLine := ⟨hr.units, hr.units0⟩
  refine ⟨_, (@pss_cons _ _ _ _ _ (@ps_set _ _ (2) _ _ _ _ sc__law_text.nd rfl (Or.inl rfl) (@pe_ix _ _ _ _ _ _ _ ix_tup (@pe_tup _ _ _ _ _ (@pa_cons _ _ _ _ _ (@pe_str _ _ _ _) (@pa_cons _ _ _ _ _ (@pe_str _ _ _ _) (@pa_cons _ _ _ _ _ (@pe_str _ _ _ _) (@pa_cons _ _ _ _ _ (@pe_str _ _ _ _) (@pa_cons _ _ _ _ _ (@pe_str _ _ _ _) (@pa_cons _ _ _ _ _ (@pe_str _ _ _ _) (@pa_cons _ _ _ _ _ (@pe_str _ _ _ _) (@pa_cons _ _ _ _ _ (@pe_str _ _ _ _) (@pa_nil _) (by rfl)) (by rfl)) (by rfl)) (by rfl)) (by rfl)) (by rfl)) (by rfl)) (by rfl))) (@pe_op _ _ _ _ _ _ _ _ op_mod (@pv _ 0 _ _ (by rfl) (by first | exact Or.inl rfl | exact Or.inr ( Or.inl rfl ) | exact Or.inr ( Or.inr rfl )) (by decide) (by decide)) (@pe_int _ _ _ _)) (fun _ _ => rfl)) (by rfl) (by first | exact Or.inl rfl | exact Or.inr rfl | assumption)) (@pss_cons _ _ _ _ _ (@ps_set _ _ (3) _ _ _ _ sc__law_text.nd rfl (Or.inl rfl) (@pe_op _ _ _ _ _ _ _ _ op_mod (@pe_op _ _ _ _ _ _ _ _ op_fdiv (@pv _ 0 _ _ (by rfl) (by first | exact Or.inl rfl | exact Or.inr ( Or.inl rfl ) | exact Or.inr ( Or.inr rfl )) (by decide) (by decide)) (@pe_int _ _ _ _)) (@pe_op _ _ _ _ _ _ _ _ op_add (@pv _ 1 _ _ (by rfl) (by first | exact Or.inl rfl | exact Or.inr ( Or.inl rfl ) | exact Or.inr ( Or.inr rfl )) (by decide) (by decide)) (@pe_int _ _ _ _))) (by rfl) (by first | exact Or.inl rfl | exact Or.inr rfl | assumption)) (@pss_cons _ _ _ _ _ (@ps_set _ _ (4) _ _ _ _ sc__law_text.nd rfl (Or.inl rfl) (@pe_str _ _ _ _) (by rfl) (by first | exact Or.inl rfl | exact Or.inr rfl | assumption)) (@pss_cons _ _ _ _ _ (@ps_for _ _ _ _ _ _ _ _ PassesOwn.never rfl (@pi_range1 _ _ _ _ _ _ rfl T.z_range (@pa_cons _ _ _ _ _ (@pv _ 3 _ _ (by rfl) (by first | exact Or.inl rfl | exact Or.inr ( Or.inl rfl ) | exact Or.inr ( Or.inr rfl )) (by decide) (by decide)) (@pa_nil _) (by rfl)) (by rfl)) (@pg_name _ _ (5) _ sc__law_text.nd rfl (Or.inl rfl) (by first | exact Or.inl rfl | exact Or.inr rfl | assumption)) (@pss_one _ _ _ (@ps_set _ _ (4) _ _ _ _ sc__law_text.nd rfl (Or.inl rfl) (@pe_op _ _ _ _ _ _ _ _ op_add_str (@pv _ 4 _ _ (by rfl) (by first | exact Or.inl rfl | exact Or.inr ( Or.inl rfl ) | exact Or.inr ( Or.inr rfl )) (by decide) (by decide)) (@pe_ix _ _ _ _ _ _ _ ix_str (@pv _ 2 _ _ (by rfl) (by first | exact Or.inl rfl | exact Or.inr ( Or.inl rfl ) | exact Or.inr ( Or.inr rfl )) (by decide) (by decide)) (@pe_op _ _ _ _ _ _ _ _ op_mod (@pe_call _ _ _ _ _ _ _ _ _ _ _ _ _ _ _ _ G__law_drawn (hr.mono (by decide)) rfl T.m__law_drawn T.k__law_drawn T.b__law_drawn .nil pass0 (@pa_cons _ _ _ _ _ (@pv _ 0 _ _ (by rfl) (by first | exact Or.inl rfl | exact Or.inr ( Or.inl rfl ) | exact Or.inr ( Or.inr rfl )) (by decide) (by decide)) (@pa_cons _ _ _ _ _ (@pv _ 5 _ _ (by rfl) (by first | exact Or.inl rfl | exact Or.inr ( Or.inl rfl ) | exact Or.inr ( Or.inr rfl )) (by decide) (by decide)) (@pa_nil _) (by rfl)) (by rfl)) (by decide) (by rfl) (by rfl)) (@pe_callB _ _ _ _ _ _ _ _ _ call_len_str rfl T.z_len PySem.boot_len (@pa_cons _ _ _ _ _ (@pv _ 2 _ _ (by rfl) (by first | exact Or.inl rfl | exact Or.inr ( Or.inl rfl ) | exact Or.inr ( Or.inr rfl )) (by decide) (by decide)) (@pa_nil _) (by rfl)) (by decide) (by decide) (by rfl) (by rfl))) (fun _ _ => rfl))) (by rfl) (by first | exact Or.inl rfl | exact Or.inr rfl | assumption))) (by intro _ ; rfl)) (@pss_cons _ _ _ _ _ (@ps_if _ _ _ _ _ _ _ _ (@PW.pt _ _ _ (@pw_and _ _ _ _ _ _ _ (@pt_cmpR _ _ _ _ _ _ _ _ op_eq (@pe_op _ _ _ _ _ _ _ _ op_mod (@pe_op _ _ _ _ _ _ _ _ op_fdiv (@pv _ 0 _ _ (by rfl) (by first | exact Or.inl rfl | exact Or.inr ( Or.inl rfl ) | exact Or.inr ( Or.inr rfl )) (by decide) (by decide)) (@pe_int _ _ _ _)) (@pe_int _ _ _ _)) (@pe_int _ _ _ _) (nomark _)) (@pw_and1 _ _ _ _ (@pt_cmpR _ _ _ _ _ _ _ _ op_gt (@pv _ 3 _ _ (by rfl) (by first | exact Or.inl rfl | exact Or.inr ( Or.inl rfl ) | exact Or.inr ( Or.inr rfl )) (by decide) (by decide)) (@pe_int _ _ _ _) (nomark _))))) (@pss_cons _ _ _ _ _ (@ps_set _ _ (6) _ _ _ _ sc__law_text.nd rfl (Or.inl rfl) (@pe_op _ _ _ _ _ _ _ _ op_add (@pe_int _ _ _ _) (@pe_op _ _ _ _ _ _ _ _ op_mod (@pe_op _ _ _ _ _ _ _ _ op_fdiv (@pv _ 0 _ _ (by rfl) (by first | exact Or.inl rfl | exact Or.inr ( Or.inl rfl ) | exact Or.inr ( Or.inr rfl )) (by decide) (by decide)) (@pe_int _ _ _ _)) (@pe_op _ _ _ _ _ _ _ _ op_sub (@pv _ 3 _ _ (by rfl) (by first | exact Or.inl rfl | exact Or.inr ( Or.inl rfl ) | exact Or.inr ( Or.inr rfl )) (by decide) (by decide)) (@pe_int _ _ _ _)))) (by rfl) (by first | exact Or.inl rfl | exact Or.inr rfl | assumption)) (@pss_one _ _ _ (@ps_set _ _ (4) _ _ _ _ sc__law_text.nd rfl (Or.inl rfl) (@pe_slice _ _ _ _ _ _ _ _ _ _ sl_str (@pe_op _ _ _ _ _ _ _ _ op_mul_str (@pe_slice _ _ _ _ _ _ _ _ _ _ sl_str (@pv _ 4 _ _ (by rfl) (by first | exact Or.inl rfl | exact Or.inr ( Or.inl rfl ) | exact Or.inr ( Or.inr rfl )) (by decide) (by decide)) (@po_none _) (@po_some _ _ _ (@pv _ 6 _ _ (by rfl) (by first | exact Or.inl rfl | exact Or.inr ( Or.inl rfl ) | exact Or.inr ( Or.inr rfl )) (by decide) (by decide)))) (@pv _ 3 _ _ (by rfl) (by first | exact Or.inl rfl | exact Or.inr ( Or.inl rfl ) | exact Or.inr ( Or.inr rfl )) (by decide) (by decide))) (@po_none _) (@po_some _ _ _ (@pv _ 3 _ _ (by rfl) (by first | exact Or.inl rfl | exact Or.inr ( Or.inl rfl ) | exact Or.inr ( Or.inr rfl )) (by decide) (by decide)))) (by rfl) (by first | exact Or.inl rfl | exact Or.inr rfl | assumption)))) (@pss_nil _)) (@pss_one _ _ _ (@ps_ret _ _ _ _ (@pv _ 4 _ _ (by rfl) (by first | exact Or.inl rfl | exact Or.inr ( Or.inl rfl ) | exact Or.inr ( Or.inr rfl )) (by decide) (by decide))))))))), ?_⟩
  -- the letters
  refine ⟨(by show 8 ≤ sizeLine; decide), fun tp htp => ?_⟩
  have g1 := same_new htp (.tup [.str "a", .str "ab", .str "ab", .str "abc", .str "abcd", .str "xyz", .str "bm", .str "abcdefghijklmnopqrstuvwxyz"])
  have e1 : 0 ≤ n % 8 := Int.emod_nonneg _ (by decide)
  have e2 : n % 8 < 8 := Int.emod_lt_of_pos _ (by decide)
  obtain ⟨v, hv, _, hvm⟩ := at_some (l := [V.str "a", .str "ab", .str "ab", .str "abc", .str "abcd", .str "xyz", .str "bm", .str "abcdefghijklmnopqrstuvwxyz"]) e1 (by simpa using e2)
  obtain ⟨ls, rfl, ll, lz, l0⟩ : ∃ ls : Str, v = .str ls ∧ Low (toL ls) ∧ ls.length ≤ 26 ∧ 1 ≤ ls.length := by
    simp only [List.mem_cons, List.not_mem_nil, or_false] at hvm
    rcases hvm with rfl | rfl | rfl | rfl | rfl | rfl | rfl | rfl <;> exact ⟨_, rfl, by decide +kernel, by decide +kernel, by decide +kernel⟩
  refine ⟨_, rfl, _, _, rfl, rfl, (by show (0 : Int) < _; decide), tp, _, _, _, rfl, rfl, SqT.of upd_same, hv, ?_⟩
  -- many
  refine ⟨_, rfl, _, _, rfl, rfl, ⟨by decide, by decide⟩, _, rfl, _, _, rfl, rfl, _, _, rfl, rfl, (by show (0 : Int) < m + 1; omega), ?_⟩
  have m1 : 0 ≤ n / 8 % (m + 1) := Int.emod_nonneg _ (by omega)
  have m2 : n / 8 % (m + 1) < m + 1 := Int.emod_lt_of_pos _ (by omega)
  dsimp only
  generalize n / 8 % (m + 1) = many at m1 m2 ⊢
  -- found = '' and the loop
  refine ⟨_, rfl, many, rfl, by omega, by omega, for_range (lo := 0) (n := many.toNat) (fun i σ H2 => ∃ (x : Str) (kk : Option V), σ = [some (.int n), some (.int m), some (.str ls), some (.int many), some (.str x), kk, none] ∧ Same H H2 ∧ Low (toL x) ∧ x.length = i)
    ⟨"", none, rfl, g1, by decide +kernel, rfl⟩ ?_ ?_⟩
  · rintro i σ H2 hi ⟨x, kk, rfl, s2, lx, ex⟩
    refine ⟨_, rfl, _, rfl, _, rfl, _, rfl, _, _, rfl, fun z hz => ?_⟩
    have f1 : 0 ≤ z % (ls.length : Int) := Int.emod_nonneg _ (by omega)
    have f2 : z % (ls.length : Int) < (ls.length : Int) := Int.emod_lt_of_pos _ (by omega)
    have tl : ((toL ls).length : Int) = (ls.length : Int) := by rw [toL_len]
    obtain ⟨c, hc, _, hcm⟩ := at_some (l := toL ls) f1 (by omega)
    refine ⟨_, rfl, ls, rfl, small (by omega), _, _, rfl, rfl, (by show (0 : Int) < (ls.length : Int); omega), ls, _, c, rfl, rfl, small (by omega), hc, ?_⟩
    refine ⟨x, _, rfl, rfl, ?_, ?_⟩
    · rw [show (⟨#[c]⟩ : Str).length = 1 from rfl]
      exact small (by omega)
    · refine ⟨x ++ ofL [c], some (.int (0 + (i : Int))), rfl, s2, ?_, ?_⟩
      · rw [toL_append]
        exact lx.app (Low.one (ll c hcm).1 (ll c hcm).2)
      · rw [← toL_len, toL_append, List.length_append, toL_len, ex]; rfl
  · rintro σ H2 ⟨x, kk, rfl, s2, lx, ex⟩
    -- if number // 800 % 3 == 1 and many > 1
    refine ⟨_, rfl, _, _, rfl, rfl, ⟨by decide, by decide⟩, _, _, rfl, rfl, (by show (0 : Int) < _; decide), rfl, _, rfl, ?_⟩
    have fin : ∀ (x : Str) (kk by' : Option V), Low (toL x) → (x.length : Int) ≤ many → Q (.str x) H2 := fun x kk by' l1 l2 => q x H2 s2 l1 (by omega)
    refine ite2 (fun c1 => ?_) (fun c1 => ?_)
    · refine ⟨_, rfl, _, _, rfl, rfl, _, rfl, ?_⟩
      refine ite2 (fun c2 => ?_) (fun c2 => ?_)
      · have c2' : 1 < many := of_decide_eq_true c2
        refine ⟨_, rfl, _, _, rfl, rfl, ⟨by decide, by decide⟩, _, rfl, _, _, rfl, rfl, _, _, rfl, rfl, (by show (0 : Int) < many - 1; omega), _, _, rfl, rfl, ?_⟩
        have b1 : 0 ≤ n / 2400 % (many - 1) := Int.emod_nonneg _ (by omega)
        have b2 : n / 2400 % (many - 1) < many - 1 := Int.emod_lt_of_pos _ (by omega)
        dsimp only
        generalize n / 2400 % (many - 1) = bb at b1 b2 ⊢
        have k1 : (cutN (toL x) none (some (1 + bb))).length ≤ x.length := by rw [← toL_len]; exact cutN_len _ _ _
        refine ⟨_, rfl, _, rfl, 1 + bb, rfl, x, rfl, small (by omega), _, rfl, _, many, rfl, rfl, (by rw [len_ofL]; omega), ⟨by omega, by omega⟩, _, rfl, many, rfl, _, rfl, ?_, ?_⟩
        · rw [len_ofL, rep_len, toL_ofL]
          exact small (Nat.le_trans (Nat.mul_le_mul (by omega : many.toNat ≤ 60) (Nat.le_trans k1 (by omega : x.length ≤ 60))) (by decide))
        · refine ⟨_, rfl, ?_⟩
          refine fin _ none none ?_ ?_
          · rw [toL_ofL]
            exact ((lx.cut _ _).rep _).cut _ _
          · rw [len_ofL, cut_ns _ m1, List.length_take]
            omega
      · exact ⟨_, rfl, fin x kk none lx (by omega)⟩
    · exact ⟨_, rfl, fin x kk none lx (by omega)⟩
theorem sc__law_rich : FnScope ["_law_number_here", "_law_most", "_law_found", "_law_pairs", "_law_longer", "_law_letter", "_law_first"] ["_law_number_here", "_law_most"] (defScope s__law_rich) := ⟨rfl, rfl, rfl, by decide +kernel, rfl, by decide +kernel, by decide +kernel⟩
theorem ok__law_rich (T : Txt K mg A₀) : FnOk P w K mg base CX0 3 A₀.a__law_rich A₀.d__law_rich ["_law_number_here", "_law_most"] (spText) := by
  have G__law_text : FnOk P w K mg base CX0 2 A₀.a__law_text A₀.d__law_text ["_law_number_here", "_law_most"] (spText) := ok__law_text T
  refine T.F__law_rich.ok (k := 2) sc__law_rich (fun vs H Q E h => ?_) (fun cdv A outer s H vs Q E hr h => ?_)
  · obtain ⟨n, m, rfl, _⟩ := h
    rfl
  obtain ⟨n, m, rfl, hn, h0, h60, q⟩ := h
  have hu : (_ : Nat) + 64 < cLine ∧ (_ : Nat) < cLine := ⟨hr.units, hr.units0⟩
  refine ⟨_, (@pss_cons _ _ _ _ _ (@ps_if _ _ _ _ _ _ _ _ (@pt_cmpR _ _ _ _ _ _ _ _ op_gt (@pe_op _ _ _ _ _ _ _ _ op_mod (@pv _ 0 _ _ (by rfl) (by first | exact Or.inl rfl | exact Or.inr ( Or.inl rfl ) | exact Or.inr ( Or.inr rfl )) (by decide) (by decide)) (@pe_int _ _ _ _)) (@pe_int _ _ _ _) (nomark _)) (@pss_one _ _ _ (@ps_ret _ _ _ _ (@pe_call _ _ _ _ _ _ _ _ _ _ _ _ _ _ _ _ G__law_text (hr.mono (by decide)) rfl T.m__law_text T.k__law_text T.b__law_text .nil pass0 (@pa_cons _ _ _ _ _ (@pe_op _ _ _ _ _ _ _ _ op_fdiv (@pv _ 0 _ _ (by rfl) (by first | exact Or.inl rfl | exact Or.inr ( Or.inl rfl ) | exact Or.inr ( Or.inr rfl )) (by decide) (by decide)) (@pe_int _ _ _ _)) (@pa_cons _ _ _ _ _ (@pv _ 1 _ _ (by rfl) (by first | exact Or.inl rfl | exact Or.inr ( Or.inl rfl ) | exact Or.inr ( Or.inr rfl )) (by decide) (by decide)) (@pa_nil _) (by rfl)) (by rfl)) (by decide) (by rfl) (by rfl)))) (@pss_nil _)) (@pss_cons _ _ _ _ _ (@ps_set _ _ (2) _ _ _ _ sc__law_rich.nd rfl (Or.inl rfl) (@pe_str _ _ _ _) (by rfl) (by first | exact Or.inl rfl | exact Or.inr rfl | assumption)) (@pss_cons _ _ _ _ _ (@ps_set _ _ (3) _ _ _ _ sc__law_rich.nd rfl (Or.inl rfl) (@pe_ix _ _ _ _ _ _ _ ix_list (@pe_lst _ _ _ _ (@pa_cons _ _ _ _ _ (@pe_tup _ _ _ _ _ (@pa_cons _ _ _ _ _ (@pe_str _ _ _ _) (@pa_cons _ _ _ _ _ (@pe_str _ _ _ _) (@pa_nil _) (by rfl)) (by rfl))) (@pa_cons _ _ _ _ _ (@pe_tup _ _ _ _ _ (@pa_cons _ _ _ _ _ (@pe_str _ _ _ _) (@pa_cons _ _ _ _ _ (@pe_str _ _ _ _) (@pa_nil _) (by rfl)) (by rfl))) (@pa_cons _ _ _ _ _ (@pe_tup _ _ _ _ _ (@pa_cons _ _ _ _ _ (@pe_str _ _ _ _) (@pa_cons _ _ _ _ _ (@pe_str _ _ _ _) (@pa_nil _) (by rfl)) (by rfl))) (@pa_cons _ _ _ _ _ (@pe_tup _ _ _ _ _ (@pa_cons _ _ _ _ _ (@pe_str _ _ _ _) (@pa_cons _ _ _ _ _ (@pe_str _ _ _ _) (@pa_nil _) (by rfl)) (by rfl))) (@pa_cons _ _ _ _ _ (@pe_tup _ _ _ _ _ (@pa_cons _ _ _ _ _ (@pe_str _ _ _ _) (@pa_cons _ _ _ _ _ (@pe_str _ _ _ _) (@pa_nil _) (by rfl)) (by rfl))) (@pa_cons _ _ _ _ _ (@pe_tup _ _ _ _ _ (@pa_cons _ _ _ _ _ (@pe_str _ _ _ _) (@pa_cons _ _ _ _ _ (@pe_str _ _ _ _) (@pa_nil _) (by rfl)) (by rfl))) (@pa_nil _) (by rfl)) (by rfl)) (by rfl)) (by rfl)) (by rfl)) (by rfl))) (@pe_op _ _ _ _ _ _ _ _ op_mod (@pe_op _ _ _ _ _ _ _ _ op_fdiv (@pv _ 0 _ _ (by rfl) (by first | exact Or.inl rfl | exact Or.inr ( Or.inl rfl ) | exact Or.inr ( Or.inr rfl )) (by decide) (by decide)) (@pe_int _ _ _ _)) (@pe_int _ _ _ _)) (fun _ _ => rfl)) (by rfl) (by first | exact Or.inl rfl | exact Or.inr rfl | assumption)) (@pss_cons _ _ _ _ _ (@ps_while _ _ _ _ _ _ PassesOwn.never (@pt_cmpR _ _ _ _ _ _ _ _ op_lt (@pe_callB _ _ _ _ _ _ _ _ _ call_len_str rfl T.z_len PySem.boot_len (@pa_cons _ _ _ _ _ (@pv _ 2 _ _ (by rfl) (by first | exact Or.inl rfl | exact Or.inr ( Or.inl rfl ) | exact Or.inr ( Or.inr rfl )) (by decide) (by decide)) (@pa_nil _) (by rfl)) (by decide) (by decide) (by rfl) (by rfl)) (@pe_int _ _ _ _) (nomark _)) (@pss_cons _ _ _ _ _ (@ps_set _ _ (4) _ _ _ _ sc__law_rich.nd rfl (Or.inl rfl) (@pe_str _ _ _ _) (by rfl) (by first | exact Or.inl rfl | exact Or.inr rfl | assumption)) (@pss_cons _ _ _ _ _ (@ps_for _ _ _ _ _ _ _ _ PassesOwn.never rfl (@pi_str _ _ _ _ (@pv _ 2 _ _ (by rfl) (by first | exact Or.inl rfl | exact Or.inr ( Or.inl rfl ) | exact Or.inr ( Or.inr rfl )) (by decide) (by decide))) (@pg_name _ _ (5) _ sc__law_rich.nd rfl (Or.inl rfl) (by first | exact Or.inl rfl | exact Or.inr rfl | assumption)) (@pss_one _ _ _ (@ps_set _ _ (4) _ _ _ _ sc__law_rich.nd rfl (Or.inl rfl) (@pe_op _ _ _ _ _ _ _ _ op_add_str (@pv _ 4 _ _ (by rfl) (by first | exact Or.inl rfl | exact Or.inr ( Or.inl rfl ) | exact Or.inr ( Or.inr rfl )) (by decide) (by decide)) (@pe_ix _ _ _ _ _ _ _ ix_tup (@pv _ 3 _ _ (by rfl) (by first | exact Or.inl rfl | exact Or.inr ( Or.inl rfl ) | exact Or.inr ( Or.inr rfl )) (by decide) (by decide)) (@pe_callTy _ _ _ _ _ _ _ _ _ call_int1 rfl T.z_int PyProof.Rows.boot_int (@pa_cons _ _ _ _ _ (@pe_cmpR _ _ _ _ _ _ _ _ op_eq (@pv _ 5 _ _ (by rfl) (by first | exact Or.inl rfl | exact Or.inr ( Or.inl rfl ) | exact Or.inr ( Or.inr rfl )) (by decide) (by decide)) (@pe_str _ _ _ _) (nomark _)) (@pa_nil _) (by rfl)) (by decide) (by decide) (by rfl) (by rfl)) (fun _ _ => rfl))) (by rfl) (by first | exact Or.inl rfl | exact Or.inr rfl | assumption))) (by intro _ ; rfl)) (@pss_one _ _ _ (@ps_set _ _ (2) _ _ _ _ sc__law_rich.nd rfl (Or.inl rfl) (@pe_ix _ _ _ _ _ _ _ ix_list (@pe_lst _ _ _ _ (@pa_cons _ _ _ _ _ (@pv _ 4 _ _ (by rfl) (by first | exact Or.inl rfl | exact Or.inr ( Or.inl rfl ) | exact Or.inr ( Or.inr rfl )) (by decide) (by decide)) (@pa_cons _ _ _ _ _ (@pe_op _ _ _ _ _ _ _ _ op_add_str (@pv _ 4 _ _ (by rfl) (by first | exact Or.inl rfl | exact Or.inr ( Or.inl rfl ) | exact Or.inr ( Or.inr rfl )) (by decide) (by decide)) (@pe_str _ _ _ _)) (@pa_nil _) (by rfl)) (by rfl))) (@pe_callTy _ _ _ _ _ _ _ _ _ call_int1 rfl T.z_int PyProof.Rows.boot_int (@pa_cons _ _ _ _ _ (@pe_cmpR _ _ _ _ _ _ _ _ op_le (@pe_callB _ _ _ _ _ _ _ _ _ call_len_str rfl T.z_len PySem.boot_len (@pa_cons _ _ _ _ _ (@pv _ 4 _ _ (by rfl) (by first | exact Or.inl rfl | exact Or.inr ( Or.inl rfl ) | exact Or.inr ( Or.inr rfl )) (by decide) (by decide)) (@pa_nil _) (by rfl)) (by decide) (by decide) (by rfl) (by rfl)) (@pe_callB _ _ _ _ _ _ _ _ _ call_len_str rfl T.z_len PySem.boot_len (@pa_cons _ _ _ _ _ (@pv _ 2 _ _ (by rfl) (by first | exact Or.inl rfl | exact Or.inr ( Or.inl rfl ) | exact Or.inr ( Or.inr rfl )) (by decide) (by decide)) (@pa_nil _) (by rfl)) (by decide) (by decide) (by rfl) (by rfl)) (nomark _)) (@pa_nil _) (by rfl)) (by decide) (by decide) (by rfl) (by rfl)) (fun _ _ => rfl)) (by rfl) (by first | exact Or.inl rfl | exact Or.inr rfl | assumption)))))) (@pss_cons _ _ _ _ _ (@ps_set _ _ (6) _ _ _ _ sc__law_rich.nd rfl (Or.inl rfl) (@pe_op _ _ _ _ _ _ _ _ op_mod (@pe_op _ _ _ _ _ _ _ _ op_fdiv (@pv _ 0 _ _ (by rfl) (by first | exact Or.inl rfl | exact Or.inr ( Or.inl rfl ) | exact Or.inr ( Or.inr rfl )) (by decide) (by decide)) (@pe_int _ _ _ _)) (@pe_int _ _ _ _)) (by rfl) (by first | exact Or.inl rfl | exact Or.inr rfl | assumption)) (@pss_one _ _ _ (@ps_ret _ _ _ _ (@pe_slice _ _ _ _ _ _ _ _ _ _ sl_str (@pv _ 2 _ _ (by rfl) (by first | exact Or.inl rfl | exact Or.inr ( Or.inl rfl ) | exact Or.inr ( Or.inr rfl )) (by decide) (by decide)) (@po_some _ _ _ (@pv _ 6 _ _ (by rfl) (by first | exact Or.inl rfl | exact Or.inr ( Or.inl rfl ) | exact Or.inr ( Or.inr rfl )) (by decide) (by decide))) (@po_some _ _ _ (@pe_op _ _ _ _ _ _ _ _ op_add (@pv _ 6 _ _ (by rfl) (by first | exact Or.inl rfl | exact Or.inr ( Or.inl rfl ) | exact Or.inr ( Or.inr rfl )) (by decide) (by decide)) (@pe_op _ _ _ _ _ _ _ _ op_mod (@pe_op _ _ _ _ _ _ _ _ op_fdiv (@pv _ 0 _ _ (by rfl) (by first | exact Or.inl rfl | exact Or.inr ( Or.inl rfl ) | exact Or.inr ( Or.inr rfl )) (by decide) (by decide)) (@pe_int _ _ _ _)) (@pe_op _ _ _ _ _ _ _ _ op_add (@pv _ 1 _ _ (by rfl) (by first | exact Or.inl rfl | exact Or.inr ( Or.inl rfl ) | exact Or.inr ( Or.inr rfl )) (by decide) (by decide)) (@pe_int _ _ _ _))))))))))))), ?_⟩
  refine ⟨_, rfl, _, _, rfl, rfl, (by show (0 : Int) < _; decide), _, _, rfl, rfl, _, rfl, ?_⟩
  refine ite2 (fun c => ?_) (fun c => ?_)
  · refine ⟨_, rfl, _, _, rfl, rfl, ⟨by decide, by decide⟩, _, rfl, _, _, rfl, Int.ediv_nonneg hn (by decide), h0, h60, fun x H' s l e => q x H' s l e⟩
  -- the pairs
  refine ⟨(by show 2 ≤ sizeLine; decide), fun p1 h1 => ⟨(by show 2 ≤ sizeLine; decide), fun p2 h2 => ⟨(by show 2 ≤ sizeLine; decide), fun p3 h3 => ⟨(by show 2 ≤ sizeLine; decide), fun p4 h4 => ⟨(by show 2 ≤ sizeLine; decide), fun p5 h5 => ⟨(by show 2 ≤ sizeLine; decide), fun p6 h6 => ⟨(by show 6 ≤ sizeLine; decide), fun pl hl => ?_⟩⟩⟩⟩⟩⟩⟩
  have s6 := (same_new h1 (.tup [.str "ab", .str "a"])).trans ((same_new h2 (.tup [.str "ab", .str "aa"])).trans ((same_new h3 (.tup [.str "ab", .str "ba"])).trans ((same_new h4 (.tup [.str "aab", .str "b"])).trans ((same_new h5 (.tup [.str "abb", .str "ab"])).trans ((same_new h6 (.tup [.str "b", .str "ab"])).trans (same_new hl (.lst [.ref p1, .ref p2, .ref p3, .ref p4, .ref p5, .ref p6])))))))
  have t1 := ((((((Tup2.new (H := H) (r := p1) (a := "ab") (b := "a") (by decide +kernel) (by decide +kernel)).keep h2 (o := .tup [.str "ab", .str "aa"])).keep h3 (o := .tup [.str "ab", .str "ba"])).keep h4 (o := .tup [.str "aab", .str "b"])).keep h5 (o := .tup [.str "abb", .str "ab"])).keep h6 (o := .tup [.str "b", .str "ab"])).keep hl (o := .lst [.ref p1, .ref p2, .ref p3, .ref p4, .ref p5, .ref p6])
  have t2 := (((((Tup2.new (r := p2) (a := "ab") (b := "aa") (by decide +kernel) (by decide +kernel)).keep h3 (o := .tup [.str "ab", .str "ba"])).keep h4 (o := .tup [.str "aab", .str "b"])).keep h5 (o := .tup [.str "abb", .str "ab"])).keep h6 (o := .tup [.str "b", .str "ab"])).keep hl (o := .lst [.ref p1, .ref p2, .ref p3, .ref p4, .ref p5, .ref p6])
  have t3 := ((((Tup2.new (r := p3) (a := "ab") (b := "ba") (by decide +kernel) (by decide +kernel)).keep h4 (o := .tup [.str "aab", .str "b"])).keep h5 (o := .tup [.str "abb", .str "ab"])).keep h6 (o := .tup [.str "b", .str "ab"])).keep hl (o := .lst [.ref p1, .ref p2, .ref p3, .ref p4, .ref p5, .ref p6])
  have t4 := (((Tup2.new (r := p4) (a := "aab") (b := "b") (by decide +kernel) (by decide +kernel)).keep h5 (o := .tup [.str "abb", .str "ab"])).keep h6 (o := .tup [.str "b", .str "ab"])).keep hl (o := .lst [.ref p1, .ref p2, .ref p3, .ref p4, .ref p5, .ref p6])
  have t5 := ((Tup2.new (r := p5) (a := "abb") (b := "ab") (by decide +kernel) (by decide +kernel)).keep h6 (o := .tup [.str "b", .str "ab"])).keep hl (o := .lst [.ref p1, .ref p2, .ref p3, .ref p4, .ref p5, .ref p6])
  have t6 := (Tup2.new (r := p6) (a := "b") (b := "ab") (by decide +kernel) (by decide +kernel)).keep hl (o := .lst [.ref p1, .ref p2, .ref p3, .ref p4, .ref p5, .ref p6])
  have e1 : 0 ≤ n / 3 % 6 := Int.emod_nonneg _ (by decide)
  have e2 : n / 3 % 6 < 6 := Int.emod_lt_of_pos _ (by decide)
  obtain ⟨v, hv, _, hvm⟩ := at_some (l := [V.ref p1, .ref p2, .ref p3, .ref p4, .ref p5, .ref p6]) e1 (by simpa using e2)
  refine ⟨_, rfl, _, _, rfl, rfl, ⟨by decide, by decide⟩, _, _, rfl, rfl, (by show (0 : Int) < _; decide), pl, _, _, _, rfl, rfl, SqL.of upd_same, hv, ?_⟩
  dsimp only
  generalize hH6 : upd (upd (upd (upd (upd (upd (upd H p1 (.tup [.str "ab", .str "a"])) p2 (.tup [.str "ab", .str "aa"])) p3 (.tup [.str "ab", .str "ba"])) p4 (.tup [.str "aab", .str "b"])) p5 (.tup [.str "abb", .str "ab"])) p6 (.tup [.str "b", .str "ab"])) pl (.lst [.ref p1, .ref p2, .ref p3, .ref p4, .ref p5, .ref p6]) = H6 at *
  obtain ⟨pj, rfl, tj⟩ : ∃ pj, v = .ref pj ∧ Tup2 H6 pj := by
    simp only [List.mem_cons, List.not_mem_nil, or_false] at hvm
    rcases hvm with rfl | rfl | rfl | rfl | rfl | rfl
    · exact ⟨_, rfl, t1⟩
    · exact ⟨_, rfl, t2⟩
    · exact ⟨_, rfl, t3⟩
    · exact ⟨_, rfl, t4⟩
    · exact ⟨_, rfl, t5⟩
    · exact ⟨_, rfl, t6⟩
  obtain ⟨pa, pb, hpj, ⟨la, a1, a3⟩, ⟨lb, b1, b3⟩⟩ := tj
  -- while
  refine ⟨fun mm σ H2 => ∃ (x : Str) (lg lt : Option V), σ = [some (.int n), some (.int m), some (.str x), some (.ref pj), lg, lt, none] ∧ Same H6 H2 ∧ Low (toL x) ∧ 1 ≤ x.length ∧ x.length ≤ 1000 ∧ mm = 1000 - x.length,
    ⟨_, "a", none, none, rfl, Same.refl _, by decide +kernel, by decide +kernel, by decide +kernel, rfl⟩, ?_⟩
  rintro mm σ H2 ⟨x, lg, lt, rfl, s2, lx, x1, x2, rfl⟩
  refine ⟨_, rfl, x, rfl, small (by omega), _, _, rfl, rfl, _, rfl, ?_⟩
  refine ite2 (fun c2 => ?_) (fun c2 => ?_)
  · have c2' : (x.length : Int) < 60 := of_decide_eq_true c2
    refine ⟨fun σ' H' => ∃ (x' : Str) (lg lt : Option V), σ' = [some (.int n), some (.int m), some (.str x'), some (.ref pj), lg, lt, none] ∧ Same H6 H' ∧ Low (toL x') ∧ x.length < x'.length ∧ x'.length ≤ 3 * x.length + 2, ?_, ?_⟩
    · rintro σ' H' ⟨x', lg, lt, rfl, s3, l3, y1, y2⟩
      exact ⟨1000 - x'.length, by omega, x', lg, lt, rfl, s3, l3, by omega, by omega, rfl⟩
    · -- longer = '' and the loop over the letters
      refine ⟨_, rfl, x, rfl, for_str (z := x) (fun i σ H3 => ∃ (y : Str) (lt : Option V), σ = [some (.int n), some (.int m), some (.str x), some (.ref pj), some (.str y), lt, none] ∧ Same H6 H3 ∧ Low (toL y) ∧ i ≤ y.length ∧ y.length ≤ 3 * i)
        ⟨"", lt, rfl, s2, by decide +kernel, by decide +kernel, by decide +kernel⟩ ?_ ?_⟩
      · rintro i c σ H3 hc ⟨y, lt, rfl, s3, ly, y1, y2⟩
        have hi : i < x.length := by rw [← toL_len]; exact (List.getElem?_eq_some_iff.mp hc).1
        refine ⟨_, rfl, _, rfl, _, rfl, rfl, .inr ⟨_, rfl, pj, _, _, _, rfl, rfl, SqT.of (s3 _ _ hpj), at_01, ?_⟩⟩
        by_cases hb : V.str (ofL [c]) = V.str "b"
        · rw [if_pos (decide_eq_true hb)]
          refine ⟨y, pb, rfl, rfl, small (by omega), y ++ pb, _, rfl, s3, ?_, ?_, ?_⟩
          · rw [toL_append]; exact ly.app lb
          · rw [← toL_len, toL_append, List.length_append, toL_len, toL_len]; omega
          · rw [← toL_len, toL_append, List.length_append, toL_len, toL_len]; omega
        · rw [if_neg (by simpa using hb)]
          refine ⟨y, pa, rfl, rfl, small (by omega), y ++ pa, _, rfl, s3, ?_, ?_, ?_⟩
          · rw [toL_append]; exact ly.app la
          · rw [← toL_len, toL_append, List.length_append, toL_len, toL_len]; omega
          · rw [← toL_len, toL_append, List.length_append, toL_len, toL_len]; omega
      · rintro σ H3 ⟨y, lt, rfl, s3, ly, y1, y2⟩
        refine ⟨_, rfl, _, rfl, y, _, rfl, rfl, small (by rw [show ("ab" : Str).length = 2 from rfl]; omega), (by show 2 ≤ sizeLine; decide), fun pz hz => ?_⟩
        refine ⟨_, rfl, y, rfl, small (by omega), _, rfl, x, rfl, small (by omega), _, _, rfl, rfl, .inr ⟨_, rfl, pz, _, _, _, rfl, rfl, SqL.of upd_same, at_01, ?_⟩⟩
        by_cases hb : (y.length : Int) ≤ (x.length : Int)
        · rw [if_pos (decide_eq_true hb)]
          refine ⟨y ++ "ab", _, _, rfl, s3.trans (same_new hz _), ?_, ?_, ?_⟩
          · rw [toL_append]; exact ly.app (by decide +kernel)
          · rw [← toL_len (y ++ "ab"), toL_append, List.length_append, toL_len, toL_len, show ("ab" : Str).length = 2 from rfl]; omega
          · rw [← toL_len, toL_append, List.length_append, toL_len, toL_len, show ("ab" : Str).length = 2 from rfl]; omega
        · rw [if_neg (by simpa using hb)]
          exact ⟨y, _, _, rfl, s3.trans (same_new hz _), ly, by omega, by omega⟩
  · -- the cut
    refine ⟨_, rfl, _, _, rfl, rfl, ⟨by decide, by decide⟩, _, _, rfl, rfl, (by show (0 : Int) < _; decide), ?_⟩
    have k1 : 0 ≤ n / 18 % 20 := Int.emod_nonneg _ (by decide)
    dsimp only
    generalize n / 18 % 20 = kf at k1 ⊢
    refine ⟨_, rfl, _, rfl, kf, rfl, _, rfl, _, rfl, _, _, rfl, rfl, ⟨by decide, by decide⟩, _, rfl, _, _, rfl, rfl, _, _, rfl, rfl, (by show (0 : Int) < m + 1; omega), _, _, rfl, rfl, _, rfl, x, rfl, small (by omega), ?_⟩
    have k2 : 0 ≤ n / 360 % (m + 1) := Int.emod_nonneg _ (by omega)
    have k3 : n / 360 % (m + 1) < m + 1 := Int.emod_lt_of_pos _ (by omega)
    dsimp only
    generalize n / 360 % (m + 1) = kl at k2 k3 ⊢
    refine q _ H2 (s6.trans s2) ?_ ?_
    · rw [toL_ofL]; exact lx.cut _ _
    · rw [len_ofL, cut_ss _ k1 (by omega), List.length_take]
      omega
theorem sc__law_number : FnScope ["_law_thing", "_law_low", "_law_high"] ["_law_thing", "_law_low", "_law_high"] (defScope s__law_number) := ⟨rfl, rfl, rfl, by decide +kernel, rfl, by decide +kernel, by decide +kernel⟩
theorem ok__law_number (T : Txt K mg A₀) : FnOk P w K mg base CX0 1 A₀.a__law_number A₀.d__law_number ["_law_thing", "_law_low", "_law_high"] (spNum) := by
  refine T.F__law_number.ok (k := 0) sc__law_number (fun vs H Q E h => ?_) (fun cdv A outer s H vs Q E hr h => ?_)
  · obtain ⟨t, lo, hi, rfl, _⟩ := h
    rfl
  obtain ⟨t, lo, hi, rfl, h1, h2, q⟩ := h
  have hu : (_ : Nat) + 64 < cLine ∧ (_ : Nat) < cLine := ⟨hr.units, hr.units0⟩
  refine ⟨_, (@pss_one _ _ _ (@ps_ret _ _ _ _ (@pe_and _ _ _ _ _ _ _ (@pe_callB _ _ _ _ _ _ _ _ _ call_isi rfl T.z_isinstance PyProof.Rows.boot_isinstance (@pa_cons _ _ _ _ _ (@pv _ 0 _ _ (by rfl) (by first | exact Or.inl rfl | exact Or.inr ( Or.inl rfl ) | exact Or.inr ( Or.inr rfl )) (by decide) (by decide)) (@pa_cons _ _ _ _ _ (@pe_bltn _ _ (.ty "int") _ _ rfl T.z_int PyProof.Rows.boot_int rfl (by decide) (by decide)) (@pa_nil _) (by rfl)) (by rfl)) (by decide) (by decide) (by rfl) (by rfl)) (@pe_and _ _ _ _ _ _ _ (@pe_not _ _ _ _ (@pe_callB _ _ _ _ _ _ _ _ _ call_isi rfl T.z_isinstance PyProof.Rows.boot_isinstance (@pa_cons _ _ _ _ _ (@pv _ 0 _ _ (by rfl) (by first | exact Or.inl rfl | exact Or.inr ( Or.inl rfl ) | exact Or.inr ( Or.inr rfl )) (by decide) (by decide)) (@pa_cons _ _ _ _ _ (@pe_bltn _ _ (.ty "bool") _ _ rfl T.z_bool PyProof.Rows.boot_bool rfl (by decide) (by decide)) (@pa_nil _) (by rfl)) (by rfl)) (by decide) (by decide) (by rfl) (by rfl))) (@pe_one _ _ _ _ _ (@pe_chain _ _ _ _ _ _ _ _ _ _ _ _ op_le op_le (@pv _ 1 _ _ (by rfl) (by first | exact Or.inl rfl | exact Or.inr ( Or.inl rfl ) | exact Or.inr ( Or.inr rfl )) (by decide) (by decide)) (@pv _ 0 _ _ (by rfl) (by first | exact Or.inl rfl | exact Or.inr ( Or.inl rfl ) | exact Or.inr ( Or.inr rfl )) (by decide) (by decide)) (@pv _ 2 _ _ (by rfl) (by first | exact Or.inl rfl | exact Or.inr ( Or.inl rfl ) | exact Or.inr ( Or.inr rfl )) (by decide) (by decide)) (by with_unfolding_all rfl))))))), ?_⟩
  refine ⟨_, rfl, _, _, _, _, rfl, .int t, kit_int, _, rfl, ?_⟩
  refine iteT ?_
  refine ⟨_, rfl, _, _, _, _, rfl, .int t, kit_int_bool, _, rfl, _, rfl, ?_⟩
  refine iteT ?_
  refine ⟨_, rfl, _, rfl, _, _, rfl, rfl, _, rfl, ?_⟩
  rw [decide_eq_true h1]
  refine iteT ?_
  refine ⟨_, rfl, _, _, rfl, rfl, ?_⟩
  show Q (.bl (decide (t ≤ hi))) H
  rw [decide_eq_true h2]
  exact q
theorem sc__law_order : FnScope ["_law_text_here", "_law_run", "_law_first", "_law_end", "_law_beat"] ["_law_text_here", "_law_run"] (defScope s__law_order) := ⟨rfl, rfl, rfl, by decide +kernel, rfl, by decide +kernel, by decide +kernel⟩
theorem ok__law_order (T : Txt K mg A₀) : FnOk P w K mg base CX0 1 A₀.a__law_order A₀.d__law_order ["_law_text_here", "_law_run"] (spOrder) := by
  refine T.F__law_order.ok (k := 0) sc__law_order (fun vs H Q E h => ?_) (fun cdv A outer s H vs Q E hr h => ?_)
  · obtain ⟨z, a, r, rfl, _⟩ := h
    rfl
  obtain ⟨z, a, r, rfl, hz, lz, ha, isr, q⟩ := h
  have hu : (_ : Nat) + 64 < cLine ∧ (_ : Nat) < cLine := ⟨hr.units, hr.units0⟩
  refine ⟨_, (@pss_cons _ _ _ _ _ (@ps_asg _ _ _ _ _ _ (@pv _ 1 _ _ (by rfl) (by first | exact Or.inl rfl | exact Or.inr ( Or.inl rfl ) | exact Or.inr ( Or.inr rfl )) (by decide) (by decide)) (@pg_tup _ _ _ _ _ _ rfl (@pgs_cons _ _ _ _ _ (@pg_name _ _ (2) _ sc__law_order.nd rfl (Or.inl rfl) (by first | exact Or.inl rfl | exact Or.inr rfl | assumption)) (@pgs_cons _ _ _ _ _ (@pg_name _ _ (3) _ sc__law_order.nd rfl (Or.inl rfl) (by first | exact Or.inl rfl | exact Or.inr rfl | assumption)) (@pgs_cons _ _ _ _ _ (@pg_name _ _ (4) _ sc__law_order.nd rfl (Or.inl rfl) (by first | exact Or.inl rfl | exact Or.inr rfl | assumption)) (@pgs_nil _) (by rfl)) (by rfl)) (by rfl)) (by rfl) (by rfl)) (by rfl) (by rfl) (by rfl)) (@pss_cons _ _ _ _ _ (@ps_if _ _ _ _ _ _ _ _ (@PW.pt _ _ _ (@pw_and _ _ _ _ _ _ _ (@pt_cmpR _ _ _ _ _ _ _ _ op_lt (@pv _ 3 _ _ (by rfl) (by first | exact Or.inl rfl | exact Or.inr ( Or.inl rfl ) | exact Or.inr ( Or.inr rfl )) (by decide) (by decide)) (@pe_callB _ _ _ _ _ _ _ _ _ call_len_str rfl T.z_len PySem.boot_len (@pa_cons _ _ _ _ _ (@pv _ 0 _ _ (by rfl) (by first | exact Or.inl rfl | exact Or.inr ( Or.inl rfl ) | exact Or.inr ( Or.inr rfl )) (by decide) (by decide)) (@pa_nil _) (by rfl)) (by decide) (by decide) (by rfl) (by rfl)) (nomark _)) (@pw_and1 _ _ _ _ (@pt_cmpR _ _ _ _ _ _ _ _ op_gt_str (@pe_ix _ _ _ _ _ _ _ ix_str (@pv _ 0 _ _ (by rfl) (by first | exact Or.inl rfl | exact Or.inr ( Or.inl rfl ) | exact Or.inr ( Or.inr rfl )) (by decide) (by decide)) (@pv _ 3 _ _ (by rfl) (by first | exact Or.inl rfl | exact Or.inr ( Or.inl rfl ) | exact Or.inr ( Or.inr rfl )) (by decide) (by decide)) (fun _ _ => rfl)) (@pe_ix _ _ _ _ _ _ _ ix_str (@pv _ 0 _ _ (by rfl) (by first | exact Or.inl rfl | exact Or.inr ( Or.inl rfl ) | exact Or.inr ( Or.inr rfl )) (by decide) (by decide)) (@pe_op _ _ _ _ _ _ _ _ op_sub (@pv _ 3 _ _ (by rfl) (by first | exact Or.inl rfl | exact Or.inr ( Or.inl rfl ) | exact Or.inr ( Or.inr rfl )) (by decide) (by decide)) (@pv _ 4 _ _ (by rfl) (by first | exact Or.inl rfl | exact Or.inr ( Or.inl rfl ) | exact Or.inr ( Or.inr rfl )) (by decide) (by decide))) (fun _ _ => rfl)) (nomark _))))) (@pss_one _ _ _ (@ps_ret _ _ _ _ (@pe_comp _ _ _ _ _ _ _ _ _ _ _ _ _ _ rfl (compScope_of (sc := defScope s__law_order) (N := ["_law_text_here",  "_law_run",  "_law_first",  "_law_end",  "_law_beat"]) (N' := ["_law_letter"]) (k := 1) (caps := []) rfl (by decide +kernel) (by decide +kernel) (by decide +kernel) rfl (by decide +kernel)) (@pi_str _ _ _ _ (@pv _ 0 _ _ (by rfl) (by first | exact Or.inl rfl | exact Or.inr ( Or.inl rfl ) | exact Or.inr ( Or.inr rfl )) (by decide) (by decide))) (@gk_name _ _ (by decide)) (fun cl C s₀ H₀ ex => ⟨(@pg_name _ _ (0) _ (show (["_law_letter"] : List Str).Nodup by decide +kernel) rfl (Or.inl rfl) (by first | exact Or.inl rfl | exact Or.inr rfl | assumption)), (@pif0 _), (@pe_un _ _ _ _ _ _ un_neg (@pe_findK _ (K) _ _ _ _ _ _ _ rfl (@pe_str _ _ _ _) (@pa_cons _ _ _ _ _ (@pv _ 0 _ _ (by rfl) (by first | exact Or.inl rfl | exact Or.inr ( Or.inl rfl ) | exact Or.inr ( Or.inr rfl )) (by decide) (by decide)) (@pa_nil _) (by rfl)) (by rfl) (by rfl) (by rfl) (by rfl) (by rfl)))⟩) (by intro _ ; rfl)))) (@pss_nil _)) (@pss_one _ _ _ (@ps_ret _ _ _ _ (@pe_comp _ _ _ _ _ _ _ _ _ _ _ _ _ _ rfl (compScope_of (sc := defScope s__law_order) (N := ["_law_text_here",  "_law_run",  "_law_first",  "_law_end",  "_law_beat"]) (N' := ["_law_letter"]) (k := 1) (caps := []) rfl (by decide +kernel) (by decide +kernel) (by decide +kernel) rfl (by decide +kernel)) (@pi_str _ _ _ _ (@pv _ 0 _ _ (by rfl) (by first | exact Or.inl rfl | exact Or.inr ( Or.inl rfl ) | exact Or.inr ( Or.inr rfl )) (by decide) (by decide))) (@gk_name _ _ (by decide)) (fun cl C s₀ H₀ ex => ⟨(@pg_name _ _ (0) _ (show (["_law_letter"] : List Str).Nodup by decide +kernel) rfl (Or.inl rfl) (by first | exact Or.inl rfl | exact Or.inr rfl | assumption)), (@pif0 _), (@pe_findK _ (K) _ _ _ _ _ _ _ rfl (@pe_str _ _ _ _) (@pa_cons _ _ _ _ _ (@pv _ 0 _ _ (by rfl) (by first | exact Or.inl rfl | exact Or.inr ( Or.inl rfl ) | exact Or.inr ( Or.inr rfl )) (by decide) (by decide)) (@pa_nil _) (by rfl)) (by rfl) (by rfl) (by rfl) (by rfl) (by rfl))⟩) (by intro _ ; rfl)))))), ?_⟩
  have tl := toL_len z
  have low := Lyn.Run.low isr
  have p1 := isr.p1
  have two := isr.two
  have en := isr.en
  refine ⟨_, rfl, a, _, rfl, SqT.of ha, rfl, _, _, rfl, _, _, rfl, _, _, rfl, rfl, ?_⟩
  have no : ¬ Contra (toL z) r.2.1 r.2.2 → ∀ t, H t = none → Q (.ref t) (upd H t (.lst ((rowOf false (toL z)).map V.int))) := fun hc t ht => q t false _ (same_new ht _) upd_same ⟨(fun x => nomatch x), fun x => absurd x hc⟩
  have yes : Contra (toL z) r.2.1 r.2.2 → ∀ t, H t = none → Q (.ref t) (upd H t (.lst ((rowOf true (toL z)).map V.int))) := fun hc t ht => q t true _ (same_new ht _) upd_same ⟨fun _ => hc, fun _ => rfl⟩
  refine ⟨_, rfl, _, rfl, z, rfl, small (by omega), _, _, rfl, rfl, _, rfl, ?_⟩
  refine ite2 (fun c1 => ?_) (fun c1 => ?_)
  · have c1' : ((r.2.1 : Nat) : Int) < ((z.length : Nat) : Int) := of_decide_eq_true c1
    obtain ⟨x1, h1, h1', _⟩ := at_some (l := toL z) (k := ((r.2.1 : Nat) : Int)) (by omega) (by omega)
    obtain ⟨x2, h2, h2', _⟩ := at_some (l := toL z) (k := ((r.2.1 : Nat) : Int) - ((r.2.2 : Nat) : Int)) (by omega) (by omega)
    rw [Int.toNat_natCast] at h1'
    rw [show (((r.2.1 : Nat) : Int) - ((r.2.2 : Nat) : Int)).toNat = r.2.1 - r.2.2 by omega] at h2'
    have co := contra_one (by omega) h1' h2'
    refine ⟨_, rfl, _, rfl, z, _, x1, rfl, rfl, small (by omega), h1, _, rfl, _, rfl, _, rfl, _, _, rfl, rfl, z, _, x2, rfl, rfl, small (by omega), h2, _, _, rfl, rfl, _, rfl, ?_⟩
    refine ite2 (fun c2 => ?_) (fun c2 => ?_)
    · have hc := co.mp (of_decide_eq_true c2)
      refine ⟨_, rfl, ?_⟩
      refine ⟨z, rfl, comp_str (z := z) (small (by omega)) (fun i ys H2 => H2 = H ∧ ys = (rowOf true ((toL z).take i)).map V.int)
        ⟨rfl, rfl⟩ (fun i ys H2 ⟨_, h2⟩ => by rw [h2, List.length_map, rowOf_len, List.length_take]; omega) ?_ ?_⟩
      · rintro i c ys H2 hc ⟨rfl, rfl⟩
        have b := lz c (List.mem_of_getElem? hc)
        have tk : (toL z).take (i + 1) = (toL z).take i ++ [c] := by rw [List.take_succ, hc]; rfl
        refine ⟨rfl, _, rfl, abc, _, rfl, rfl, _, rfl, rfl, ?_⟩
        rw [tk, rowOf_add, List.map_append, abc_find' b.1 b.2]
        rfl
      · rintro ys H2 ⟨rfl, rfl⟩ t ht
        rw [← tl, List.take_length]
        exact yes hc t ht
    · have hc : ¬ Contra (toL z) r.2.1 r.2.2 := fun hc => c2 (decide_eq_true (co.mpr hc))
      refine ⟨_, rfl, ?_⟩
      refine ⟨z, rfl, comp_str (z := z) (small (by omega)) (fun i ys H2 => H2 = H ∧ ys = (rowOf false ((toL z).take i)).map V.int)
        ⟨rfl, rfl⟩ (fun i ys H2 ⟨_, h2⟩ => by rw [h2, List.length_map, rowOf_len, List.length_take]; omega) ?_ ?_⟩
      · rintro i c ys H2 hc ⟨rfl, rfl⟩
        have b := lz c (List.mem_of_getElem? hc)
        have tk : (toL z).take (i + 1) = (toL z).take i ++ [c] := by rw [List.take_succ, hc]; rfl
        refine ⟨rfl, _, rfl, abc, _, rfl, rfl, rfl, ?_⟩
        rw [tk, rowOf_add, List.map_append, abc_find' b.1 b.2]
        rfl
      · rintro ys H2 ⟨rfl, rfl⟩ t ht
        rw [← tl, List.take_length]
        exact no hc t ht
  · have hc : ¬ Contra (toL z) r.2.1 r.2.2 := fun hc => c1 (decide_eq_true (show ((r.2.1 : Nat) : Int) < ((z.length : Nat) : Int) by have := hc.1; omega))
    refine ⟨_, rfl, ?_⟩
    refine ⟨z, rfl, comp_str (z := z) (small (by omega)) (fun i ys H2 => H2 = H ∧ ys = (rowOf false ((toL z).take i)).map V.int)
      ⟨rfl, rfl⟩ (fun i ys H2 ⟨_, h2⟩ => by rw [h2, List.length_map, rowOf_len, List.length_take]; omega) ?_ ?_⟩
    · rintro i c ys H2 hc ⟨rfl, rfl⟩
      have b := lz c (List.mem_of_getElem? hc)
      have tk : (toL z).take (i + 1) = (toL z).take i ++ [c] := by rw [List.take_succ, hc]; rfl
      refine ⟨rfl, _, rfl, abc, _, rfl, rfl, rfl, ?_⟩
      rw [tk, rowOf_add, List.map_append, abc_find' b.1 b.2]
      rfl
    · rintro ys H2 ⟨rfl, rfl⟩ t ht
      rw [← tl, List.take_length]
      exact no hc t ht
theorem sc__law_is_least : FnScope ["_law_row"] ["_law_row"] (defScope s__law_is_least) := ⟨rfl, rfl, rfl, by decide +kernel, rfl, by decide +kernel, by decide +kernel⟩
theorem ok__law_is_least (T : Txt K mg A₀) : FnOk P w K mg base CX0 1 A₀.a__law_is_least A₀.d__law_is_least ["_law_row"] (spIsLeast) := by
  refine T.F__law_is_least.ok (k := 0) sc__law_is_least (fun vs H Q E h => ?_) (fun cdv A outer s H vs Q E hr h => ?_)
  · obtain ⟨a, ns, rfl, _⟩ := h
    rfl
  obtain ⟨a, ns, rfl, ha, hl, q⟩ := h
  have hu : (_ : Nat) + 64 < cLine ∧ (_ : Nat) < cLine := ⟨hr.units, hr.units0⟩
  refine ⟨_, (@pss_one _ _ _ (@ps_ret _ _ _ _ (@pe_cmpR _ _ _ _ _ _ _ _ (op_eqE hu.2) (@pe_comp _ _ _ _ _ _ _ _ _ _ _ _ _ _ rfl (compScope_of (sc := defScope s__law_is_least) (N := ["_law_row"]) (N' := ["_law_at",  "_law_row"]) (k := 1) (caps := [0]) rfl (by decide +kernel) (by decide +kernel) (by decide +kernel) rfl (by decide +kernel)) (@pi_range2 _ _ _ _ _ _ _ rfl T.z_range (@pa_cons _ _ _ _ _ (@pe_int _ _ _ _) (@pa_cons _ _ _ _ _ (@pe_callB _ _ _ _ _ _ _ _ _ call_len_seq rfl T.z_len PySem.boot_len (@pa_cons _ _ _ _ _ (@pv _ 0 _ _ (by rfl) (by first | exact Or.inl rfl | exact Or.inr ( Or.inl rfl ) | exact Or.inr ( Or.inr rfl )) (by decide) (by decide)) (@pa_nil _) (by rfl)) (by decide) (by decide) (by rfl) (by rfl)) (@pa_nil _) (by rfl)) (by rfl)) (by rfl) (by rfl)) (@gk_name _ _ (by decide)) (fun cl C s₀ H₀ ex => ⟨(@pg_name _ _ (0) _ (show (["_law_at",  "_law_row"] : List Str).Nodup by decide +kernel) rfl (Or.inl rfl) (by first | exact Or.inl rfl | exact Or.inr rfl | assumption)), (@pif1 _ _ _ (@pt_cmpR _ _ _ _ _ _ _ _ (op_leL (K := K) rfl hu.2) (@pe_op _ _ _ _ _ _ _ _ op_cat (@pe_slice _ _ _ _ _ _ _ _ _ _ (sl_listK (K := K) rfl) (@pv _ 1 _ _ (by rfl) (by first | exact Or.inl rfl | exact Or.inr ( Or.inl rfl ) | exact Or.inr ( Or.inr rfl )) (by decide) (by decide)) (@po_some _ _ _ (@pv _ 0 _ _ (by rfl) (by first | exact Or.inl rfl | exact Or.inr ( Or.inl rfl ) | exact Or.inr ( Or.inr rfl )) (by decide) (by decide))) (@po_none _)) (@pe_slice _ _ _ _ _ _ _ _ _ _ (sl_listK (K := K) rfl) (@pv _ 1 _ _ (by rfl) (by first | exact Or.inl rfl | exact Or.inr ( Or.inl rfl ) | exact Or.inr ( Or.inr rfl )) (by decide) (by decide)) (@po_none _) (@po_some _ _ _ (@pv _ 0 _ _ (by rfl) (by first | exact Or.inl rfl | exact Or.inr ( Or.inl rfl ) | exact Or.inr ( Or.inr rfl )) (by decide) (by decide))))) (@pv _ 1 _ _ (by rfl) (by first | exact Or.inl rfl | exact Or.inr ( Or.inl rfl ) | exact Or.inr ( Or.inr rfl )) (by decide) (by decide)) (nomark _))), (@pv _ 0 _ _ (by rfl) (by first | exact Or.inl rfl | exact Or.inr ( Or.inl rfl ) | exact Or.inr ( Or.inr rfl )) (by decide) (by decide))⟩) (by intro _ ; rfl)) (@pe_lst _ _ _ _ (@pa_nil _)) (nomark _)))), ?_⟩
  have ll : (ns.map V.int).length = ns.length := List.length_map ..
  refine ⟨_, rfl, a, _, rfl, .inl (SqL.of ha), 1, _, rfl, ⟨by decide, by decide, by omega, by omega⟩, comp_range (lo := 1) (n := (((ns.map V.int).length : Int) - 1).toNat) (small (by omega)) (fun i ys H2 => Same H H2 ∧ ys.length ≤ i ∧ (ys = [] ↔ ∀ b, 1 ≤ b → b < 1 + i → HT.lexLt ns (rot ns b) = true))
    ⟨Same.refl _, Nat.le_refl _, (fun _ b b1 b2 => by omega), fun _ => rfl⟩ (fun i ys H2 ⟨_, h2, _⟩ => h2) ?_ ?_⟩
  · rintro i ys H2 hi ⟨s2, hy, he⟩
    have ha2 := s2 _ _ ha
    refine ⟨_, rfl, _, rfl, _, rfl, a, _, rfl, SqL.of ha2, fun k1 hk1 => ?_⟩
    have g1 := same_new hk1 (.lst (cutV (ns.map V.int) (some (1 + (i : Int))) none))
    refine ⟨_, rfl, _, rfl, _, rfl, a, _, rfl, SqL.of (g1 _ _ ha2), fun k2 hk2 => ?_⟩
    have g2 := same_new hk2 (.lst (cutV (ns.map V.int) none (some (1 + (i : Int)))))
    have c1 := cutV_length (ns.map V.int) (some (1 + (i : Int))) none
    have c2 := cutV_length (ns.map V.int) none (some (1 + (i : Int)))
    refine ⟨k1, k2, _, _, rfl, rfl, g2 _ _ upd_same, upd_same, small (by omega), fun k3 hk3 => ?_⟩
    rw [cut_rot]
    have g3 := same_new hk3 (.lst ((rot ns (1 + i)).map V.int))
    have ga := (g1.trans g2).trans g3
    refine ⟨_, rfl, k3, a, rot ns (1 + i), ns, rfl, rfl, SqL.of upd_same, SqL.of (ga _ _ ha2), rot_len _ _, _, rfl, ?_⟩
    cases e : HT.lexLt ns (rot ns (1 + i)) with
    | true =>
      refine iteF ?_
      refine ⟨s2.trans ga, Nat.le_succ_of_le hy, he.trans ⟨fun h b b1 b2 => ?_, fun h b b1 b2 => h b b1 (by omega)⟩⟩
      rcases Nat.lt_or_ge b (1 + i) with z | z
      · exact h b b1 z
      · have : b = 1 + i := by omega
        subst this
        exact e
    | false =>
      refine iteT ?_
      refine ⟨_, rfl, s2.trans ga, by rw [List.length_append]; exact Nat.succ_le_succ hy, ⟨fun h => ?_, fun h => ?_⟩⟩
      · exact absurd h (by simp)
      · have := h (1 + i) (by omega) (by omega)
        rw [e] at this
        cases this
  · rintro ys H2 ⟨s2, hy, he⟩ k1 hk1
    refine ⟨(by show 0 ≤ sizeLine; decide), fun k2 hk2 => ?_⟩
    have g1 := same_new hk1 (.lst ys)
    have g2 := same_new hk2 (.lst [])
    refine ⟨k1, k2, ys, rfl, rfl, SqL.of (g2 _ _ upd_same), SqL.of upd_same, ?_⟩
    refine q _ _ ((s2.trans g1).trans g2) ?_
    rw [List.isEmpty_iff, he]
    unfold LeastR
    constructor
    · intro h b b1 b2; exact h b b1 (by omega)
    · intro h b b1 b2; exact h b b1 (by omega)
theorem sc_law : FnScope ["_law_script", "_law_text_here", "_law_met", "_law_run", "_law_first", "_law_end", "_law_beat", "_law_row", "_law_due", "_law_found", "_law_place"] ["_law_script"] (defScope s_law) := ⟨rfl, rfl, rfl, by decide +kernel, rfl, by decide +kernel, by decide +kernel⟩
theorem ok_law (T : Txt K mg A₀) : FnOk P w K mg base CX0 5 A₀.a_law A₀.d_law ["_law_script"] (spLaw K) := by
  have G__law_rich : FnOk P w K mg base CX0 3 A₀.a__law_rich A₀.d__law_rich ["_law_number_here", "_law_most"] (spText) := ok__law_rich T
  have G_runs : FnOk P w K mg base CX0 4 A₀.a_runs A₀.d_runs ["text"] (spRuns) := ok_runs T
  have G__law_mixed : FnOk P w K mg base CX0 2 A₀.a__law_mixed A₀.d__law_mixed ["_law_script", "_law_k"] (spMixed K) := ok__law_mixed T
  have G__law_order : FnOk P w K mg base CX0 1 A₀.a__law_order A₀.d__law_order ["_law_text_here", "_law_run"] (spOrder) := ok__law_order T
  have G_own_places : FnOk P w K mg base CX0 2 A₀.a_own_places A₀.d_own_places ["text", "run"] (spOwn) := ok_own_places T
  have G__law_is_least : FnOk P w K mg base CX0 1 A₀.a__law_is_least A₀.d__law_is_least ["_law_row"] (spIsLeast) := ok__law_is_least T
  have G__law_number : FnOk P w K mg base CX0 1 A₀.a__law_number A₀.d__law_number ["_law_thing", "_law_low", "_law_high"] (spNum) := ok__law_number T
  refine T.F_law.ok (k := 4) sc_law (fun vs H Q E h => ?_) (fun cdv A outer s H vs Q E hr h => ?_)
  · obtain ⟨a, ns, rfl, _⟩ := h
    rfl
  obtain ⟨a, ns, rfl, hS, hlen, q⟩ := h
  have hu : (_ : Nat) + 64 < cLine ∧ (_ : Nat) < cLine := ⟨hr.units, hr.units0⟩
  refine ⟨_, (@pss_cons _ _ _ _ _ (@ps_set _ _ (1) _ _ _ _ sc_law.nd rfl (Or.inl rfl) (@pe_call _ _ _ _ _ _ _ _ _ _ _ _ _ _ _ _ G__law_rich (hr.mono (by decide)) rfl T.m__law_rich T.k__law_rich T.b__law_rich .nil pass0 (@pa_cons _ _ _ _ _ (@pe_call _ _ _ _ _ _ _ _ _ _ _ _ _ _ _ _ G__law_mixed (hr.mono (by decide)) rfl T.m__law_mixed T.k__law_mixed T.b__law_mixed .nil pass0 (@pa_cons _ _ _ _ _ (@pv _ 0 _ _ (by rfl) (by first | exact Or.inl rfl | exact Or.inr ( Or.inl rfl ) | exact Or.inr ( Or.inr rfl )) (by decide) (by decide)) (@pa_cons _ _ _ _ _ (@pe_int _ _ _ _) (@pa_nil _) (by rfl)) (by rfl)) (by decide) (by rfl) (by rfl)) (@pa_cons _ _ _ _ _ (@pe_int _ _ _ _) (@pa_nil _) (by rfl)) (by rfl)) (by decide) (by rfl) (by rfl)) (by rfl) (by first | exact Or.inl rfl | exact Or.inr rfl | assumption)) (@pss_cons _ _ _ _ _ (@ps_set _ _ (2) _ _ _ _ sc_law.nd rfl (Or.inl rfl) (@pe_dnewK _ _) (by rfl) (by first | exact Or.inl rfl | exact Or.inr rfl | assumption)) (@pss_cons _ _ _ _ _ (@ps_for _ _ _ _ _ _ _ _ PassesOwn.never rfl (@pi_tup _ _ _ _ (@pe_call _ _ _ _ _ _ _ _ _ _ _ _ _ _ _ _ G_runs (hr.mono (by decide)) rfl T.m_runs T.k_runs T.b_runs .nil pass0 (@pa_cons _ _ _ _ _ (@pv _ 1 _ _ (by rfl) (by first | exact Or.inl rfl | exact Or.inr ( Or.inl rfl ) | exact Or.inr ( Or.inr rfl )) (by decide) (by decide)) (@pa_nil _) (by rfl)) (by decide) (by rfl) (by rfl))) (@pg_name _ _ (3) _ sc_law.nd rfl (Or.inl rfl) (by first | exact Or.inl rfl | exact Or.inr rfl | assumption)) (@pss_cons _ _ _ _ _ (@ps_asg _ _ _ _ _ _ (@pv _ 3 _ _ (by rfl) (by first | exact Or.inl rfl | exact Or.inr ( Or.inl rfl ) | exact Or.inr ( Or.inr rfl )) (by decide) (by decide)) (@pg_tup _ _ _ _ _ _ rfl (@pgs_cons _ _ _ _ _ (@pg_name _ _ (4) _ sc_law.nd rfl (Or.inl rfl) (by first | exact Or.inl rfl | exact Or.inr rfl | assumption)) (@pgs_cons _ _ _ _ _ (@pg_name _ _ (5) _ sc_law.nd rfl (Or.inl rfl) (by first | exact Or.inl rfl | exact Or.inr rfl | assumption)) (@pgs_cons _ _ _ _ _ (@pg_name _ _ (6) _ sc_law.nd rfl (Or.inr rfl) (by first | exact Or.inl rfl | exact Or.inr rfl | assumption)) (@pgs_nil _) (by rfl)) (by rfl)) (by rfl)) (by rfl) (by rfl)) (by rfl) (by rfl) (by rfl)) (@pss_cons _ _ _ _ _ (@ps_set _ _ (7) _ _ _ _ sc_law.nd rfl (Or.inr rfl) (@pe_call _ _ _ _ _ _ _ _ _ _ _ _ _ _ _ _ G__law_order (hr.mono (by decide)) rfl T.m__law_order T.k__law_order T.b__law_order .nil pass0 (@pa_cons _ _ _ _ _ (@pv _ 1 _ _ (by rfl) (by first | exact Or.inl rfl | exact Or.inr ( Or.inl rfl ) | exact Or.inr ( Or.inr rfl )) (by decide) (by decide)) (@pa_cons _ _ _ _ _ (@pv _ 3 _ _ (by rfl) (by first | exact Or.inl rfl | exact Or.inr ( Or.inl rfl ) | exact Or.inr ( Or.inr rfl )) (by decide) (by decide)) (@pa_nil _) (by rfl)) (by rfl)) (by decide) (by rfl) (by rfl)) (by rfl) (by first | exact Or.inl rfl | exact Or.inr rfl | assumption)) (@pss_cons _ _ _ _ _ (@ps_setComp _ (8) _ _ _ _ _ _ _ _ _ _ _ _ _ _ _ _ sc_law.nd rfl (Or.inl rfl) (.inl rfl) rfl (compScope_of (sc := defScope s_law) (N := ["_law_script",  "_law_text_here",  "_law_met",  "_law_run",  "_law_first",  "_law_end",  "_law_beat",  "_law_row",  "_law_due",  "_law_found",  "_law_place"]) (N' := ["_law_place",  "_law_row",  "_law_beat"]) (k := 1) (caps := [7,  6]) rfl (by decide +kernel) (by decide +kernel) (by decide +kernel) rfl (by decide +kernel)) (@pi_range2 _ _ _ _ _ _ _ rfl T.z_range (@pa_cons _ _ _ _ _ (@pe_op _ _ _ _ _ _ _ _ op_add (@pv _ 4 _ _ (by rfl) (by first | exact Or.inl rfl | exact Or.inr ( Or.inl rfl ) | exact Or.inr ( Or.inr rfl )) (by decide) (by decide)) (@pe_int _ _ _ _)) (@pa_cons _ _ _ _ _ (@pe_op _ _ _ _ _ _ _ _ op_add (@pe_op _ _ _ _ _ _ _ _ op_sub (@pv _ 5 _ _ (by rfl) (by first | exact Or.inl rfl | exact Or.inr ( Or.inl rfl ) | exact Or.inr ( Or.inr rfl )) (by decide) (by decide)) (@pv _ 6 _ _ (by rfl) (by first | exact Or.inl rfl | exact Or.inr ( Or.inl rfl ) | exact Or.inr ( Or.inr rfl )) (by decide) (by decide))) (@pe_int _ _ _ _)) (@pa_nil _) (by rfl)) (by rfl)) (by rfl) (by rfl)) (@gk_name _ _ (by decide)) (fun cl C s₀ H₀ ex => ⟨(@pg_name _ _ (0) _ (show (["_law_place",  "_law_row",  "_law_beat"] : List Str).Nodup by decide +kernel) rfl (Or.inl rfl) (by first | exact Or.inl rfl | exact Or.inr rfl | assumption)), (@pif1 _ _ _ (@pt_val _ _ _ (@pe_call _ _ _ _ _ _ _ _ _ _ _ _ _ _ _ _ G__law_is_least (hr.mono (by decide)) rfl T.m__law_is_least T.k__law_is_least T.b__law_is_least .nil pass0 (@pa_cons _ _ _ _ _ (@pe_slice _ _ _ _ _ _ _ _ _ _ (sl_listK (K := K) rfl) (@pv _ 1 _ _ (by rfl) (by first | exact Or.inl rfl | exact Or.inr ( Or.inl rfl ) | exact Or.inr ( Or.inr rfl )) (by decide) (by decide)) (@po_some _ _ _ (@pv _ 0 _ _ (by rfl) (by first | exact Or.inl rfl | exact Or.inr ( Or.inl rfl ) | exact Or.inr ( Or.inr rfl )) (by decide) (by decide))) (@po_some _ _ _ (@pe_op _ _ _ _ _ _ _ _ op_add (@pv _ 0 _ _ (by rfl) (by first | exact Or.inl rfl | exact Or.inr ( Or.inl rfl ) | exact Or.inr ( Or.inr rfl )) (by decide) (by decide)) (@pv _ 2 _ _ (by rfl) (by first | exact Or.inl rfl | exact Or.inr ( Or.inl rfl ) | exact Or.inr ( Or.inr rfl )) (by decide) (by decide))))) (@pa_nil _) (by rfl)) (by decide) (by rfl) (by rfl)) (by intro _ ; rfl))), (@pv _ 0 _ _ (by rfl) (by first | exact Or.inl rfl | exact Or.inr ( Or.inl rfl ) | exact Or.inr ( Or.inr rfl )) (by decide) (by decide))⟩) (by rfl) (by intro _ ; rfl)) (@pss_cons _ _ _ _ _ (@ps_set _ _ (9) _ _ _ _ sc_law.nd rfl (Or.inl rfl) (@pe_call _ _ _ _ _ _ _ _ _ _ _ _ _ _ _ _ G_own_places (hr.mono (by decide)) rfl T.m_own_places T.k_own_places T.b_own_places .nil pass0 (@pa_cons _ _ _ _ _ (@pv _ 1 _ _ (by rfl) (by first | exact Or.inl rfl | exact Or.inr ( Or.inl rfl ) | exact Or.inr ( Or.inr rfl )) (by decide) (by decide)) (@pa_cons _ _ _ _ _ (@pv _ 3 _ _ (by rfl) (by first | exact Or.inl rfl | exact Or.inr ( Or.inl rfl ) | exact Or.inr ( Or.inr rfl )) (by decide) (by decide)) (@pa_nil _) (by rfl)) (by rfl)) (by decide) (by rfl) (by rfl)) (by rfl) (by first | exact Or.inl rfl | exact Or.inr rfl | assumption)) (@pss_cons _ _ _ _ _ (@ps_if _ _ _ _ _ _ _ _ (@PW.pt _ _ _ (@pw_or _ _ _ _ _ _ _ (@pt_cmpR _ _ _ _ _ _ _ _ (op_neD hu.1) (@pv _ 9 _ _ (by rfl) (by first | exact Or.inl rfl | exact Or.inr ( Or.inl rfl ) | exact Or.inr ( Or.inr rfl )) (by decide) (by decide)) (@pe_callTy _ _ _ _ _ _ _ _ _ call_tuple_of rfl T.z_tuple PyProof.Rows.boot_tuple (@pa_cons _ _ _ _ _ (@pv _ 8 _ _ (by rfl) (by first | exact Or.inl rfl | exact Or.inr ( Or.inl rfl ) | exact Or.inr ( Or.inr rfl )) (by decide) (by decide)) (@pa_nil _) (by rfl)) (by decide) (by decide) (by rfl) (by rfl)) (nomark _)) (@pw_or1 _ _ _ _ (@pt_cmpR _ _ _ _ _ _ _ _ (op_eqD hu.1) (@pv _ 9 _ _ (by rfl) (by first | exact Or.inl rfl | exact Or.inr ( Or.inl rfl ) | exact Or.inr ( Or.inr rfl )) (by decide) (by decide)) (@pe_tup _ _ _ _ _ (@pa_nil _)) (nomark _))))) (@pss_one _ _ _ (@ps_ret _ _ _ _ (@pe_bl _ _ _ _))) (@pss_nil _)) (@pss_one _ _ _ (@ps_for _ _ _ _ _ _ _ _ PassesOwn.never rfl (@pi_tup _ _ _ _ (@pv _ 9 _ _ (by rfl) (by first | exact Or.inl rfl | exact Or.inr ( Or.inl rfl ) | exact Or.inr ( Or.inr rfl )) (by decide) (by decide))) (@pg_name _ _ (10) _ sc_law.nd rfl (Or.inl rfl) (by first | exact Or.inl rfl | exact Or.inr rfl | assumption)) (@pss_cons _ _ _ _ _ (@ps_if _ _ _ _ _ _ _ _ (@PW.pt _ _ _ (@pw_or _ _ _ _ _ _ _ (@pt_cmp _ _ _ _ _ _ (@pc_din _ _ _ _ _ (hu1 hu.1) (@pv _ 10 _ _ (by rfl) (by first | exact Or.inl rfl | exact Or.inr ( Or.inl rfl ) | exact Or.inr ( Or.inr rfl )) (by decide) (by decide)) (@pv _ 2 _ _ (by rfl) (by first | exact Or.inl rfl | exact Or.inr ( Or.inl rfl ) | exact Or.inr ( Or.inr rfl )) (by decide) (by decide))) (by first | exact nobehind _ ( by decide ) ( by decide ) | rfl)) (@pw_or1 _ _ _ _ (@pt_not _ _ _ _ (@pt_val _ _ _ (@pe_call _ _ _ _ _ _ _ _ _ _ _ _ _ _ _ _ G__law_number (hr.mono (by decide)) rfl T.m__law_number T.k__law_number T.b__law_number .nil pass0 (@pa_cons _ _ _ _ _ (@pv _ 10 _ _ (by rfl) (by first | exact Or.inl rfl | exact Or.inr ( Or.inl rfl ) | exact Or.inr ( Or.inr rfl )) (by decide) (by decide)) (@pa_cons _ _ _ _ _ (@pe_int _ _ _ _) (@pa_cons _ _ _ _ _ (@pe_op _ _ _ _ _ _ _ _ op_sub (@pe_callB _ _ _ _ _ _ _ _ _ call_len_str rfl T.z_len PySem.boot_len (@pa_cons _ _ _ _ _ (@pv _ 1 _ _ (by rfl) (by first | exact Or.inl rfl | exact Or.inr ( Or.inl rfl ) | exact Or.inr ( Or.inr rfl )) (by decide) (by decide)) (@pa_nil _) (by rfl)) (by decide) (by decide) (by rfl) (by rfl)) (@pe_int _ _ _ _)) (@pa_nil _) (by rfl)) (by rfl)) (by rfl)) (by decide) (by rfl) (by rfl)) (by intro _ ; rfl)))))) (@pss_one _ _ _ (@ps_ret _ _ _ _ (@pe_bl _ _ _ _))) (@pss_nil _)) (@pss_one _ _ _ (@ps_dput _ _ _ _ _ _ _ _ _ (hu1 hu.1) (@pv _ 2 _ _ (by rfl) (by first | exact Or.inl rfl | exact Or.inr ( Or.inl rfl ) | exact Or.inr ( Or.inr rfl )) (by decide) (by decide)) (@pv _ 10 _ _ (by rfl) (by first | exact Or.inl rfl | exact Or.inr ( Or.inl rfl ) | exact Or.inr ( Or.inr rfl )) (by decide) (by decide)) (@pe_bl _ _ _ _) rfl))) (by intro _ ; rfl)))))))) (by intro _ ; rfl)) (@pss_one _ _ _ (@ps_ret _ _ _ _ (@pe_bl _ _ _ _)))))), ?_⟩
  refine ⟨_, rfl, a, ns, 0, rfl, hS, by decide, fun z0 hz0 => ?_⟩
  refine ⟨_, _, rfl, hz0, by decide, by decide, fun x H1 s1 l1 e1 => ?_⟩
  have x30 : x.length ≤ 30 := by omega
  have tl := toL_len x
  refine fun d hd => ?_
  refine ⟨_, rfl, x, rfl, by omega, fun t ys rs H2 s2 hy rt rl => ?_⟩
  have few := rl.few
  have ylen := rt.length
  have nd := rl.rise.nodup
  have isrs : ∀ r ∈ rs, Lyn.Run (Lyn.wl (toL x)) (toL x).length r.1 r.2.1 r.2.2 := fun r hr => (rl.mem r).mp hr
  -- each run
  refine ⟨t, rfl, ⟨ys, SqT.of hy⟩, for_tup (K := K) (a := t) (xs := ys) (fun i σ H3 => ∃ (v1 v2 v3 v4 v5 v6 v7 v8 : Option V) (kvs : List (Key × V)), σ = [some (.ref a), some (.str x), some (.ref d), v1, v2, v3, v4, v5, v6, v7, v8] ∧ H3 t = some (.tup ys) ∧ RepT H3 ys rs ∧ H3 d = some (.dK kvs) ∧ Met (toL x) rs i [] 0 kvs)
    ⟨none, none, none, none, none, none, none, none, [], rfl, hy, rt, s2 _ _ upd_same, Met.start _ _⟩ (fun i σ H3 _ ⟨_, _, _, _, _, _, _, _, _, _, e, _⟩ => SqT.of e) ?_ ?_⟩
  · rintro i y σ H3 hyi ⟨v1, v2, v3, v4, v5, v6, v7, v8, kvs, rfl, hy3, rt3, hd3, met⟩
    obtain ⟨r, hdr, ra, rfl, hra⟩ := rt3.get hyi
    have hir : i < rs.length := (List.getElem?_eq_some_iff.mp hdr).1
    have isr := isrs r (List.mem_of_getElem? hdr)
    have low := Lyn.Run.low isr
    have p1 := isr.p1
    have two := isr.two
    have en := isr.en
    refine ⟨_, rfl, ra, _, rfl, SqT.of hra, rfl, _, _, rfl, _, _, rfl, _, _, rfl, rfl, ?_⟩
    refine ⟨_, rfl, _, rfl, x, ra, r, rfl, by omega, l1, hra, isr, fun rw' c H4 s4 hrow hc => ?_⟩
    -- the places due
    refine ⟨_, rfl, _, _, rfl, rfl, _, rfl, _, rfl, _, _, rfl, rfl, _, _, rfl, rfl, _, _, rfl, ⟨by omega, by omega, by omega, by omega⟩, comp_range (lo := ((r.1 : Nat) : Int) + 1) (n := (((r.2.1 : Nat) : Int) - ((r.2.2 : Nat) : Int) + 1 - (((r.1 : Nat) : Int) + 1)).toNat) (small (by omega)) (fun j ws H5 => Same H4 H5 ∧ ∃ xs : List Nat, ws = natV xs ∧ xs.length ≤ j ∧ OwnTo (toL x) r (r.1 + 1 + j) xs)
      ⟨Same.refl _, [], rfl, Nat.le_refl _, OwnTo.start _ _⟩ (fun j ws H5 ⟨_, xs, h1, h2, _⟩ => by rw [h1, List.length_map]; exact h2) ?_ ?_⟩
    · rintro j ws H5 hj ⟨s5, xs, rfl, hlx, ot⟩
      have own := (own_iff (x := r.1 + 1 + j) isr hc).trans (Iff.intro (fun h => h.2.2) fun h => ⟨by omega, by omega, h⟩)
      rw [← row_iff l1 (by omega)] at own
      refine ⟨_, rfl, _, rfl, _, rfl, _, rfl, _, rfl, _, _, rfl, rfl, _, rfl, rw', _, rfl, SqL.of (s5 _ _ hrow), fun k1 hk1 => ?_⟩
      have ecut := cut_row (rowOf c (toL x)) (a := ((r.1 : Nat) : Int) + 1 + (j : Int)) (b := ((r.1 : Nat) : Int) + 1 + (j : Int) + ((r.2.2 : Nat) : Int)) (r.1 + 1 + j) r.2.2 (by omega) (by omega)
      rw [ecut]
      refine ⟨k1, _, rfl, upd_same, (by rw [List.length_take, List.length_drop, rowOf_len]; omega), fun b H6 s6 hb => ?_⟩
      rw [← own] at hb
      have s6' := (s5.trans (same_new hk1 _)).trans s6
      refine ⟨_, rfl, ?_⟩
      cases b with
      | true =>
        refine iteT ?_
        refine ⟨_, rfl, s6', xs ++ [r.1 + 1 + j], ?_, (by rw [List.length_append]; exact Nat.succ_le_succ hlx), ot.yes (hb.mp rfl)⟩
        unfold natV
        rw [List.map_append]
        show _ ++ [V.int (((r.1 : Nat) : Int) + 1 + (j : Int))] = _ ++ [V.int ((r.1 + 1 + j : Nat) : Int)]
        rw [show ((r.1 : Nat) : Int) + 1 + (j : Int) = ((r.1 + 1 + j : Nat) : Int) by omega]
      | false =>
        refine iteF ?_
        exact ⟨s6', xs, rfl, Nat.le_succ_of_le hlx, ot.no fun h => nomatch hb.mpr h⟩
    · rintro ws H5 ⟨s5, xs, rfl, hlx, ot⟩ k1 hk1
      have ol : OwnL (toL x) r xs := ot.done (by omega)
      have lx := ol.len isr
      have s5' := (s4.trans s5).trans (same_new hk1 (.lst (natV xs)))
      have hk5 := upd_same (H := H5) (a := k1) (o := .lst (natV xs))
      generalize upd H5 k1 (.lst (natV xs)) = H6 at s5' hk5
      refine ⟨_, rfl, _, rfl, x, ra, r, rfl, by omega, s5' _ _ hra, isr, fun ta xs2 H7 s7 h7 ol2 => ?_⟩
      have ex := ol2.uniq ol
      subst ex
      -- as due
      refine ⟨_, rfl, _, rfl, k1, natV xs2, rfl, .inl ⟨SqL.of (s7 _ _ hk5), fun u hu' => ?_⟩⟩
      have g8 := same_new hu' (.tup (natV xs2))
      refine ⟨_, _, .tup (SqT.of (g8 _ _ h7)) (Reps.nats xs2), .tup (SqT.of upd_same) (Reps.nats xs2), shaped_nats _, shaped_nats _, _, rfl, ?_⟩
      rw [eqv_nats]
      refine iteF ?_
      have s8 := (s5'.trans s7).trans g8
      have h8 := g8 _ _ h7
      generalize upd H7 u (.tup (natV xs2)) = H8 at s8 h8
      refine ⟨_, rfl, (by show 0 ≤ sizeLine; decide), fun e0 he0 => ?_⟩
      have g9 := same_new he0 (.tup [])
      have ne : xs2 ≠ [] := fun e => by
        obtain ⟨x0, hx0⟩ := isr.own_one
        have := (ol2.2 x0).mpr hx0
        rw [e] at this
        cases this
      refine ⟨_, _, .tup (SqT.of (g9 _ _ h8)) (Reps.nats xs2), .tup (SqT.of upd_same) .nil, shaped_nats _, shaped_nil, _, rfl, ?_⟩
      rw [eqv_nil ne]
      refine iteF ?_
      have s9 := s8.trans g9
      have h9 := g9 _ _ h8
      generalize upd H8 e0 (.tup []) = H9 at s9 h9
      -- met
      refine ⟨_, rfl, ta, rfl, ⟨_, SqT.of h9⟩, for_tup (K := K) (a := ta) (xs := natV xs2) (fun j σ H10 => ∃ (v : Option V) (kvs : List (Key × V)), σ = [some (.ref a), some (.str x), some (.ref d), some (.ref ra), some (.int (r.1 : Nat)), some (.int (r.2.1 : Nat)), some (.int (r.2.2 : Nat)), some (.ref rw'), some (.ref k1), some (.ref ta), v] ∧ H10 t = some (.tup ys) ∧ RepT H10 ys rs ∧ H10 ta = some (.tup (natV xs2)) ∧ H10 d = some (.dK kvs) ∧ Met (toL x) rs i xs2 j kvs)
        ⟨v8, kvs, rfl, s9 _ _ hy3, rt3.same s9, h9, s9 _ _ hd3, met.enter xs2⟩ (fun j σ H10 _ ⟨_, _, _, _, _, e, _⟩ => SqT.of e) ?_ ?_⟩
      · rintro j y σ H10 hyj ⟨v, kvs, rfl, hy10, rt10, h10, hd10, met⟩
        rw [List.getElem?_map] at hyj
        obtain ⟨x0, hx0, rfl⟩ := Option.map_eq_some_iff.mp hyj
        have new := met.new nd isrs hdr ol2 hx0
        have rng := Lyn.own_range isr ((ol2.2 x0).mp (List.mem_of_getElem? hx0))
        have hj : j < xs2.length := (List.getElem?_eq_some_iff.mp hx0).1
        have fewk := met.few
        have gk := DGet.k (k := (Sum.inl ((x0 : Nat) : Int) : Key)) hd10
        rw [new] at gk
        refine ⟨_, rfl, _, rfl, d, none, rfl, gk, _, rfl, ?_⟩
        refine iteF ?_
        refine ⟨_, rfl, _, rfl, x, rfl, small (by omega), _, _, rfl, rfl, _, _, _, rfl, by omega, by omega, _, rfl, ?_⟩
        refine iteF ?_
        refine ⟨_, rfl, _, rfl, d, _, rfl, DPut.k (k := (Sum.inl ((x0 : Nat) : Int) : Key)) hd10 (Nat.lt_of_le_of_lt (show kvs.length ≤ 100000 by omega) (by decide)), ?_⟩
        exact ⟨_, _, rfl, upd_dk hd10 hy10, rt10.updD hd10, upd_dk hd10 h10, upd_same, met.put _ hx0⟩
      · rintro σ H10 ⟨v, kvs, rfl, hy10, rt10, h10, hd10, met⟩
        rw [List.length_map] at met
        exact ⟨_, _, _, _, _, _, _, _, kvs, rfl, hy10, rt10, hd10, met.leave hdr ol2 (by omega)⟩
  · rintro σ H3 ⟨v1, v2, v3, v4, v5, v6, v7, v8, kvs, rfl, _⟩
    exact q H3
end
theorem all_mk {l : PySem.W.OpenLaw} {w : World} {K : PySem.W.Frag} {h : Heap} {mg : Str → Option Value} {fa f0 f1 f2 f3 f4 f5 f6 f7 f8 f9 f10 f11 f12 f13 f14 f15 f16 f17 f18 f19 : Addr} (X : K.In h) (G : h.Ns mainGlobals mg) (hfa : mg "law" = some (.ref fa))
    {od0 an0 od1 an1 od2 an2 od3 an3 od4 an4 od5 an5 od6 an6 od7 an7 od8 an8 od9 an9 od10 an10 od11 an11 od12 an12 od13 an13 od14 an14 od15 an15 od16 an16 od17 an17 od18 an18 od19 an19 : Option Addr} {sl0 sl1 sl2 sl3 sl4 sl5 sl6 sl7 sl8 sl9 sl10 sl11 sl12 sl13 sl14 sl15 sl16 sl17 sl18 sl19 : Array (Option Value)} {oc0 kV0 dc0 pm0 cd0 ct0 oc1 kV1 dc1 pm1 cd1 ct1 oc2 kV2 dc2 pm2 cd2 ct2 oc3 kV3 dc3 pm3 cd3 ct3 oc4 kV4 dc4 pm4 cd4 ct4 oc5 kV5 dc5 pm5 cd5 ct5 oc6 kV6 dc6 pm6 cd6 ct6 oc7 kV7 dc7 pm7 cd7 ct7 oc8 kV8 dc8 pm8 cd8 ct8 oc9 kV9 dc9 pm9 cd9 ct9 oc10 kV10 dc10 pm10 cd10 ct10 oc11 kV11 dc11 pm11 cd11 ct11 oc12 kV12 dc12 pm12 cd12 ct12 oc13 kV13 dc13 pm13 cd13 ct13 oc14 kV14 dc14 pm14 cd14 ct14 oc15 kV15 dc15 pm15 cd15 ct15 oc16 kV16 dc16 pm16 cd16 ct16 oc17 kV17 dc17 pm17 cd17 ct17 oc18 kV18 dc18 pm18 cd18 ct18 oc19 kV19 dc19 pm19 cd19 ct19 : Value}
    (a0 : PySem.W.nsIn K mainGlobals "has_beat" = some (some (.ref f0))) (l0 : K.lookup f0 = some ⟨oc0, od0, .func (PySem.W.fnOf "has_beat" "has_beat" (defArgs s_has_beat) (defBody s_has_beat) (defScope s_has_beat) .none kV0 dc0 pm0 an0 cd0 ct0), sl0⟩) (c0 : PySem.W.codeIn K cd0 "has_beat" = true) (k0 : PySem.W.keepIn K (.ref f0) = true)
    (a1 : PySem.W.nsIn K mainGlobals "least_beat" = some (some (.ref f1))) (l1 : K.lookup f1 = some ⟨oc1, od1, .func (PySem.W.fnOf "least_beat" "least_beat" (defArgs s_least_beat) (defBody s_least_beat) (defScope s_least_beat) .none kV1 dc1 pm1 an1 cd1 ct1), sl1⟩) (c1 : PySem.W.codeIn K cd1 "least_beat" = true) (k1 : PySem.W.keepIn K (.ref f1) = true)
    (a2 : PySem.W.nsIn K mainGlobals "is_double" = some (some (.ref f2))) (l2 : K.lookup f2 = some ⟨oc2, od2, .func (PySem.W.fnOf "is_double" "is_double" (defArgs s_is_double) (defBody s_is_double) (defScope s_is_double) .none kV2 dc2 pm2 an2 cd2 ct2), sl2⟩) (c2 : PySem.W.codeIn K cd2 "is_double" = true) (k2 : PySem.W.keepIn K (.ref f2) = true)
    (a3 : PySem.W.nsIn K mainGlobals "doubles" = some (some (.ref f3))) (l3 : K.lookup f3 = some ⟨oc3, od3, .func (PySem.W.fnOf "doubles" "doubles" (defArgs s_doubles) (defBody s_doubles) (defScope s_doubles) .none kV3 dc3 pm3 an3 cd3 ct3), sl3⟩) (c3 : PySem.W.codeIn K cd3 "doubles" = true) (k3 : PySem.W.keepIn K (.ref f3) = true)
    (a4 : PySem.W.nsIn K mainGlobals "reach_ahead" = some (some (.ref f4))) (l4 : K.lookup f4 = some ⟨oc4, od4, .func (PySem.W.fnOf "reach_ahead" "reach_ahead" (defArgs s_reach_ahead) (defBody s_reach_ahead) (defScope s_reach_ahead) .none kV4 dc4 pm4 an4 cd4 ct4), sl4⟩) (c4 : PySem.W.codeIn K cd4 "reach_ahead" = true) (k4 : PySem.W.keepIn K (.ref f4) = true)
    (a5 : PySem.W.nsIn K mainGlobals "reach_behind" = some (some (.ref f5))) (l5 : K.lookup f5 = some ⟨oc5, od5, .func (PySem.W.fnOf "reach_behind" "reach_behind" (defArgs s_reach_behind) (defBody s_reach_behind) (defScope s_reach_behind) .none kV5 dc5 pm5 an5 cd5 ct5), sl5⟩) (c5 : PySem.W.codeIn K cd5 "reach_behind" = true) (k5 : PySem.W.keepIn K (.ref f5) = true)
    (a6 : PySem.W.nsIn K mainGlobals "run_of" = some (some (.ref f6))) (l6 : K.lookup f6 = some ⟨oc6, od6, .func (PySem.W.fnOf "run_of" "run_of" (defArgs s_run_of) (defBody s_run_of) (defScope s_run_of) .none kV6 dc6 pm6 an6 cd6 ct6), sl6⟩) (c6 : PySem.W.codeIn K cd6 "run_of" = true) (k6 : PySem.W.keepIn K (.ref f6) = true)
    (a7 : PySem.W.nsIn K mainGlobals "runs" = some (some (.ref f7))) (l7 : K.lookup f7 = some ⟨oc7, od7, .func (PySem.W.fnOf "runs" "runs" (defArgs s_runs) (defBody s_runs) (defScope s_runs) .none kV7 dc7 pm7 an7 cd7 ct7), sl7⟩) (c7 : PySem.W.codeIn K cd7 "runs" = true) (k7 : PySem.W.keepIn K (.ref f7) = true)
    (a8 : PySem.W.nsIn K mainGlobals "takes_contrary_order" = some (some (.ref f8))) (l8 : K.lookup f8 = some ⟨oc8, od8, .func (PySem.W.fnOf "takes_contrary_order" "takes_contrary_order" (defArgs s_takes_contrary_order) (defBody s_takes_contrary_order) (defScope s_takes_contrary_order) .none kV8 dc8 pm8 an8 cd8 ct8), sl8⟩) (c8 : PySem.W.codeIn K cd8 "takes_contrary_order" = true) (k8 : PySem.W.keepIn K (.ref f8) = true)
    (a9 : PySem.W.nsIn K mainGlobals "leads_its_turns" = some (some (.ref f9))) (l9 : K.lookup f9 = some ⟨oc9, od9, .func (PySem.W.fnOf "leads_its_turns" "leads_its_turns" (defArgs s_leads_its_turns) (defBody s_leads_its_turns) (defScope s_leads_its_turns) .none kV9 dc9 pm9 an9 cd9 ct9), sl9⟩) (c9 : PySem.W.codeIn K cd9 "leads_its_turns" = true) (k9 : PySem.W.keepIn K (.ref f9) = true)
    (a10 : PySem.W.nsIn K mainGlobals "own_places" = some (some (.ref f10))) (l10 : K.lookup f10 = some ⟨oc10, od10, .func (PySem.W.fnOf "own_places" "own_places" (defArgs s_own_places) (defBody s_own_places) (defScope s_own_places) .none kV10 dc10 pm10 an10 cd10 ct10), sl10⟩) (c10 : PySem.W.codeIn K cd10 "own_places" = true) (k10 : PySem.W.keepIn K (.ref f10) = true)
    (a11 : PySem.W.nsIn K mainGlobals "_law_cell_at" = some (some (.ref f11))) (l11 : K.lookup f11 = some ⟨oc11, od11, .func (PySem.W.fnOf "_law_cell_at" "_law_cell_at" (defArgs s__law_cell_at) (defBody s__law_cell_at) (defScope s__law_cell_at) .none kV11 dc11 pm11 an11 cd11 ct11), sl11⟩) (c11 : PySem.W.codeIn K cd11 "_law_cell_at" = true) (k11 : PySem.W.keepIn K (.ref f11) = true)
    (a12 : PySem.W.nsIn K mainGlobals "_law_mixed" = some (some (.ref f12))) (l12 : K.lookup f12 = some ⟨oc12, od12, .func (PySem.W.fnOf "_law_mixed" "_law_mixed" (defArgs s__law_mixed) (defBody s__law_mixed) (defScope s__law_mixed) .none kV12 dc12 pm12 an12 cd12 ct12), sl12⟩) (c12 : PySem.W.codeIn K cd12 "_law_mixed" = true) (k12 : PySem.W.keepIn K (.ref f12) = true)
    (a13 : PySem.W.nsIn K mainGlobals "_law_drawn" = some (some (.ref f13))) (l13 : K.lookup f13 = some ⟨oc13, od13, .func (PySem.W.fnOf "_law_drawn" "_law_drawn" (defArgs s__law_drawn) (defBody s__law_drawn) (defScope s__law_drawn) .none kV13 dc13 pm13 an13 cd13 ct13), sl13⟩) (c13 : PySem.W.codeIn K cd13 "_law_drawn" = true) (k13 : PySem.W.keepIn K (.ref f13) = true)
    (a14 : PySem.W.nsIn K mainGlobals "_law_text" = some (some (.ref f14))) (l14 : K.lookup f14 = some ⟨oc14, od14, .func (PySem.W.fnOf "_law_text" "_law_text" (defArgs s__law_text) (defBody s__law_text) (defScope s__law_text) .none kV14 dc14 pm14 an14 cd14 ct14), sl14⟩) (c14 : PySem.W.codeIn K cd14 "_law_text" = true) (k14 : PySem.W.keepIn K (.ref f14) = true)
    (a15 : PySem.W.nsIn K mainGlobals "_law_rich" = some (some (.ref f15))) (l15 : K.lookup f15 = some ⟨oc15, od15, .func (PySem.W.fnOf "_law_rich" "_law_rich" (defArgs s__law_rich) (defBody s__law_rich) (defScope s__law_rich) .none kV15 dc15 pm15 an15 cd15 ct15), sl15⟩) (c15 : PySem.W.codeIn K cd15 "_law_rich" = true) (k15 : PySem.W.keepIn K (.ref f15) = true)
    (a16 : PySem.W.nsIn K mainGlobals "_law_number" = some (some (.ref f16))) (l16 : K.lookup f16 = some ⟨oc16, od16, .func (PySem.W.fnOf "_law_number" "_law_number" (defArgs s__law_number) (defBody s__law_number) (defScope s__law_number) .none kV16 dc16 pm16 an16 cd16 ct16), sl16⟩) (c16 : PySem.W.codeIn K cd16 "_law_number" = true) (k16 : PySem.W.keepIn K (.ref f16) = true)
    (a17 : PySem.W.nsIn K mainGlobals "_law_order" = some (some (.ref f17))) (l17 : K.lookup f17 = some ⟨oc17, od17, .func (PySem.W.fnOf "_law_order" "_law_order" (defArgs s__law_order) (defBody s__law_order) (defScope s__law_order) .none kV17 dc17 pm17 an17 cd17 ct17), sl17⟩) (c17 : PySem.W.codeIn K cd17 "_law_order" = true) (k17 : PySem.W.keepIn K (.ref f17) = true)
    (a18 : PySem.W.nsIn K mainGlobals "_law_is_least" = some (some (.ref f18))) (l18 : K.lookup f18 = some ⟨oc18, od18, .func (PySem.W.fnOf "_law_is_least" "_law_is_least" (defArgs s__law_is_least) (defBody s__law_is_least) (defScope s__law_is_least) .none kV18 dc18 pm18 an18 cd18 ct18), sl18⟩) (c18 : PySem.W.codeIn K cd18 "_law_is_least" = true) (k18 : PySem.W.keepIn K (.ref f18) = true)
    (a19 : PySem.W.nsIn K mainGlobals "law" = some (some (.ref f19))) (l19 : K.lookup f19 = some ⟨oc19, od19, .func (PySem.W.fnOf "law" "law" (defArgs s_law) (defBody s_law) (defScope s_law) .none kV19 dc19 pm19 an19 cd19 ct19), sl19⟩) (c19 : PySem.W.codeIn K cd19 "law" = true) (k19 : PySem.W.keepIn K (.ref f19) = true)
    (z0 : PySem.W.nsIn K mainGlobals "all" = some none)
    (z1 : PySem.W.nsIn K mainGlobals "bool" = some none)
    (z2 : PySem.W.nsIn K mainGlobals "int" = some none)
    (z3 : PySem.W.nsIn K mainGlobals "isinstance" = some none)
    (z4 : PySem.W.nsIn K mainGlobals "len" = some none)
    (z5 : PySem.W.nsIn K mainGlobals "range" = some none)
    (z6 : PySem.W.nsIn K mainGlobals "set" = some none)
    (z7 : PySem.W.nsIn K mainGlobals "sorted" = some none)
    (z8 : PySem.W.nsIn K mainGlobals "tuple" = some none) :
    ∃ fd : FuncData, (∀ (s : Shared) (v : Value), BindsTo s fd ⟨[v], []⟩ [("_law_script", v)]) ∧ ∀ base : Heap, K.In base → base.Ns mainGlobals mg → FnOk l.prog w K mg base CX0 5 fa fd ["_law_script"] (spLaw K) := by
  have e := hfa.symm.trans (PySem.W.mg_of X G a19)
  cases e
  have F0 := fun_mk (st := s_has_beat) l0 c0 k0
  have b0 := F0.binds (ps := ["text", "beat"]) fun _ _ _ _ _ _ us hl => match us, hl with | [_, _], _ => rfl
  have F1 := fun_mk (st := s_least_beat) l1 c1 k1
  have b1 := F1.binds (ps := ["text"]) fun _ _ _ _ _ _ us hl => match us, hl with | [_], _ => rfl
  have F2 := fun_mk (st := s_is_double) l2 c2 k2
  have b2 := F2.binds (ps := ["text", "place", "half"]) fun _ _ _ _ _ _ us hl => match us, hl with | [_, _, _], _ => rfl
  have F3 := fun_mk (st := s_doubles) l3 c3 k3
  have b3 := F3.binds (ps := ["text"]) fun _ _ _ _ _ _ us hl => match us, hl with | [_], _ => rfl
  have F4 := fun_mk (st := s_reach_ahead) l4 c4 k4
  have b4 := F4.binds (ps := ["text", "first", "beat"]) fun _ _ _ _ _ _ us hl => match us, hl with | [_, _, _], _ => rfl
  have F5 := fun_mk (st := s_reach_behind) l5 c5 k5
  have b5 := F5.binds (ps := ["text", "end", "beat"]) fun _ _ _ _ _ _ us hl => match us, hl with | [_, _, _], _ => rfl
  have F6 := fun_mk (st := s_run_of) l6 c6 k6
  have b6 := F6.binds (ps := ["text", "place", "half"]) fun _ _ _ _ _ _ us hl => match us, hl with | [_, _, _], _ => rfl
  have F7 := fun_mk (st := s_runs) l7 c7 k7
  have b7 := F7.binds (ps := ["text"]) fun _ _ _ _ _ _ us hl => match us, hl with | [_], _ => rfl
  have F8 := fun_mk (st := s_takes_contrary_order) l8 c8 k8
  have b8 := F8.binds (ps := ["text", "end", "beat"]) fun _ _ _ _ _ _ us hl => match us, hl with | [_, _, _], _ => rfl
  have F9 := fun_mk (st := s_leads_its_turns) l9 c9 k9
  have b9 := F9.binds (ps := ["letters", "contrary"]) fun _ _ _ _ _ _ us hl => match us, hl with | [_, _], _ => rfl
  have F10 := fun_mk (st := s_own_places) l10 c10 k10
  have b10 := F10.binds (ps := ["text", "run"]) fun _ _ _ _ _ _ us hl => match us, hl with | [_, _], _ => rfl
  have F11 := fun_mk (st := s__law_cell_at) l11 c11 k11
  have b11 := F11.binds (ps := ["_law_script", "_law_k"]) fun _ _ _ _ _ _ us hl => match us, hl with | [_, _], _ => rfl
  have F12 := fun_mk (st := s__law_mixed) l12 c12 k12
  have b12 := F12.binds (ps := ["_law_script", "_law_k"]) fun _ _ _ _ _ _ us hl => match us, hl with | [_, _], _ => rfl
  have F13 := fun_mk (st := s__law_drawn) l13 c13 k13
  have b13 := F13.binds (ps := ["_law_number_here", "_law_k"]) fun _ _ _ _ _ _ us hl => match us, hl with | [_, _], _ => rfl
  have F14 := fun_mk (st := s__law_text) l14 c14 k14
  have b14 := F14.binds (ps := ["_law_number_here", "_law_most"]) fun _ _ _ _ _ _ us hl => match us, hl with | [_, _], _ => rfl
  have F15 := fun_mk (st := s__law_rich) l15 c15 k15
  have b15 := F15.binds (ps := ["_law_number_here", "_law_most"]) fun _ _ _ _ _ _ us hl => match us, hl with | [_, _], _ => rfl
  have F16 := fun_mk (st := s__law_number) l16 c16 k16
  have b16 := F16.binds (ps := ["_law_thing", "_law_low", "_law_high"]) fun _ _ _ _ _ _ us hl => match us, hl with | [_, _, _], _ => rfl
  have F17 := fun_mk (st := s__law_order) l17 c17 k17
  have b17 := F17.binds (ps := ["_law_text_here", "_law_run"]) fun _ _ _ _ _ _ us hl => match us, hl with | [_, _], _ => rfl
  have F18 := fun_mk (st := s__law_is_least) l18 c18 k18
  have b18 := F18.binds (ps := ["_law_row"]) fun _ _ _ _ _ _ us hl => match us, hl with | [_], _ => rfl
  have F19 := fun_mk (st := s_law) l19 c19 k19
  have b19 := F19.binds (ps := ["_law_script"]) fun _ _ _ _ _ _ us hl => match us, hl with | [_], _ => rfl
  have T : Txt K mg ⟨f0, _, f1, _, f2, _, f3, _, f4, _, f5, _, f6, _, f7, _, f8, _, f9, _, f10, _, f11, _, f12, _, f13, _, f14, _, f15, _, f16, _, f17, _, f18, _, fa, _⟩ := ⟨F0, PySem.W.mg_of X G a0, b0, F1, PySem.W.mg_of X G a1, b1, F2, PySem.W.mg_of X G a2, b2, F3, PySem.W.mg_of X G a3, b3, F4, PySem.W.mg_of X G a4, b4, F5, PySem.W.mg_of X G a5, b5, F6, PySem.W.mg_of X G a6, b6, F7, PySem.W.mg_of X G a7, b7, F8, PySem.W.mg_of X G a8, b8, F9, PySem.W.mg_of X G a9, b9, F10, PySem.W.mg_of X G a10, b10, F11, PySem.W.mg_of X G a11, b11, F12, PySem.W.mg_of X G a12, b12, F13, PySem.W.mg_of X G a13, b13, F14, PySem.W.mg_of X G a14, b14, F15, PySem.W.mg_of X G a15, b15, F16, PySem.W.mg_of X G a16, b16, F17, PySem.W.mg_of X G a17, b17, F18, PySem.W.mg_of X G a18, b18, F19, PySem.W.mg_of X G a19, b19, PySem.W.mg_none_of X G z0, PySem.W.mg_none_of X G z1, PySem.W.mg_none_of X G z2, PySem.W.mg_none_of X G z3, PySem.W.mg_none_of X G z4, PySem.W.mg_none_of X G z5, PySem.W.mg_none_of X G z6, PySem.W.mg_none_of X G z7, PySem.W.mg_none_of X G z8⟩
  exact ⟨_, fun s v => .of_eq rfl, fun base _ _ => ok_law T⟩
theorem walk {l : PySem.W.OpenLaw} {q : Program} {loose : List Str} {XP : (Str → Option Value) → Heap → Prop} {YP : World → Heap → Prop} {d : DefRec} {K : Params → PySem.W.Frag} (hn : l.most = some 63) (hdf : d.params.defaults = [])
    (hY : ∀ (w : World) (h : Heap), YP w h → (K w.params).In h)
    (F : ∀ (w : World) (mg : Str → Option Value) (fa : Addr) (h : Heap), (K w.params).In h → h.Ns mainGlobals mg → mg d.name = some (.ref fa) →
      ∃ fd : FuncData, (∀ (s : Shared) (u : Value), BindsTo s fd ⟨[u], []⟩ [("_law_script", u)]) ∧ ∀ base : Heap, (K w.params).In base → base.Ns mainGlobals mg → FnOk l.prog w (K w.params) mg base CX0 5 fa fd ["_law_script"] (spLaw (K w.params))) :
    PySem.W.WalkO q loose XP YP l.row.toRowW d [] (fun f vs => PySem.call f vs) :=
  L2.walk_of (n := 63) (k := 5) (x := "_law_script") (CX := fun _ => CX0) (sp := fun w => spLaw (K w.params)) hn (by decide) hdf ⟨rfl, by decide, by decide⟩ hY F (fun _ _ a ns hl _ hS => ⟨a, ns, rfl, hS, hl, fun _ => rfl⟩) fun _ _ _ _ _ z => z
end K23
open PySem PySem.W PyProof.Rows
set_option maxRecDepth 100000 in
set_option maxHeartbeats 0 in
theorem PySem.Challenge.cw_beatruns_k23_whole_own_places_holds : PySem.Challenge.rw_beatruns_k23_whole_own_places.Holds := by
  w_on; o_law; k_head; (case hw => w_witness2)
  k_fill
  refine K23.walk (l := PySem.Challenge.rw_beatruns_k23_whole_own_places) rfl rfl (fun w h Y => PySem.W.kIn_of Y) ?F
  case F =>
    intro w mg fa h KX G hmg
    refine' K23.all_mk KX G hmg ?a0 ?l0 ?c0 ?k0 ?a1 ?l1 ?c1 ?k1 ?a2 ?l2 ?c2 ?k2 ?a3 ?l3 ?c3 ?k3 ?a4 ?l4 ?c4 ?k4 ?a5 ?l5 ?c5 ?k5 ?a6 ?l6 ?c6 ?k6 ?a7 ?l7 ?c7 ?k7 ?a8 ?l8 ?c8 ?k8 ?a9 ?l9 ?c9 ?k9 ?a10 ?l10 ?c10 ?k10 ?a11 ?l11 ?c11 ?k11 ?a12 ?l12 ?c12 ?k12 ?a13 ?l13 ?c13 ?k13 ?a14 ?l14 ?c14 ?k14 ?a15 ?l15 ?c15 ?k15 ?a16 ?l16 ?c16 ?k16 ?a17 ?l17 ?c17 ?k17 ?a18 ?l18 ?c18 ?k18 ?a19 ?l19 ?c19 ?k19 ?z0 ?z1 ?z2 ?z3 ?z4 ?z5 ?z6 ?z7 ?z8
    (case a0 => k_is)
    (case l0 => k_is)
    (case c0 => k_is)
    (case k0 => k_is)
    (case a1 => k_is)
    (case l1 => k_is)
    (case c1 => k_is)
    (case k1 => k_is)
    (case a2 => k_is)
    (case l2 => k_is)
    (case c2 => k_is)
    (case k2 => k_is)
    (case a3 => k_is)
    (case l3 => k_is)
    (case c3 => k_is)
    (case k3 => k_is)
    (case a4 => k_is)
    (case l4 => k_is)
    (case c4 => k_is)
    (case k4 => k_is)
    (case a5 => k_is)
    (case l5 => k_is)
    (case c5 => k_is)
    (case k5 => k_is)
    (case a6 => k_is)
    (case l6 => k_is)
    (case c6 => k_is)
    (case k6 => k_is)
    (case a7 => k_is)
    (case l7 => k_is)
    (case c7 => k_is)
    (case k7 => k_is)
    (case a8 => k_is)
    (case l8 => k_is)
    (case c8 => k_is)
    (case k8 => k_is)
    (case a9 => k_is)
    (case l9 => k_is)
    (case c9 => k_is)
    (case k9 => k_is)
    (case a10 => k_is)
    (case l10 => k_is)
    (case c10 => k_is)
    (case k10 => k_is)
    (case a11 => k_is)
    (case l11 => k_is)
    (case c11 => k_is)
    (case k11 => k_is)
    (case a12 => k_is)
    (case l12 => k_is)
    (case c12 => k_is)
    (case k12 => k_is)
    (case a13 => k_is)
    (case l13 => k_is)
    (case c13 => k_is)
    (case k13 => k_is)
    (case a14 => k_is)
    (case l14 => k_is)
    (case c14 => k_is)
    (case k14 => k_is)
    (case a15 => k_is)
    (case l15 => k_is)
    (case c15 => k_is)
    (case k15 => k_is)
    (case a16 => k_is)
    (case l16 => k_is)
    (case c16 => k_is)
    (case k16 => k_is)
    (case a17 => k_is)
    (case l17 => k_is)
    (case c17 => k_is)
    (case k17 => k_is)
    (case a18 => k_is)
    (case l18 => k_is)
    (case c18 => k_is)
    (case k18 => k_is)
    (case a19 => k_is)
    (case l19 => k_is)
    (case c19 => k_is)
    (case k19 => k_is)
    (case z0 => k_is)
    (case z1 => k_is)
    (case z2 => k_is)
    (case z3 => k_is)
    (case z4 => k_is)
    (case z5 => k_is)
    (case z6 => k_is)
    (case z7 => k_is)
    (case z8 => k_is)
#print axioms PySem.Challenge.cw_beatruns_k23_whole_own_places_holds
