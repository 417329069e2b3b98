import PyProof.Rows.All
import Wide.All
import OpenK.AllK
import Wide.FinOn
import Lean
import PyProof.EqAt
import PyProof.EqKinds
import PyProof.TupleCall
import PySem.Challenge.RW_formkin_k04_folded_packed_and_texts
set_option Elab.async false
set_option linter.all false
set_option maxRecDepth 100000
set_option genSizeOf false
/-! THE HAND LAYER, for ints, bools, texts, own classes, LISTS and tuples (index, slices, in, append, pop ..), calls, loops. Paste it whole ahead of your own text; what your proof does not reach may be deleted. -/
namespace L2
open PySem PySem.Spec PyProof.Rows

/-- a key: an int or a str -/
noncomputable abbrev Key := Sum Int Str
noncomputable def keyIs : Key → Value → Bool
  | .inl k, v => Value.isInt k v
  | .inr x, v => Value.isStrOf x v
noncomputable def keyH (w : World) : Key → Int
  | .inl k => hashInt k
  | .inr x => hashStr w x
theorem keyIs_shape : ∀ {k : Key} {v : Value}, keyIs k v = true → (∃ i t, k = Sum.inl i ∧ v = Value.int i t) ∨ (∃ x t, k = Sum.inr x ∧ v = Value.str x t)
  | .inl i, v, h => by
    obtain ⟨t, e⟩ := Value.isInt_shape (k := i) (v := v) h
    exact .inl ⟨i, t, rfl, e⟩
  | .inr x, v, h => by
    obtain ⟨t, e⟩ := Value.isStrOf_shape (x := x) (v := v) h
    exact .inr ⟨x, t, rfl, e⟩
theorem key_ll (a b : Int) : decide ((Sum.inl a : Key) = Sum.inl b) = (a == b) := by
  by_cases e : a = b
  · subst e; simp
  · have h : ¬ (Sum.inl a : Key) = Sum.inl b := fun q => e (Sum.inl.inj q)
    rw [decide_eq_false h]
    exact (beq_eq_false_iff_ne.mpr e).symm
theorem key_rr (a b : Str) : decide ((Sum.inr a : Key) = Sum.inr b) = decide (a = b) := by
  by_cases e : a = b
  · subst e; simp
  · have h : ¬ (Sum.inr a : Key) = Sum.inr b := fun q => e (Sum.inr.inj q)
    rw [decide_eq_false h, decide_eq_false e]
theorem key_lr (a : Int) (b : Str) : decide ((Sum.inl a : Key) = Sum.inr b) = false := decide_eq_false (fun q => nomatch q)
theorem key_rl (a : Str) (b : Int) : decide ((Sum.inr a : Key) = Sum.inl b) = false := decide_eq_false (fun q => nomatch q)

noncomputable def mixKind (prog : Program) (w : World) : PySem.KeyKind prog w Key where
  is := keyIs
  hash := keyH w
  inj := fun v a b ha hb => by
    rcases keyIs_shape ha with ⟨i, t, rfl, rfl⟩ | ⟨x, t, rfl, rfl⟩
    · rcases keyIs_shape hb with ⟨j, u, rfl, e⟩ | ⟨y, u, rfl, e⟩
      · injection e with e1 _; rw [e1]
      · exact nomatch e
    · rcases keyIs_shape hb with ⟨j, u, rfl, e⟩ | ⟨y, u, rfl, e⟩
      · exact nomatch e
      · injection e with e1 _; rw [e1]
  byValue := fun k v h => by
    rcases keyIs_shape h with ⟨i, t, rfl, rfl⟩ | ⟨x, t, rfl, rfl⟩ <;> rfl
  pyHash := fun hv h => by
    rcases keyIs_shape hv with ⟨i, t, rfl, rfl⟩ | ⟨x, t, rfl, rfl⟩
    · exact wpAny_pyHash_int h
    · exact wpAny_pyHash_str h
  eqBool := fun hu hv h => by
    rcases keyIs_shape hu with ⟨i, t, rfl, rfl⟩ | ⟨x, t, rfl, rfl⟩
    · rcases keyIs_shape hv with ⟨j, u, rfl, rfl⟩ | ⟨y, u, rfl, rfl⟩
      · rw [key_ll] at h; exact wpAny_eqBool_int h
      · rw [key_lr] at h; exact SeqAt.EqAt.int_str i t y u _ _ _ _ h
    · rcases keyIs_shape hv with ⟨j, u, rfl, rfl⟩ | ⟨y, u, rfl, rfl⟩
      · rw [key_rl] at h; exact SeqAt.EqAt.str_int x t j u _ _ _ _ h
      · rw [key_rr] at h; exact wpAny_eqBool_str h
  «strs» := fun k x t v h => by
    rcases keyIs_shape h with ⟨i, u, rfl, e⟩ | ⟨y, u, rfl, e⟩
    · exact nomatch e
    · injection e with e1 _
      subst e1
      cases v <;> rfl

end L2

namespace L2
open PySem PySem.Spec PyProof.Rows

/-- a value, without the heap -/
inductive V where
  | non | bl (b : Bool) | int (i : Int) | str (x : Str) | byt (b : Array UInt8) | flt (b : UInt64) | ref (a : Addr) | ty (n : String)
  deriving DecidableEq

noncomputable def RelV : V → Value → Prop
  | .non, u => u = Value.none
  | .bl b, u => u = Value.bool b
  | .int i, u => ∃ t, u = Value.int i t
  | .str x, u => ∃ t, u = Value.str x t
  | .byt b, u => ∃ t, u = Value.bytes b t
  | .flt b, u => ∃ t, u = Value.float b t
  | .ref a, u => u = Value.ref a
  | .ty n, u => u = Value.type n

noncomputable abbrev Vals : List V → List Value → Prop := Paired RelV
theorem Vals.length {xs : List V} {us : List Value} (r : Vals xs us) : xs.length = us.length := Paired.length r
theorem Vals.get : ∀ {xs : List V} {us : List Value} {i : Nat} {x : V}, Vals xs us → xs[i]? = some x → ∃ u, us[i]? = some u ∧ RelV x u
  | _, _, _, _, .nil, e => by simp at e
  | _, _, 0, _, .cons r _, e => by simp at e; subst e; exact ⟨_, rfl, r⟩
  | _, _, i + 1, x, .cons _ t, e => by
    obtain ⟨u, h1, h2⟩ := Vals.get (i := i) (x := x) t (by simpa using e)
    exact ⟨u, by simpa using h1, h2⟩
theorem Vals.set {x : V} {u : Value} (r : RelV x u) : ∀ {xs : List V} {us : List Value} (i : Nat), Vals xs us → Vals (xs.set i x) (us.set i u)
  | _, _, _, .nil => .nil
  | _, _, 0, .cons _ t => .cons r t
  | _, _, i + 1, .cons q t => .cons q (Vals.set r i t)
theorem Vals.append : ∀ {xs ys : List V} {us ws : List Value}, Vals xs us → Vals ys ws → Vals (xs ++ ys) (us ++ ws)
 := fun h s => by
  induction h with
  | nil => exact s
  | cons r t ih => exact .cons r ih
noncomputable def RelO : Option V → Option Value → Prop
  | some v, some u => RelV v u
  | none, none => True
  | _, _ => False
noncomputable def KV {κ : Type} : List (κ × V) → List (κ × Value) → Prop := Paired fun (p : κ × V) (q : κ × Value) => p.1 = q.1 ∧ RelV p.2 q.2

/-- a key of a dict (00_mix): an int or a text -/
noncomputable def kV : Key → V
  | .inl i => .int i
  | .inr x => .str x

/-- what stands at a tracked address -/
inductive HO where
  /-- a list -/
  | lst (xs : List V)
  /-- a tuple (never changes) -/
  | tup (xs : List V)
  /-- a dict whose keys are ints and texts; one whose keys are tuples of ints and texts (the empty one is both) -/
  | dK (kvs : List (Key × V)) | dT (kvs : List (List Key × V))
  /-- a set of ints: its members, its size -/
  | set (S : Int → Bool) (n : Nat)
  /-- an instance of the class at C, its dict at dx, its attributes -/
  | ins (C dx : Addr) (fs : List (Str × V))
  /-- the dict of the instance at x -/
  | own (x : Addr)
  /-- the dict of an exception -/
  | xd (fs : List (Str × V))
  /-- a bound method, f of x -/
  | met (f x : Addr)
  /-- a range object lo, lo + 1, .. below hi -/
  | rng (lo hi : Int)
  /-- a thing that is known to the object (the script; a dict while a loop walks it): read, never written while it is so -/
  | frz (o : Obj) (u : HO)
  /-- a code object's table -/
  | tbl (ps : Array Value)
  /-- any other thing, by what is true of its one object (a def of one's own: SetO a S n := HO.ext fun h => ..) -/
  | ext (φ : Heap → Prop)

noncomputable abbrev Hp := Addr → Option HO
noncomputable def upd (H : Hp) (a : Addr) (o : HO) : Hp := fun b => if b = a then some o else H b
theorem upd_same {H : Hp} {a : Addr} {o : HO} : upd H a o a = some o := by unfold upd; rw [if_pos rfl]
theorem upd_ne {H : Hp} {a b : Addr} {o : HO} (h : b ≠ a) : upd H a o b = H b := by unfold upd; rw [if_neg h]
theorem upd_upd {H : Hp} {a : Addr} {o u : HO} : upd (upd H a o) a u = upd H a u := by
  funext b; unfold upd; split <;> rfl
theorem ne_of_none {H : Hp} {a b : Addr} {o : HO} (h : H a = some o) (h' : H b = none) : a ≠ b := by
  intro e; subst e; rw [h] at h'; cases h'

section
variable (P : Program) (w : World)
noncomputable def ObjOk (H : Hp) (h : Heap) (a : Addr) : HO → Prop
  | .lst xs => xs.length ≤ sizeLine ∧ ∃ (its : List Value) (n : Nat), Vals xs its ∧ h.get? a = some { cls := .type "list", data := .seq its.toArray n }
  | .tup xs => xs.length ≤ sizeLine ∧ ∃ its : List Value, Vals xs its ∧ IsTup h a its.toArray
  | .dK kvs => kvs.length ≤ sizeLine ∧ (a == sysModules) = false ∧ ∃ vs, KV kvs vs ∧ h.DictOf (mixKind P w) a vs
  | .dT kvs => kvs.length ≤ sizeLine ∧ (a == sysModules) = false ∧ ∃ xs : List (List Key × Addr × Value),
      Paired (fun (p : List Key × V) (q : List Key × Addr × Value) => p.1 = q.1 ∧ H q.2.1 = some (.tup (p.1.map kV)) ∧ RelV p.2 q.2.2) kvs xs ∧
      ∃ o es ep, h.get? a = some o ∧ o.ExactDict ∧ o.data = .dict es ep ∧ es.toList = xs.map (entryOfKey (tupleKind (mixKind P w))) ∧ (xs.map (·.1)).Nodup
  | .set S n => h.SetOf (intKind P w) a S n
  | .ins C dx fs => H dx = some (.own a) ∧ fs.length ≤ 1000 ∧ dx ≠ a ∧ h.get? a = some (PySem.W.instObj C dx) ∧
      ∃ mA, h.Ns1 dx mA ∧ (∀ f, RelO (fs.lookup f) (mA f)) ∧ PySem.Within mA (fs.map (·.1))
  | .own _ => ∃ o, h.get? a = some o
  | .xd fs => ∃ mA, h.Ns1 a mA ∧ ∀ f, RelO (fs.lookup f) (mA f)
  | .rng lo hi => ∃ t u v, h.get? a = some { cls := .type "range", data := .fields #[.int lo t, .int hi u, .int 1 v] }
  | .frz o u => h.get? a = some o ∧ ObjOk H h a u
  | .tbl ps => h.get? a = some { cls := .none, data := .fields ps }
  | .met f x => h.get? a = some (PySem.W.methodObj (.ref f) (.ref x))
  | .ext φ => φ h ∧ (∃ o, h.get? a = some o) ∧ ∀ h1 h2 : Heap, φ h1 → (∀ o, h1.get? a = some o → h2.get? a = some o) → φ h2
/-- the abstract heap is held -/
noncomputable def HOk (H : Hp) (h : Heap) : Prop := ∀ a o, H a = some o → ObjOk P w H h a o
end

section
variable {P : Program} {w : World} {H H' : Hp} {h h' : Heap} {a : Addr} {o : HO}
theorem ObjOk.lt (x : ObjOk P w H h a o) : a < h.objs.size := by
  cases o with
  | lst xs => obtain ⟨_, _, _, _, e⟩ := x; exact Heap.lt_size e
  | tup xs => obtain ⟨_, _, _, p⟩ := x; exact p.lt
  | dK kvs => obtain ⟨_, _, _, _, o, _, _, e, _⟩ := x; exact Heap.lt_size e
  | dT kvs => obtain ⟨_, _, _, _, o, _, _, e, _⟩ := x; exact Heap.lt_size e
  | set S n => obtain ⟨o, _, _, _, e, _⟩ := x; exact Heap.lt_size e
  | ins C dx fs => obtain ⟨_, _, _, e, _⟩ := x; exact Heap.lt_size e
  | own y => obtain ⟨_, e⟩ := x; exact Heap.lt_size e
  | xd fs => obtain ⟨_, ⟨_, _, _, e, _⟩, _⟩ := x; exact Heap.lt_size e
  | rng lo hi => obtain ⟨_, _, _, e⟩ := x; exact Heap.lt_size e
  | frz ob u => obtain ⟨e, _⟩ := x; exact Heap.lt_size e
  | tbl ps => exact Heap.lt_size (show h.get? a = some _ from x)
  | met f y => exact Heap.lt_size (show h.get? a = some _ from x)
  | ext φ => obtain ⟨_, ⟨_, e⟩, _⟩ := x; exact Heap.lt_size e
theorem Paired.mapP {α β : Type} {F G : α → β → Prop} : ∀ {l₁ : List α} {l₂ : List β}, Paired F l₁ l₂ → (∀ a b, F a b → G a b) → Paired G l₁ l₂
 := fun h f => by
  induction h with
  | nil => exact .nil
  | cons r t ih => exact .cons (f _ _ r) ih
/-- what an object's description leans on: its own object, its own dict, the tuples -/
theorem ObjOk.stay (x : ObjOk P w H h a o) (k : ∀ b u, (b = a ∨ H b = some (.own a)) → h.get? b = some u → h'.get? b = some u)
    (ho : ∀ b, H b = some (.own a) → H' b = some (.own a)) (ht : ∀ b xs, H b = some (.tup xs) → H' b = some (.tup xs)) : ObjOk P w H' h' a o := by
  induction o with
  | lst xs => obtain ⟨z, its, n, r, e⟩ := x; exact ⟨z, its, n, r, k _ _ (.inl rfl) e⟩
  | tup xs => obtain ⟨z, its, r, ob, e, c⟩ := x; exact ⟨z, its, r, ob, k _ _ (.inl rfl) e, c⟩
  | dK kvs => obtain ⟨z, y, vs, r, ob, es, ep, e, c⟩ := x; exact ⟨z, y, vs, r, ob, es, ep, k _ _ (.inl rfl) e, c⟩
  | dT kvs =>
    obtain ⟨z, y, xs, r, ob, es, ep, e, c⟩ := x
    exact ⟨z, y, xs, Paired.mapP r fun p q z => ⟨z.1, ht _ _ z.2.1, z.2.2⟩, ob, es, ep, k _ _ (.inl rfl) e, c⟩
  | set S n => obtain ⟨ob, es, ep, t, e, c⟩ := x; exact ⟨ob, es, ep, t, k _ _ (.inl rfl) e, c⟩
  | ins C dx fs =>
    obtain ⟨d, z, ne, e, mA, ⟨od, es, ep, e2, c⟩, r⟩ := x
    exact ⟨ho _ d, z, ne, k _ _ (.inl rfl) e, mA, ⟨od, es, ep, k _ _ (.inr d) e2, c⟩, r⟩
  | own y => obtain ⟨ob, e⟩ := x; exact ⟨ob, k _ _ (.inl rfl) e⟩
  | xd fs => obtain ⟨mA, ⟨od, es, ep, e, c⟩, r⟩ := x; exact ⟨mA, ⟨od, es, ep, k _ _ (.inl rfl) e, c⟩, r⟩
  | rng lo hi => obtain ⟨t, u, v, e⟩ := x; exact ⟨t, u, v, k _ _ (.inl rfl) e⟩
  | frz ob u ih => obtain ⟨e, q⟩ := x; exact ⟨k _ _ (.inl rfl) e, ih q⟩
  | tbl ps =>
    have e : h.get? a = some { cls := .none, data := .fields ps } := x
    show h'.get? a = some { cls := .none, data := .fields ps }
    exact k a _ (.inl rfl) e
  | met f y =>
    have e : h.get? a = some (PySem.W.methodObj (.ref f) (.ref y)) := x
    show h'.get? a = some (PySem.W.methodObj (.ref f) (.ref y))
    exact k a _ (.inl rfl) e
  | ext φ => obtain ⟨p, ⟨o, e⟩, st⟩ := x; exact ⟨st _ _ p fun o q => k _ _ (.inl rfl) q, ⟨o, k _ _ (.inl rfl) e⟩, st⟩
theorem HOk.lt (x : HOk P w H h) (e : H a = some o) : a < h.objs.size := (x a o e).lt
theorem HOk.fresh (x : HOk P w H h) (e : h.objs.size ≤ a) : H a = none := by
  cases q : H a with
  | none => rfl
  | some u => exact absurd (Nat.lt_of_lt_of_le (x.lt q) e) (Nat.lt_irrefl _)
/-- every object of the heap is kept -/
theorem HOk.kept (x : HOk P w H h) (k : ∀ b u, h.get? b = some u → h'.get? b = some u) : HOk P w H h' := fun a o e =>
  (x a o e).stay (fun b u _ q => k b u q) (fun _ q => q) fun _ _ q => q
/-- a new object is laid and tracked -/
theorem HOk.laid (x : HOk P w H h) (k : ∀ b u, h.get? b = some u → h'.get? b = some u) (hp : h.objs.size ≤ a) (new : ObjOk P w (upd H a o) h' a o) : HOk P w (upd H a o) h' := fun b u e => by
  have hn := x.fresh hp
  by_cases hb : b = a
  · subst hb; rw [upd_same] at e; cases e; exact new
  · rw [upd_ne hb] at e
    exact (x b u e).stay (fun c v _ q => k c v q) (fun c q => by rw [upd_ne (ne_of_none q hn)]; exact q) fun c xs q => by rw [upd_ne (ne_of_none q hn)]; exact q
end

/-- what may be read as u: it is u, or a known u -/
noncomputable def Rd (H : Hp) (a : Addr) (u : HO) : Prop := H a = some u ∨ ∃ o, H a = some (.frz o u)
theorem Rd.ok {P : Program} {w : World} {H : Hp} {h : Heap} {a : Addr} {u : HO} (r : Rd H a u) (x : HOk P w H h) : ObjOk P w H h a u := by
  rcases r with r | ⟨o, r⟩
  · exact x a u r
  · obtain ⟨_, q⟩ := x a _ r
    exact q
/-- what may be written -/
noncomputable def Mut : Option HO → Prop
  | some (.lst _) => True
  | some (.dK _) => True
  | some (.dT _) => True
  | some (.set _ _) => True
  | some (.ins _ _ _) => True
  | some (.xd _) => True
  | some (.ext _) => True
  | _ => False
section
variable {P : Program} {w : World} {H : Hp} {h h' : Heap} {x e : Addr} {o' : HO}
/-- the object at e is changed: x itself, or the dict of the instance x -/
theorem HOk.write (ok : HOk P w H h) (mu : Mut (H x)) (he : e = x ∨ H e = some (.own x)) (k : ∀ b u, b ≠ e → h.get? b = some u → h'.get? b = some u) (heo : ∃ u, h'.get? e = some u)
    (new : ObjOk P w (upd H x o') h' x o') : HOk P w (upd H x o') h' := fun b u q => by
  have nown : ∀ c y, H c = some (.own y) → c ≠ x := fun c y r z => by subst z; rw [r] at mu; exact mu
  have ntup : ∀ c xs, H c = some (.tup xs) → c ≠ x := fun c xs r z => by subst z; rw [r] at mu; exact mu
  by_cases hb : b = x
  · subst hb; rw [upd_same] at q; cases q; exact new
  · rw [upd_ne hb] at q
    by_cases hbe : b = e
    · have q' : H b = some (.own x) := by
        rcases he with z | z
        · exact absurd (hbe.trans z) hb
        · rw [hbe]; exact z
      rw [q] at q'; cases q'
      obtain ⟨v, hv⟩ := heo
      exact ⟨v, by rw [hbe]; exact hv⟩
    · refine (ok b u q).stay (fun c v hc r => k c v ?_ r) (fun c r => by rw [upd_ne (nown c b r)]; exact r) fun c xs r => by rw [upd_ne (ntup c xs r)]; exact r
      rcases hc with rfl | hc
      · exact hbe
      · rintro rfl
        rcases he with z | z
        · exact nown c b hc z
        · rw [hc] at z; cases z; exact hb rfl
end

/-! ### kept unless tracked; of the frames at fs (the callers') the slots may change (an exception that passes writes there); of the records at ex (iterators) nothing is said -/
structure Un (fs ex : List Addr) (H H' : Hp) (h h' : Heap) : Prop where
  keep : ∀ b o, h.get? b = some o → H b = none → b ∉ fs → b ∉ ex → h'.get? b = some o
  slot : ∀ b o, h.get? b = some o → H b = none → b ∈ fs → b ∉ ex → ∃ sl, h'.get? b = some { o with slots := sl }
  free : ∀ b o, h.get? b = some o → H b = none → b ∉ ex → H' b = none
  there : ∀ b o, h.get? b = some o → b ∉ ex → ∃ o', h'.get? b = some o'
  tups : ∀ b xs, H b = some (.tup xs) → H' b = some (.tup xs)
  frzs : ∀ b o u, H b = some (.frz o u) → H' b = some (.frz o u)
  tbls : ∀ b ps, H b = some (.tbl ps) → ∃ more, H' b = some (.tbl (ps ++ more))
section
variable {fs fs' ex ex' : List Addr} {H H1 H2 : Hp} {h h1 h2 h' : Heap} {a x e : Addr} {o : HO}
theorem Un.any (u : Un fs ex H H1 h h1) {b : Addr} {ob : Obj} (q : h.get? b = some ob) (n : H b = none) (hx : b ∉ ex) : ∃ sl, h1.get? b = some { ob with slots := sl } := by
  by_cases hb : b ∈ fs
  · exact u.slot b ob q n hb hx
  · exact ⟨ob.slots, u.keep b ob q n hb hx⟩
theorem Un.trans (a : Un fs ex H H1 h h1) (b : Un fs ex H1 H2 h1 h2) : Un fs ex H H2 h h2 where
  keep := fun c ob q n hc hx => b.keep c ob (a.keep c ob q n hc hx) (a.free c ob q n hx) hc hx
  slot := fun c ob q n hc hx => by
    obtain ⟨sl, e1⟩ := a.slot c ob q n hc hx
    obtain ⟨sl', e2⟩ := b.slot c _ e1 (a.free c ob q n hx) hc hx
    exact ⟨sl', e2⟩
  free := fun c ob q n hx => by
    obtain ⟨o', e1⟩ := a.there c ob q hx
    exact b.free c o' e1 (a.free c ob q n hx) hx
  there := fun c ob q hx => by
    obtain ⟨o', e1⟩ := a.there c ob q hx
    exact b.there c o' e1 hx
  tups := fun c xs q => b.tups c xs (a.tups c xs q)
  frzs := fun c ob xs q => b.frzs c ob xs (a.frzs c ob xs q)
  tbls := fun c ps q => by
    obtain ⟨m1, e1⟩ := a.tbls c ps q
    obtain ⟨m2, e2⟩ := b.tbls c _ e1
    exact ⟨m1 ++ m2, by rw [e2, Array.append_assoc]⟩
theorem Un.kept (k : ∀ b u, h.get? b = some u → h'.get? b = some u) : Un fs ex H H h h' :=
  ⟨fun b ob q _ _ _ => k b ob q, fun b ob q _ _ _ => ⟨ob.slots, k b ob q⟩, fun _ _ _ n _ => n, fun b ob q _ => ⟨ob, k b ob q⟩, fun _ _ q => q, fun _ _ _ q => q, fun _ ps q => ⟨#[], by rw [q]; simp⟩⟩
theorem Un.refl : Un fs ex H H h h := Un.kept fun _ _ q => q
theorem Un.laid (k : ∀ b u, h.get? b = some u → h'.get? b = some u) (hp : h.objs.size ≤ a) (hn : H a = none) : Un fs ex H (upd H a o) h h' where
  keep := fun b u q _ _ _ => k b u q
  slot := fun b u q _ _ _ => ⟨u.slots, k b u q⟩
  free := fun b u q n _ => by rw [upd_ne (Nat.ne_of_lt (Nat.lt_of_lt_of_le (Heap.lt_size q) hp))]; exact n
  there := fun b u q _ => ⟨u, k b u q⟩
  tups := fun b xs q => by rw [upd_ne (ne_of_none q hn)]; exact q
  frzs := fun b u xs q => by rw [upd_ne (ne_of_none q hn)]; exact q
  tbls := fun b ps q => ⟨#[], by rw [upd_ne (ne_of_none q hn), q]; simp⟩
theorem Un.write (mu : Mut (H x)) (he : e = x ∨ H e = some (.own x)) (k : ∀ b u, b ≠ e → h.get? b = some u → h'.get? b = some u) (heo : ∃ u, h'.get? e = some u) : Un fs ex H (upd H x o) h h' := by
  have hx : ∀ b, H b = none → b ≠ x := fun b n z => by subst z; rw [n] at mu; exact mu
  have hb : ∀ b, H b = none → b ≠ e := fun b n z => by
    subst z
    rcases he with r | r
    · exact hx b n r
    · rw [n] at r; cases r
  have hm : ∀ b u, H b = some u → ¬ Mut (some u) → b ≠ x := fun b u q nm z => by subst z; rw [q] at mu; exact nm mu
  refine ⟨fun b u q n _ _ => k b u (hb b n) q, fun b u q n _ _ => ⟨u.slots, k b u (hb b n) q⟩, fun b u q n _ => by rw [upd_ne (hx b n)]; exact n, fun b u q _ => ?_,
    fun b xs q => by rw [upd_ne (hm b _ q fun z => z)]; exact q, fun b u xs q => by rw [upd_ne (hm b _ q fun z => z)]; exact q, fun b ps q => ⟨#[], by rw [upd_ne (hm b _ q fun z => z), q]; simp⟩⟩
  by_cases hbe : b = e
  · subst hbe; exact heo
  · exact ⟨u, k b u hbe q⟩
end

/-! ### the heap without what is tracked -/
noncomputable def trk (h : Heap) (H : Hp) : List Addr := (List.range h.objs.size).filter fun a => (H a).isSome
noncomputable def hidT (h : Heap) (H : Hp) : Heap := PySem.W.hideAll h (trk h H)
theorem hidT_size (h : Heap) (H : Hp) : (hidT h H).objs.size = h.objs.size := PySem.W.hideAll_size _ _
theorem hidT_get {h : Heap} {H : Hp} {b : Addr} {o : Obj} (e : h.get? b = some o) (n : H b = none) : (hidT h H).get? b = some o :=
  PySem.W.hideAll_get _ e fun hm => by
    have q : (H b).isSome = true := (List.mem_filter.mp hm).2
    rw [n] at q; simp at q
theorem of_hidT {h : Heap} {H : Hp} {b : Addr} {o : Obj} (e : (hidT h H).get? b = some o) : h.get? b = some o ∧ H b = none := by
  have e' : h.get? b = some o := PySem.W.of_hideAll (trk h H) e
  refine ⟨e', ?_⟩
  cases q : H b with
  | none => rfl
  | some x =>
    have hm : b ∈ trk h H := List.mem_filter.mpr ⟨List.mem_range.mpr (Heap.lt_size e'), by simp [q]⟩
    have z : (hidT h H).get? b = none := PySem.W.hideAll_none (trk h H) hm
    rw [z] at e; cases e

/-! ### OpenK's ledger, filled with every new object but one -/
noncomputable def allNews (g h : Heap) (L : Addr) : List (Addr × Obj) := (List.range h.objs.size).filterMap fun a => if a = L ∨ (g.get? a).isSome = true then none else (h.get? a).map fun o => (a, o)
noncomputable def rest (g h : Heap) (L d : Addr) : List (Addr × Obj) := (allNews g h L).filter fun p => decide (p.1 ≠ d)
end L2

namespace L2
open PySem PySem.Spec PyProof.Rows

/-- the module's facts, over the base: the heap at the law's entry without what is tracked there -/
structure Mod (K : PySem.W.Frag) (mg : Str → Option Value) (base : Heap) : Prop where
  kin : K.In base
  glob : base.Ns mainGlobals mg
  blt : ∃ mb, base.Ns builtinsNs mb ∧ ∀ x : Str, x ≠ "__name__" → mb x = bootBuiltins x
  nolimit : base.NoLimit

/-- an exception's object: its class, its own dict, its arguments, its trace -/
noncomputable abbrev xObj (cls : Value) (dx : Option Addr) (a0 tb : Value) : Obj := { cls := cls, dict := dx, data := .fields #[a0, tb, .none, .none, .bool false, .none] }
/-- an exception as it is held: the very object, known -/
noncomputable def xHO (e : Addr) (ob : Obj) : HO := .frz ob (.ext fun h => h.get? e = some ob)
/-- the exception that is handled around, known -/
noncomputable def Hd (A : Around) (H : Hp) : Prop := ∃ e cls dx a0 tb, A.handled = some (.ref e) ∧ H e = some (xHO e (xObj cls dx a0 tb))
/-- the context: a def's body (or a comprehension's block) running. base: fixed through the whole law; s₀, H₀: the entry; outer: the frames whose slots others may change (a def's callers); stack: all frames that run;
   ex: iterators that were made ahead of the entry and are walked here (a comprehension's); fn: the names whose cells were made at the entry (a def: all; a comprehension's block: its own); calm: not within an except suite; pn: pins that every state bears; xe: what is wanted of an exception that leaves the code -/
structure Cx where
  prog : Program
  w : World
  K : PySem.W.Frag
  mg : Str → Option Value
  base : Heap
  A : Around
  N : List Str
  s₀ : Shared
  H₀ : Hp
  env : Env
  outer : List Env
  stack : List Env
  ex : List Addr
  fn : Str → Bool
  calm : Bool
  suit : Bool
  pn : List (Addr × Obj)
  xe : Value → Shared → Prop
/-- the callers' frames -/
noncomputable def frs (l : List Env) : List Addr := l.filterMap (·.frame)
noncomputable abbrev Cx.fs (X : Cx) : List Addr := frs X.outer

noncomputable def Vis (sc : Scope) (x : Str) : Prop := sc.names.lookup x = some .local ∨ sc.names.lookup x = some .cell ∨ sc.names.lookup x = some .free
noncomputable def Loc (sc : Scope) (x : Str) : Prop := sc.names.lookup x = some .local ∨ sc.names.lookup x = some .cell
noncomputable def Look (env : Env) (h : Heap) (m : Str → Option Value) (x : Str) (u : Value) : Prop :=
  (env.kindOf x = some .local ∧ m x = some u) ∨ ((env.kindOf x = some .cell ∨ env.kindOf x = some .free) ∧ ∃ c, env.cells.lookup x = some c ∧ h.IsCell c (some u))

structure Cx.Ok (X : Cx) : Prop where
  mod : Mod X.K X.mg X.base
  kind : X.env.scope.kind = .function
  glob : X.env.globals = mainGlobals
  blt : X.env.builtins = builtinsNs
  above : X.s₀.heap.objs.size ≤ X.env.locals
  inj : ∀ x y c, X.env.cells.lookup x = some c → X.env.cells.lookup y = some c → x = y
  has : ∀ x, (X.env.kindOf x = some .cell ∨ X.env.kindOf x = some .free) → ∃ c, X.env.cells.lookup x = some c
  cab : ∀ x c, X.fn x = true → X.env.cells.lookup x = some c → X.s₀.heap.objs.size ≤ c
  hd : X.calm = true → X.A.handled = none
  frames : X.A.frames = some X.stack
  stk : X.stack = X.outer ∨ (X.stack = X.env :: X.outer ∧ X.env.frame = some X.env.locals)
  exf : ∀ b ∈ X.ex, b ≠ X.env.locals ∧ ∀ x c, X.env.cells.lookup x = some c → c ≠ b
  bs : ∀ b o, X.base.get? b = some o → X.s₀.heap.get? b = some o ∧ X.H₀ b = none
  bsz : X.base.objs.size ≤ X.s₀.heap.objs.size
  noex : ∀ b o, X.base.get? b = some o → b ∉ X.ex
  exfs : ∀ b ∈ X.ex, b ∉ X.fs
  funs : X.s₀.heap.FunFrames X.base X.outer
  frf : ∀ b ∈ X.fs, X.H₀ b = none
  hs : X.suit = true → Hd X.A X.H₀

structure Inv (X : Cx) (pins : List (Addr × Obj)) (σ : List (Option V)) (H : Hp) (s : Shared) : Prop where
  ok : X.Ok
  os : s.os = X.s₀.os
  bare : AllBare s.gens
  base : Un X.fs X.ex X.H₀ H X.s₀.heap s.heap
  loc : ∃ m, s.heap.Ns X.env.locals m ∧ ∀ (i : Nat) (x : Str) (v : V), X.N[i]? = some x → σ[i]? = some (some v) → Vis X.env.scope x → ∃ u, RelV v u ∧ Look X.env s.heap m x u
  cell : ∀ x c, X.env.cells.lookup x = some c → ∃ v, s.heap.IsCell c v
  free : H X.env.locals = none
  freeC : ∀ x c, X.env.cells.lookup x = some c → H c = none
  pin : ∀ p ∈ X.pn ++ pins, s.heap.get? p.1 = some p.2 ∧ H p.1 = none ∧ p.1 ≠ X.env.locals ∧ p.1 ∉ X.fs ∧ ∀ v, p.2.data ≠ .cell v
  hok : HOk X.prog X.w H s.heap
  len : σ.length = X.N.length

section
variable {X : Cx} {pins : List (Addr × Obj)} {σ : List (Option V)} {H H' : Hp} {s : Shared} {h' : Heap}

theorem Cx.Ok.nofr (ok : X.Ok) {b : Addr} {o : Obj} (e : X.base.get? b = some o) : b ∉ X.fs := fun hb => by
  have := (ok.funs.mem hb).1
  rw [e] at this; cases this
theorem Inv.bs (I : Inv X pins σ H s) : ∀ b o, X.base.get? b = some o → s.heap.get? b = some o ∧ H b = none := fun b o e =>
  ⟨I.base.keep b o (I.ok.bs b o e).1 (I.ok.bs b o e).2 (I.ok.nofr e) (I.ok.noex b o e), I.base.free b o (I.ok.bs b o e).1 (I.ok.bs b o e).2 (I.ok.noex b o e)⟩
theorem Inv.bk (I : Inv X pins σ H s) : ∀ b o, X.base.get? b = some o → s.heap.get? b = some o := fun b o e => (I.bs b o e).1
theorem Inv.mod (I : Inv X pins σ H s) : Mod X.K X.mg X.base := I.ok.mod
theorem Inv.kIn (I : Inv X pins σ H s) : X.K.In s.heap := I.ok.mod.kin.keeps I.bk
theorem Inv.lt (I : Inv X pins σ H s) : X.env.locals < s.heap.objs.size := let ⟨_, hn, _⟩ := I.loc; hn.lt
theorem Inv.sz (I : Inv X pins σ H s) : X.s₀.heap.objs.size ≤ s.heap.objs.size := Nat.le_trans I.ok.above (Nat.le_of_lt I.lt)
theorem Inv.nofs (I : Inv X pins σ H s) {a : Addr} (h : s.heap.objs.size ≤ a) : a ∉ X.fs := fun hb => by
  obtain ⟨_, o, ho, _⟩ := I.ok.funs.mem hb
  exact absurd (Nat.lt_of_lt_of_le (Heap.lt_size ho) (Nat.le_trans I.sz h)) (Nat.lt_irrefl _)
theorem Inv.cne (I : Inv X pins σ H s) : ∀ x c, X.env.cells.lookup x = some c → c ≠ X.env.locals := fun x c e z => by
  obtain ⟨v, o, ho, hd⟩ := I.cell x c e
  obtain ⟨m, ⟨o', es, ep, ho', hd', _⟩, _⟩ := I.loc
  rw [z, ho'] at ho; cases ho; rw [hd'] at hd; cases hd
theorem Inv.funs (I : Inv X pins σ H s) : s.heap.FunFrames X.base X.outer := by
  have all : ∀ (l : List Env), (∀ b ∈ frs l, b ∈ X.fs) → X.s₀.heap.FunFrames X.base l → s.heap.FunFrames X.base l := by
    intro l
    induction l with
    | nil => intro _ _; trivial
    | cons env r ih =>
      intro hs hl
      obtain ⟨hk, ⟨L, o, hf, hn, ho, hd⟩, hr⟩ := hl
      have hL : L ∈ X.fs := hs L (by unfold frs; rw [List.filterMap_cons, hf]; exact List.mem_cons_self)
      obtain ⟨sl, e⟩ := I.base.slot L o ho (I.ok.frf L hL) hL fun z => I.ok.exfs L z hL
      exact ⟨hk, ⟨L, _, hf, hn, e, hd⟩, ih (fun b hb => hs b (by unfold frs; rw [List.filterMap_cons, hf]; exact List.mem_cons_of_mem _ hb)) hr⟩
  exact all X.outer (fun _ hb => hb) I.ok.funs

/-- the frames that run, for a call -/
theorem Inv.stack (I : Inv X pins σ H s) : s.heap.FunFrames X.base X.stack := by
  rcases I.ok.stk with e | ⟨e, hf⟩
  · rw [e]; exact I.funs
  · rw [e]
    obtain ⟨m, hn, _⟩ := I.loc
    refine .cons (by rw [I.ok.kind]; decide) hf hn ?_ I.funs
    exact Heap.get?_none_of_le (Nat.le_trans I.ok.bsz I.ok.above)
theorem Inv.stkSub (I : Inv X pins σ H s) : ∀ b ∈ frs X.stack, b ∈ X.env.locals :: X.fs := fun b hb => by
  rcases I.ok.stk with e | ⟨e, hf⟩
  · rw [e] at hb; exact List.mem_cons_of_mem _ hb
  · rw [e] at hb
    unfold frs at hb
    rw [List.filterMap_cons, hf] at hb
    exact hb
theorem Inv.stkFree (I : Inv X pins σ H s) : ∀ b ∈ frs X.stack, H b = none := fun b hb => by
  rcases List.mem_cons.mp (I.stkSub b hb) with e | hb
  · rw [e]; exact I.free
  · obtain ⟨_, o, ho, _⟩ := I.ok.funs.mem hb
    exact I.base.free b o ho (I.ok.frf b hb) fun z => I.ok.exfs b z hb

/-- THE STEP: the untracked objects but the frame and the records at ch are kept (the callers' frames up to slots), the frame's map is kept, the new abstract heap is held -/
theorem Inv.step {g' : Array GenState} {t' : Nat} {d' : Drawn} {ch : List Addr} (I : Inv X pins σ H s)
    (hch : ∀ b ∈ ch, (b ∈ X.ex ∨ X.s₀.heap.objs.size ≤ b) ∧ b ≠ X.env.locals ∧ (∀ x c, X.env.cells.lookup x = some c → c ≠ b) ∧ ∀ p ∈ X.pn ++ pins, p.1 ≠ b)
    (keep : ∀ b o, b ≠ X.env.locals → b ∉ X.fs → b ∉ ch → s.heap.get? b = some o → H b = none → h'.get? b = some o)
    (slot : ∀ b o, b ≠ X.env.locals → b ∈ X.fs → b ∉ ch → s.heap.get? b = some o → H b = none → ∃ sl, h'.get? b = some { o with slots := sl }) (free : ∀ b o, b ∉ ch → s.heap.get? b = some o → H b = none → H' b = none)
    (there : ∀ b o, b ∉ ch → s.heap.get? b = some o → ∃ o', h'.get? b = some o')
    (tups : ∀ b xs, H b = some (.tup xs) → H' b = some (.tup xs)) (frzs : ∀ b o u, H b = some (.frz o u) → H' b = some (.frz o u)) (tbls : ∀ b ps, H b = some (.tbl ps) → ∃ more, H' b = some (.tbl (ps ++ more)))
    (ns : ∀ m, s.heap.Ns X.env.locals m → h'.Ns X.env.locals m) (hok : HOk X.prog X.w H' h') (hg : AllBare g') :
    Inv X pins σ H' { s with heap := h', gens := g', drawn := d', toks := t' } := by
  have neL : ∀ b o, X.s₀.heap.get? b = some o → b ≠ X.env.locals := fun b o e => Nat.ne_of_lt (Nat.lt_of_lt_of_le (Heap.lt_size e) I.ok.above)
  have neC : ∀ b o, X.s₀.heap.get? b = some o → b ∉ X.ex → b ∉ ch := fun b o e hx hb => by
    rcases (hch b hb).1 with z | z
    · exact hx z
    · exact absurd (Nat.lt_of_lt_of_le (Heap.lt_size e) z) (Nat.lt_irrefl _)
  have cellK : ∀ x c, X.env.cells.lookup x = some c → ∀ v, s.heap.IsCell c v → h'.IsCell c v := fun x c e v hh1 => by
    obtain ⟨o, ho, hd⟩ := hh1
    have nch : c ∉ ch := fun z => (hch c z).2.2.1 x c e rfl
    by_cases hc : c ∈ X.fs
    · obtain ⟨sl, q⟩ := slot c o (I.cne x c e) hc nch ho (I.freeC x c e)
      exact ⟨_, q, hd⟩
    · exact ⟨o, keep c o (I.cne x c e) hc nch ho (I.freeC x c e), hd⟩
  refine ⟨I.ok, I.os, hg, ⟨fun b o e n hb hx => ?_, fun b o e n hb hx => ?_, fun b o e n hx => ?_, fun b o e hx => ?_, fun b xs e => tups b xs (I.base.tups b xs e), fun b o xs e => frzs b o xs (I.base.frzs b o xs e), fun b ps e => ?_⟩, ?_, fun x c e => ?_, ?_, fun x c e => ?_, fun p hp => ?_, hok, I.len⟩
  · exact keep b o (neL b o e) hb (neC b o e hx) (I.base.keep b o e n hb hx) (I.base.free b o e n hx)
  · obtain ⟨sl, e1⟩ := I.base.slot b o e n hb hx
    obtain ⟨sl', e2⟩ := slot b _ (neL b o e) hb (neC b o e hx) e1 (I.base.free b o e n hx)
    exact ⟨sl', e2⟩
  · obtain ⟨o', e1⟩ := I.base.there b o e hx
    exact free b o' (neC b o e hx) e1 (I.base.free b o e n hx)
  · obtain ⟨o', e1⟩ := I.base.there b o e hx
    exact there b o' (neC b o e hx) e1
  · obtain ⟨m1, e1⟩ := I.base.tbls b ps e
    obtain ⟨m2, e2⟩ := tbls b _ e1
    exact ⟨m1 ++ m2, by rw [e2, Array.append_assoc]⟩
  · obtain ⟨m, hn, hl⟩ := I.loc
    refine ⟨m, ns m hn, fun i x v e1 e2 e3 => ?_⟩
    obtain ⟨u, r, l⟩ := hl i x v e1 e2 e3
    refine ⟨u, r, ?_⟩
    rcases l with l | ⟨k, c, e, z⟩
    · exact .inl l
    · exact .inr ⟨k, c, e, cellK x c e _ z⟩
  · obtain ⟨v, z⟩ := I.cell x c e
    exact ⟨v, cellK x c e v z⟩
  · obtain ⟨m, ⟨o, _, _, ho, _⟩, _⟩ := I.loc
    exact free _ o (fun z => (hch _ z).2.1 rfl) ho I.free
  · obtain ⟨v, o, ho, hd⟩ := I.cell x c e
    exact free c o (fun z => (hch c z).2.2.1 x c e rfl) ho (I.freeC x c e)
  · obtain ⟨e, n, ne, nf, d⟩ := I.pin p hp
    have nch : p.1 ∉ ch := fun z => (hch p.1 z).2.2.2 p hp rfl
    exact ⟨keep p.1 p.2 ne nf nch e n, free p.1 p.2 nch e n, ne, nf, d⟩
/-- .. where the frame's own object is kept too -/
theorem Inv.un {t' : Nat} (I : Inv X pins σ H s) (u : Un X.fs [] H H' s.heap h') (hok : HOk X.prog X.w H' h') : Inv X pins σ H' { s with heap := h', toks := t' } := by
  obtain ⟨m, ⟨o, es, ep, ho, r⟩, _⟩ := id I.loc
  obtain ⟨sl, hL⟩ := u.any ho I.free (by simp)
  exact I.step (g' := s.gens) (d' := s.drawn) (ch := []) (fun _ z => nomatch z) (fun b o _ hb _ e n => u.keep b o e n hb (by simp)) (fun b o _ hb _ e n => u.slot b o e n hb (by simp)) (fun b o _ e n => u.free b o e n (by simp)) (fun b o _ e => u.there b o e (by simp)) u.tups u.frzs u.tbls (fun m' hm => by
    obtain ⟨o', es', ep', ho', r'⟩ := hm
    rw [ho] at ho'; cases ho'
    exact ⟨_, es', ep', hL, r'⟩) hok I.bare
/-- behind a call (or a comprehension's block): the slots of this frame may have changed too, the records at ch may have turned -/
theorem Inv.call {g' : Array GenState} {t' : Nat} {d' : Drawn} {ch : List Addr} (I : Inv X pins σ H s) (u : Un (frs X.stack) ch H H' s.heap h') (hok : HOk X.prog X.w H' h') (hg : AllBare g')
    (hch : ∀ b ∈ ch, (b ∈ X.ex ∨ X.s₀.heap.objs.size ≤ b) ∧ b ≠ X.env.locals ∧ (∀ x c, X.env.cells.lookup x = some c → c ≠ b) ∧ ∀ p ∈ X.pn ++ pins, p.1 ≠ b) :
    Inv X pins σ H' { s with heap := h', gens := g', drawn := d', toks := t' } := by
  obtain ⟨m, ⟨o, es, ep, ho, r⟩, _⟩ := id I.loc
  obtain ⟨sl, hL⟩ := u.any ho I.free fun z => (hch _ z).2.1 rfl
  exact I.step (ch := ch) hch (fun b o hL hb hc e n => u.keep b o e n (fun z => (List.mem_cons.mp (I.stkSub b z)).elim hL hb) hc) (fun b o _ _ hc e n => u.any e n hc) (fun b o hc e n => u.free b o e n hc) (fun b o hc e => u.there b o e hc) u.tups u.frzs u.tbls (fun m' hm => by
    obtain ⟨o', es', ep', ho', r'⟩ := hm
    rw [ho] at ho'; cases ho'
    exact ⟨_, es', ep', hL, r'⟩) hok hg
/-- an untracked record of ours (an iterator) has turned -/
theorem Inv.turned {t' : Nat} {it : Addr} (I : Inv X pins σ H s) (k : ∀ b o, b ≠ it → s.heap.get? b = some o → h'.get? b = some o) (hn : H it = none) (hL : it ≠ X.env.locals)
    (h1 : it ∈ X.ex ∨ X.s₀.heap.objs.size ≤ it) (h2 : ∀ x c, X.env.cells.lookup x = some c → c ≠ it) (h3 : ∀ p ∈ X.pn ++ pins, p.1 ≠ it) : Inv X pins σ H { s with heap := h', toks := t' } := by
  have nit : ∀ b u, H b = some u → b ≠ it := fun b u e z => by rw [z, hn] at e; cases e
  refine I.step (g' := s.gens) (d' := s.drawn) (ch := [it]) (fun b hb => ?_) (fun b o _ _ hc e _ => k b o (fun z => hc (by simp [z])) e) (fun b o _ _ hc e _ => ⟨o.slots, k b o (fun z => hc (by simp [z])) e⟩) (fun _ _ _ _ n => n)
    (fun b o hc e => ⟨o, k b o (fun z => hc (by simp [z])) e⟩) (fun _ _ e => e) (fun _ _ _ e => e) (fun b ps e => ⟨#[], by rw [e]; simp⟩) (fun m hm => ?_) (fun b u e => ?_) I.bare
  · have e : b = it := by simpa using hb
    subst e
    exact ⟨h1, hL, h2, h3⟩
  · obtain ⟨o, es, ep, ho, r⟩ := hm
    exact ⟨o, es, ep, k _ o (Ne.symm hL) ho, r⟩
  · refine (I.hok b u e).stay (fun c v hc q => k c v ?_ q) (fun _ q => q) fun _ _ q => q
    rcases hc with z | z
    · rw [z]; exact nit b u e
    · exact nit c _ z
theorem Inv.tok (I : Inv X pins σ H s) (t : Nat) : Inv X pins σ H { s with toks := t } := I.un (h' := s.heap) (t' := t) Un.refl I.hok
/-- all objects kept -/
theorem Inv.kept {t' : Nat} (I : Inv X pins σ H s) (k : ∀ b u, s.heap.get? b = some u → h'.get? b = some u) : Inv X pins σ H { s with heap := h', toks := t' } := I.un (Un.kept k) (I.hok.kept k)
/-- a new object laid and tracked -/
theorem Inv.laid {a : Addr} {o : HO} {t' : Nat} (I : Inv X pins σ H s) (k : ∀ b u, s.heap.get? b = some u → h'.get? b = some u) (hp : s.heap.objs.size ≤ a) (new : ObjOk X.prog X.w (upd H a o) h' a o) :
    Inv X pins σ (upd H a o) { s with heap := h', toks := t' } := I.un (Un.laid k hp (I.hok.fresh hp)) (I.hok.laid k hp new)
/-- an object written -/
theorem Inv.write {x e : Addr} {o : HO} {t' : Nat} (I : Inv X pins σ H s) (mu : Mut (H x)) (he : e = x ∨ H e = some (.own x)) (k : ∀ b u, b ≠ e → s.heap.get? b = some u → h'.get? b = some u) (heo : ∃ u, h'.get? e = some u)
    (new : ObjOk X.prog X.w (upd H x o) h' x o) : Inv X pins σ (upd H x o) { s with heap := h', toks := t' } := I.un (Un.write mu he k heo) (I.hok.write mu he k heo new)
/-- forgetting slots, pins -/
theorem Inv.weak {σ' : List (Option V)} (I : Inv X pins σ H s) (hl : σ'.length = σ.length) (w : ∀ (i : Nat) v, σ'[i]? = some (some v) → σ[i]? = some (some v)) : Inv X pins σ' H s :=
  ⟨I.ok, I.os, I.bare, I.base, let ⟨m, hn, hl'⟩ := I.loc; ⟨m, hn, fun i x v e1 e2 e3 => hl' i x v e1 (w i v e2) e3⟩, I.cell, I.free, I.freeC, I.pin, I.hok, hl.trans I.len⟩
theorem Inv.pins_of {pins' : List (Addr × Obj)} (I : Inv X pins σ H s) (h : ∀ p ∈ pins', s.heap.get? p.1 = some p.2 ∧ H p.1 = none ∧ p.1 ≠ X.env.locals ∧ p.1 ∉ X.fs ∧ ∀ v, p.2.data ≠ .cell v) : Inv X pins' σ H s :=
  ⟨I.ok, I.os, I.bare, I.base, I.loc, I.cell, I.free, I.freeC, fun p hp => (List.mem_append.mp hp).elim (fun z => I.pin p (List.mem_append_left _ z)) (h p), I.hok, I.len⟩

theorem nodup_ix {N : List Str} (hN : N.Nodup) {i j : Nat} {x : Str} (a : N[i]? = some x) (b : N[j]? = some x) : i = j := by
  obtain ⟨h1, e1⟩ := List.getElem?_eq_some_iff.mp a
  obtain ⟨h2, e2⟩ := List.getElem?_eq_some_iff.mp b
  exact (List.getElem_inj hN).mp (e1.trans e2.symm)

/-- a name is stored; what changed -/
theorem store_ok2 {M : Model} {A : Around} {E : Value → Shared → Prop} {i : Nat} {x : Str} {v : V} {u : Value} {Q : Unit → Shared → Prop} (I : Inv X pins σ H s) (hN : X.N.Nodup) (hi : X.N[i]? = some x) (hx : Loc X.env.scope x) (r : RelV v u)
    (h : ∀ s', Inv X pins (σ.set i (some v)) H s' → (∃ a, Heap.SameBut a s.heap s'.heap ∧ (a = X.env.locals ∨ X.env.cells.lookup x = some a)) → Q () s') (hf : X.fn x = true ∨ X.env.scope.names.lookup x = some .local := by first | exact .inl rfl | exact .inr rfl | assumption) : wpAny M A (storeName X.env x u) Q E s := by
  obtain ⟨m, hn, hl⟩ := id I.loc
  have hcls : (X.env.scope.kind == .class || (X.env.scope.kind == .module && X.env.locals != X.env.globals)) = false := by rw [I.ok.kind]; rfl
  have hiσ : i < σ.length := by rw [I.len]; exact (List.getElem?_eq_some_iff.mp hi).1
  have cne := I.cne
  have tracked : ∀ {a : Addr} {h' : Heap}, (∃ o, s.heap.get? a = some o ∧ H a = none) → Heap.SameBut a s.heap h' → HOk X.prog X.w H h' := fun {a h'} ha hs b ob e => by
    obtain ⟨_, _, hfree⟩ := ha
    refine (I.hok b ob e).stay (fun c w' hc q => (hs.2 c ?_).trans q) (fun _ q => q) fun _ _ q => q
    rintro rfl
    rcases hc with rfl | hc
    · rw [hfree] at e; cases e
    · rw [hfree] at hc; cases hc
  rcases hx with hk | hk
  · refine wpAny_storeName_local hk hn (fun h' hn' hs => ?_) hcls
    obtain ⟨oL, _, _, hoL, _⟩ := id hn
    refine h _ ⟨I.ok, I.os, I.bare, ⟨fun b o e n hb hx => ?_, fun b o e n hb hx => ?_, I.base.free, fun b o e hx => ?_, I.base.tups, I.base.frzs, I.base.tbls⟩, ⟨_, hn', fun j y v' e1 e2 e3 => ?_⟩, fun y c e => ?_, I.free, I.freeC, fun p hp => ?_, tracked ⟨oL, hoL, I.free⟩ hs, by simpa using I.len⟩ ⟨_, hs, .inl rfl⟩
    · exact (hs.2 b (Nat.ne_of_lt (Nat.lt_of_lt_of_le (Heap.lt_size e) I.ok.above))).trans (I.base.keep b o e n hb hx)
    · obtain ⟨sl, e1⟩ := I.base.slot b o e n hb hx
      exact ⟨sl, (hs.2 b (Nat.ne_of_lt (Nat.lt_of_lt_of_le (Heap.lt_size e) I.ok.above))).trans e1⟩
    · obtain ⟨o', e1⟩ := I.base.there b o e hx
      exact ⟨o', (hs.2 b (Nat.ne_of_lt (Nat.lt_of_lt_of_le (Heap.lt_size e) I.ok.above))).trans e1⟩
    · by_cases hj : j = i
      · subst hj
        rw [hi] at e1; cases e1
        rw [List.getElem?_set_self hiσ] at e2
        cases e2
        exact ⟨u, r, .inl ⟨hk, by simp⟩⟩
      · rw [List.getElem?_set_ne (Ne.symm hj)] at e2
        obtain ⟨u', r', q⟩ := hl j y v' e1 e2 e3
        refine ⟨u', r', ?_⟩
        rcases q with ⟨k, e⟩ | ⟨k, c, e, z⟩
        · refine .inl ⟨k, ?_⟩
          have : y ≠ x := fun e => hj (nodup_ix hN e1 (e ▸ hi))
          simp [this, e]
        · exact .inr ⟨k, c, e, z.sameBut hs (cne y c e)⟩
    · obtain ⟨w', z⟩ := I.cell y c e
      exact ⟨w', z.sameBut hs (cne y c e)⟩
    · obtain ⟨e, n, ne, nf, d⟩ := I.pin p hp
      exact ⟨(hs.2 p.1 ne).trans e, n, ne, nf, d⟩
  · have hfn : X.fn x = true := by
      rcases hf with z | z
      · exact z
      · rw [z] at hk; cases hk
    obtain ⟨c, hc⟩ := I.ok.has x (.inl hk)
    obtain ⟨w', z⟩ := I.cell x c hc
    refine wpAny_storeName_cell I.ok.kind hk hc z (fun h' hc' hs => ?_)
    obtain ⟨oc, hoc, hocd⟩ := id z
    refine h { s with heap := h' } ⟨I.ok, I.os, I.bare, ⟨fun b o e n hb hx => ?_, fun b o e n hb hx => ?_, I.base.free, fun b o e hx => ?_, I.base.tups, I.base.frzs, I.base.tbls⟩, ⟨m, hn.sameBut hs (Ne.symm (cne x c hc)), fun j y v' e1 e2 e3 => ?_⟩, fun y c' e => ?_, I.free, I.freeC, fun p hp => ?_, tracked ⟨oc, hoc, I.freeC x c hc⟩ hs, by simpa using I.len⟩ ⟨c, hs, .inr hc⟩
    · exact (hs.2 b (Nat.ne_of_lt (Nat.lt_of_lt_of_le (Heap.lt_size e) (I.ok.cab x c hfn hc)))).trans (I.base.keep b o e n hb hx)
    · obtain ⟨sl, e1⟩ := I.base.slot b o e n hb hx
      exact ⟨sl, (hs.2 b (Nat.ne_of_lt (Nat.lt_of_lt_of_le (Heap.lt_size e) (I.ok.cab x c hfn hc)))).trans e1⟩
    · obtain ⟨o', e1⟩ := I.base.there b o e hx
      exact ⟨o', (hs.2 b (Nat.ne_of_lt (Nat.lt_of_lt_of_le (Heap.lt_size e) (I.ok.cab x c hfn hc)))).trans e1⟩
    · by_cases hj : j = i
      · subst hj
        rw [hi] at e1; cases e1
        rw [List.getElem?_set_self hiσ] at e2
        cases e2
        exact ⟨u, r, .inr ⟨.inl hk, c, hc, hc'⟩⟩
      · rw [List.getElem?_set_ne (Ne.symm hj)] at e2
        obtain ⟨u', r', q⟩ := hl j y v' e1 e2 e3
        refine ⟨u', r', ?_⟩
        rcases q with q | ⟨k, c', e, z'⟩
        · exact .inl q
        · refine .inr ⟨k, c', e, z'.sameBut hs ?_⟩
          rintro rfl
          exact hj (nodup_ix hN e1 (I.ok.inj _ _ _ e hc ▸ hi))
    · by_cases hcc : c' = c
      · subst hcc; exact ⟨_, hc'⟩
      · obtain ⟨w2, z2⟩ := I.cell y c' e
        exact ⟨w2, z2.sameBut hs hcc⟩
    · obtain ⟨e, n, ne, nf, d⟩ := I.pin p hp
      refine ⟨(hs.2 p.1 ?_).trans e, n, ne, nf, d⟩
      intro q
      rw [q, hoc] at e
      have q' : oc = p.2 := Option.some.inj e
      exact d w' (by rw [← q']; exact hocd)
theorem store_ok {M : Model} {A : Around} {E : Value → Shared → Prop} {i : Nat} {x : Str} {v : V} {u : Value} {Q : Unit → Shared → Prop} (I : Inv X pins σ H s) (hN : X.N.Nodup) (hi : X.N[i]? = some x) (hx : Loc X.env.scope x) (r : RelV v u)
    (h : ∀ s', Inv X pins (σ.set i (some v)) H s' → Q () s') (hf : X.fn x = true ∨ X.env.scope.names.lookup x = some .local := by first | exact .inl rfl | exact .inr rfl | assumption) : wpAny M A (storeName X.env x u) Q E s :=
  store_ok2 I hN hi hx r (fun s' I' _ => h s' I') hf
/-- behind a call or a block, the state as it is -/
theorem Inv.call' {s' : Shared} {ch : List Addr} (I : Inv X pins σ H s) (ho : s'.os = s.os) (u : Un (frs X.stack) ch H H' s.heap s'.heap) (hok : HOk X.prog X.w H' s'.heap) (hg : AllBare s'.gens)
    (hch : ∀ b ∈ ch, (b ∈ X.ex ∨ X.s₀.heap.objs.size ≤ b) ∧ b ≠ X.env.locals ∧ (∀ x c, X.env.cells.lookup x = some c → c ≠ b) ∧ ∀ p ∈ X.pn ++ pins, p.1 ≠ b) : Inv X pins σ H' s' := by
  obtain ⟨h', g', d', t', o'⟩ := s'
  have e : o' = s.os := ho
  subst e
  exact I.call (g' := g') (t' := t') (d' := d') u hok hg hch
end

/-! ### the judgements -/
/-- an exception: its class, its own dict's address (where it has one), the abstract heap behind it -/
noncomputable abbrev XK := Value → Option Addr → Hp → Prop
noncomputable abbrev St := List (Option V)
noncomputable abbrev VK := V → Hp → Prop
/-- an expression's reading; a test's; an argument list's -/
noncomputable abbrev TE := St → Hp → VK → Prop
noncomputable abbrev TT := St → Hp → (Bool → Hp → Prop) → Prop
noncomputable abbrev TA := St → Hp → (List V → Hp → Prop) → Prop
/-- what is wanted behind a statement -/
structure Ends where
  nx : St → Hp → Prop
  rt : VK
  bk : St → Hp → Prop := fun _ _ => False
  ct : St → Hp → Prop := fun _ _ => False
noncomputable abbrev TS := Ends → St → Hp → Prop

noncomputable def EP (X : Cx) (pins : List (Addr × Obj)) (σ : St) (Q : VK) (u : Value) (s' : Shared) : Prop := ∃ v H', Inv X pins σ H' s' ∧ RelV v u ∧ Q v H'
noncomputable def TP (X : Cx) (pins : List (Addr × Obj)) (σ : St) (Q : Bool → Hp → Prop) (b : Bool) (s' : Shared) : Prop := ∃ H', Inv X pins σ H' s' ∧ Q b H'
noncomputable def AP (X : Cx) (pins : List (Addr × Obj)) (σ : St) (Q : List V → Hp → Prop) (us : List Value) (s' : Shared) : Prop := ∃ vs H', Inv X pins σ H' s' ∧ Vals vs us ∧ Q vs H'
noncomputable def SP (X : Cx) (pins : List (Addr × Obj)) (D : Ends) (f : Flow) (s' : Shared) : Prop :=
  match f with
  | .next => ∃ σ' H', Inv X pins σ' H' s' ∧ D.nx σ' H'
  | .brk => ∃ σ' H', Inv X pins σ' H' s' ∧ D.bk σ' H'
  | .cont => ∃ σ' H', Inv X pins σ' H' s' ∧ D.ct σ' H'
  | .ret u => ∃ v σ' H', Inv X pins σ' H' s' ∧ RelV v u ∧ D.rt v H'

noncomputable def PE (X : Cx) (e : Expr) (t : TE) : Prop :=
  ∀ (pins : List (Addr × Obj)) (s : Shared) (σ : St) (H : Hp) (Q : VK), Inv X pins σ H s → t σ H Q → wpAny (model X.prog X.w) X.A (eval e X.env) (EP X pins σ Q) X.xe s
noncomputable def PT (X : Cx) (e : Expr) (t : TT) : Prop :=
  ∀ (pins : List (Addr × Obj)) (s : Shared) (σ : St) (H : Hp) (Q : Bool → Hp → Prop), Inv X pins σ H s → t σ H Q → wpAny (model X.prog X.w) X.A (isTrue e X.env (eval e X.env)) (TP X pins σ Q) X.xe s
/-- a test whatever its 'whole' is (and, or) -/
noncomputable def PW (X : Cx) (e : Expr) (t : TT) : Prop :=
  ∀ (whole : Sem Value) (pins : List (Addr × Obj)) (s : Shared) (σ : St) (H : Hp) (Q : Bool → Hp → Prop), Inv X pins σ H s → t σ H Q → wpAny (model X.prog X.w) X.A (isTrue e X.env whole) (TP X pins σ Q) X.xe s
theorem PW.pt {X : Cx} {e : Expr} {t : TT} (h : PW X e t) : PT X e t := h _
/-- an argument list (no star), from the left -/
noncomputable def PA (X : Cx) (es : List Expr) (t : TA) : Prop :=
  ∀ (pos : Pos) (pins : List (Addr × Obj)) (s : Shared) (σ : St) (H : Hp) (Q : List V → Hp → Prop), Inv X pins σ H s → t σ H Q → wpAny (model X.prog X.w) X.A (spliced (backTo pos (starEach es X.env))) (AP X pins σ Q) X.xe s
noncomputable def PS (X : Cx) (st : Stmt) (t : TS) : Prop :=
  ∀ (pins : List (Addr × Obj)) (s : Shared) (σ : St) (H : Hp) (D : Ends), Inv X pins σ H s → t D σ H → wpAny (model X.prog X.w) X.A (exec st X.env) (SP X pins D) X.xe s
noncomputable def PSs (X : Cx) (st : List Stmt) (t : TS) : Prop :=
  ∀ (pins : List (Addr × Obj)) (s : Shared) (σ : St) (H : Hp) (D : Ends), Inv X pins σ H s → t D σ H → wpAny (model X.prog X.w) X.A (execs st X.env) (SP X pins D) X.xe s
/-- weaken the end -/
theorem thn {α : Type} {t : Sem α} {Q Q' : α → Shared → Prop} {M : Model} {A : Around} {E : Value → Shared → Prop} {s : Shared} (h : wpAny M A t Q E s) (hQ : ∀ a s, Q a s → Q' a s) : wpAny M A t Q' E s := wpAny_mono h hQ fun _ _ x => x
end L2

namespace L2
open PySem PySem.Spec PyProof.Rows
section
variable {X : Cx}

/-! ### names and constants -/
noncomputable def tVar (i : Nat) : TE := fun σ H Q => ∃ v, σ[i]? = some (some v) ∧ Q v H
noncomputable def tC (v : V) : TE := fun _ H Q => Q v H
theorem pe_var {i : Nat} {x : Str} {pos : Pos} (hN : X.N[i]? = some x) (hv : Vis X.env.scope x) (hd : (x == ("__debug__" : Str)) = false := by decide) (hcd : (x == ("__classdict__" : Str)) = false := by decide) : PE X (.Name x pos) (tVar i) := by
  intro pins s σ H Q I h
  obtain ⟨v, e, h⟩ := h
  obtain ⟨m, hn, hl⟩ := I.loc
  obtain ⟨u, r, l⟩ := hl i x v hN e hv
  have fin : EP X pins σ Q u s := ⟨v, H, I, r, h⟩
  rcases l with ⟨hk, hm⟩ | ⟨hk, c, hc, hcell⟩
  · exact wpAny_Name (wpAny_loadName_local I.ok.kind hk hn hm fin) hd
  · rcases hk with hk | hk
    · exact wpAny_Name (wpAny_loadName_cell I.ok.kind hk hc hcell fin) hd
    · exact wpAny_Name (wpAny_loadName_free I.ok.kind hk hc hcell fin hcd) hd
theorem pe_int {i j pos} : PE X (.Constant (.int i) j pos) (tC (.int i)) := fun _ _ _ H _ I h => wpAny_Constant_int ⟨.int i, H, I.tok _, ⟨_, rfl⟩, h⟩
theorem pe_bl {b j pos} : PE X (.Constant (.bool b) j pos) (tC (.bl b)) := fun _ _ _ H _ I h => Constant_bool ⟨.bl b, H, I, rfl, h⟩
theorem pe_non {j pos} : PE X (.Constant .none j pos) (tC .non) := fun _ _ _ H _ I h => Constant_none ⟨.non, H, I, rfl, h⟩
theorem pe_str {x j pos} : PE X (.Constant (.str x) j pos) (tC (.str x)) := fun _ _ _ H _ I h => Calls.Constant_str ⟨.str x, H, I.tok _, ⟨_, rfl⟩, h⟩

/-- a global name of the def -/
noncomputable def Gl (X : Cx) (x : Str) : Prop := X.env.kindOf x = some .globalImplicit
theorem ld_glob {E : Value → Shared → Prop} {pins : List (Addr × Obj)} {s : Shared} {σ : St} {H : Hp} {x : Str} {u : Value} {pos : Pos} {Q : Value → Shared → Prop} (I : Inv X pins σ H s) (hg : Gl X x) (hm : X.mg x = some u) (h : Q u s)
    (hd : (x == ("__debug__" : Str)) = false := by decide) : wpAny (model X.prog X.w) X.A (eval (.Name x pos) X.env) Q E s :=
  Calls.Name_function_global I.ok.kind hg (Calls.loadGlobal_global (by rw [I.ok.glob]; exact I.mod.glob.keeps I.bk) hm h) hd
theorem ld_blt {E : Value → Shared → Prop} {pins : List (Addr × Obj)} {s : Shared} {σ : St} {H : Hp} {x : Str} {u : Value} {pos : Pos} {Q : Value → Shared → Prop} (I : Inv X pins σ H s) (hg : Gl X x) (hm : X.mg x = none) (hv : bootBuiltins x = some u) (h : Q u s)
    (hn : x ≠ "__name__" := by decide) (hd : (x == ("__debug__" : Str)) = false := by decide) : wpAny (model X.prog X.w) X.A (eval (.Name x pos) X.env) Q E s := by
  obtain ⟨mb, h1, h2⟩ := I.mod.blt
  exact Calls.Name_function_global I.ok.kind hg (Calls.loadGlobal_builtin (by rw [I.ok.glob]; exact I.mod.glob.keeps I.bk) hm (by rw [I.ok.blt]; exact h1.keeps I.bk) ((h2 x hn).trans hv) h) hd
/-- a module's constant, a class, a function, as a value -/
theorem pe_glob {x : Str} {v : V} {u : Value} {pos : Pos} (hg : Gl X x) (hm : X.mg x = some u) (r : RelV v u) (hd : (x == ("__debug__" : Str)) = false := by decide) : PE X (.Name x pos) (tC v) :=
  fun _ _ _ H _ I h => ld_glob I hg hm ⟨v, H, I, r, h⟩ hd
theorem pe_bltn {x : Str} {v : V} {u : Value} {pos : Pos} (hg : Gl X x) (hm : X.mg x = none) (hv : bootBuiltins x = some u) (r : RelV v u) (hn : x ≠ "__name__" := by decide) (hd : (x == ("__debug__" : Str)) = false := by decide) : PE X (.Name x pos) (tC v) :=
  fun _ _ _ H _ I h => ld_blt I hg hm hv ⟨v, H, I, r, h⟩ hn hd

/-! ### arithmetic -/
/-- two ints -/
noncomputable def t2I (ta tb : TE) (k : Int → Int → Hp → Prop) : St → Hp → Prop := fun σ H => ta σ H fun x H1 => tb σ H1 fun y H2 => ∃ i j, x = .int i ∧ y = .int j ∧ k i j H2
noncomputable def tAdd (ta tb : TE) : TE := fun σ H Q => t2I ta tb (fun i j H2 => Q (.int (i + j)) H2) σ H
noncomputable def tSub (ta tb : TE) : TE := fun σ H Q => t2I ta tb (fun i j H2 => Q (.int (i - j)) H2) σ H
/-- the left factor below 2^64 -/
noncomputable def tMul (ta tb : TE) : TE := fun σ H Q => t2I ta tb (fun i j H2 => (-(2 ^ 64) < i ∧ i < 2 ^ 64) ∧ Q (.int (i * j)) H2) σ H
variable {a b : Expr} {ta tb : TE} {pos : Pos}
/-! ### comparisons -/
noncomputable def PC (X : Cx) (op : CmpOp) (a b : Expr) (t : TE) : Prop :=
  ∀ (pins : List (Addr × Obj)) (s : Shared) (σ : St) (H : Hp) (Q : VK), Inv X pins σ H s → t σ H Q →
    wpAny (model X.prog X.w) X.A (eval a X.env) (fun v s₁ => wpAny (model X.prog X.w) X.A (eval b X.env) (fun u s₂ => wpAny (model X.prog X.w) X.A (compareOp op v u) (EP X pins σ Q) X.xe s₂) X.xe s₁) X.xe s
noncomputable def tCmp (p : Int → Int → Bool) (ta tb : TE) : TE := fun σ H Q => t2I ta tb (fun i j H2 => Q (.bl (p i j)) H2) σ H
noncomputable abbrev tLt : TE → TE → TE := tCmp fun i j => decide (i < j)
noncomputable abbrev tLe : TE → TE → TE := tCmp fun i j => decide (i ≤ j)
noncomputable abbrev tGt : TE → TE → TE := tCmp fun i j => decide (j < i)
noncomputable abbrev tGe : TE → TE → TE := tCmp fun i j => decide (j ≤ i)
noncomputable abbrev tEqI : TE → TE → TE := tCmp fun i j => decide (i = j)
noncomputable abbrev tNeI : TE → TE → TE := tCmp fun i j => !decide (i = j)
/-- is None -/
noncomputable def tIsN (ta : TE) : TE := fun σ H Q => ta σ H fun x H1 => Q (.bl (decide (x = .non))) H1
noncomputable def tNotN (ta : TE) : TE := fun σ H Q => ta σ H fun x H1 => Q (.bl (!decide (x = .non))) H1
/-- a comparison as a value, as a test -/
noncomputable def tB (t : TE) : TT := fun σ H Q => t σ H fun x H1 => ∃ c, x = .bl c ∧ Q c H1
/-- an expression whose value is a bool, as a test -/
theorem pt_val {e : Expr} {t : TE} (h : PE X e t) (he : ∀ whole, isTrue e X.env whole = (do let v ← whole; standAt e.pos; holding [v] (truthy v)) := by intro _; rfl) : PT X e (tB t) := by
  intro pins s σ H Q I hw
  refine isTrue_plain (thn (h pins s σ H _ I hw) fun v s1 hh7 => ?_) (he _)
  obtain ⟨x, H1, I1, r1, q1⟩ := hh7
  obtain ⟨d, rfl, q⟩ := q1
  cases r1
  exact wpAny_truthy_bool ⟨H1, I1, q⟩

/-! ### and, or, not -/
variable {tA tB' : TT} {rest : List Expr}
noncomputable def tAnd (t u : TT) : TT := fun σ H Q => t σ H fun c H1 => if c = true then u σ H1 Q else Q false H1
noncomputable def tOr (t u : TT) : TT := fun σ H Q => t σ H fun c H1 => if c = true then Q true H1 else u σ H1 Q
noncomputable def tNot (t : TT) : TT := fun σ H Q => t σ H fun c H1 => Q (!c) H1
theorem pw_and1 (ha : PT X a tA) : PW X (.BoolOp .And [a] pos) tA := by
  intro wh pins s σ H Q I h
  refine isTrue_and (thn (ha pins s σ H Q I h) fun c s1 e => ?_)
  cases c with
  | true => exact isTrue_and_nil e
  | false => exact e
theorem pw_or1 (ha : PT X a tA) : PW X (.BoolOp .Or [a] pos) tA := by
  intro wh pins s σ H Q I h
  refine isTrue_or (thn (ha pins s σ H Q I h) fun c s1 e => ?_)
  cases c with
  | false => exact isTrue_or_nil e
  | true => exact e
theorem pw_and (ha : PT X a tA) (hb : PW X (.BoolOp .And (b :: rest) pos) tB') : PW X (.BoolOp .And (a :: b :: rest) pos) (tAnd tA tB') := by
  intro wh pins s σ H Q I h
  refine isTrue_and (thn (ha pins s σ H _ I h) fun c s1 hh8 => ?_)
  obtain ⟨H1, I1, q1⟩ := hh8
  cases c with
  | true => exact hb wh pins s1 σ H1 Q I1 q1
  | false => exact ⟨H1, I1, q1⟩
theorem pw_or (ha : PT X a tA) (hb : PW X (.BoolOp .Or (b :: rest) pos) tB') : PW X (.BoolOp .Or (a :: b :: rest) pos) (tOr tA tB') := by
  intro wh pins s σ H Q I h
  refine isTrue_or (thn (ha pins s σ H _ I h) fun c s1 hh9 => ?_)
  obtain ⟨H1, I1, q1⟩ := hh9
  cases c with
  | true => exact ⟨H1, I1, q1⟩
  | false => exact hb wh pins s1 σ H1 Q I1 q1
theorem pt_not (ha : PT X a tA) : PT X (.UnaryOp .Not a pos) (tNot tA) := by
  intro pins s σ H Q I h
  exact isTrue_not (ha pins s σ H (fun c H1 => Q (!c) H1) I h)
/-- .. as values (bools) -/
noncomputable def tAndV (ta tb : TE) : TE := fun σ H Q => ta σ H fun x H1 => ∃ c, x = .bl c ∧ if c = true then tb σ H1 Q else Q (.bl false) H1
noncomputable def tOrV (ta tb : TE) : TE := fun σ H Q => ta σ H fun x H1 => ∃ c, x = .bl c ∧ if c = true then Q (.bl true) H1 else tb σ H1 Q
noncomputable def tNotV (ta : TE) : TE := fun σ H Q => ta σ H fun x H1 => ∃ c, x = .bl c ∧ Q (.bl (!c)) H1
theorem pe_one {op} {t : TE} (h : PE X a t) : PE X (.BoolOp op [a] pos) t := fun pins s σ H Q I hw => BoolOp_one (h pins s σ H Q I hw)
theorem pe_and (ha : PE X a ta) (hb : PE X (.BoolOp .And (b :: rest) pos) tb) : PE X (.BoolOp .And (a :: b :: rest) pos) (tAndV ta tb) := by
  intro pins s σ H Q I h
  refine BoolOp_and (thn (ha pins s σ H _ I h) fun v s1 hh10 => ?_)
  obtain ⟨x, H1, I1, r1, q1⟩ := hh10
  obtain ⟨c, rfl, q1⟩ := q1
  cases r1
  refine wpAny_truthy_bool ?_
  cases c with
  | true => exact hb pins s1 σ H1 Q I1 q1
  | false => exact ⟨.bl false, H1, I1, rfl, q1⟩
theorem pe_or (ha : PE X a ta) (hb : PE X (.BoolOp .Or (b :: rest) pos) tb) : PE X (.BoolOp .Or (a :: b :: rest) pos) (tOrV ta tb) := by
  intro pins s σ H Q I h
  refine BoolOp_or (thn (ha pins s σ H _ I h) fun v s1 hh11 => ?_)
  obtain ⟨x, H1, I1, r1, q1⟩ := hh11
  obtain ⟨c, rfl, q1⟩ := q1
  cases r1
  refine wpAny_truthy_bool ?_
  cases c with
  | false => exact hb pins s1 σ H1 Q I1 q1
  | true => exact ⟨.bl true, H1, I1, rfl, q1⟩
theorem pe_not (ha : PE X a ta) : PE X (.UnaryOp .Not a pos) (tNotV ta) := by
  intro pins s σ H Q I h
  refine UnaryOp_ (thn (ha pins s σ H _ I h) fun v s1 hh12 => ?_)
  obtain ⟨x, H1, I1, r1, q1⟩ := hh12
  obtain ⟨c, rfl, q1⟩ := q1
  cases r1
  exact not_of (wpAny_truthy_bool ⟨.bl (!c), H1, I1, rfl, q1⟩)
/-- a if t else b -/
noncomputable def tIf (t : TT) (ta tb : TE) : TE := fun σ H Q => t σ H fun c H1 => if c = true then ta σ H1 Q else tb σ H1 Q
theorem pe_ifExp {c : Expr} (hc : PT X c tA) (ha : PE X a ta) (hb : PE X b tb) : PE X (.IfExp c a b pos) (tIf tA ta tb) := by
  intro pins s σ H Q I h
  refine wpAny_IfExp (thn (hc pins s σ H _ I h) fun d s1 hh13 => ?_)
  obtain ⟨H1, I1, q1⟩ := hh13
  cases d with
  | true => exact ha pins s1 σ H1 Q I1 q1
  | false => exact hb pins s1 σ H1 Q I1 q1
end
end L2

namespace L2
open PySem PySem.Spec PyProof.Rows

/-! ### a list, a tuple that is read: tracked, frozen, or an object of the module -/
noncomputable def SqL (K : PySem.W.Frag) (H : Hp) (a : Addr) (xs : List V) : Prop :=
  Rd H a (.lst xs) ∨
    ∃ (o : Obj) (its : Array Value) (n : Nat), K.lookup a = some o ∧ o.cls = .type "list" ∧ o.dict = none ∧ o.data = .seq its n ∧ its.size ≤ sizeLine ∧ Vals xs its.toList
noncomputable def SqT (K : PySem.W.Frag) (H : Hp) (a : Addr) (xs : List V) : Prop :=
  Rd H a (.tup xs) ∨
    ∃ (o : Obj) (its : Array Value) (n : Nat), K.lookup a = some o ∧ o.cls = .type "tuple" ∧ o.data = .seq its n ∧ its.size ≤ sizeLine ∧ Vals xs its.toList
noncomputable def absV : Value → Option V
  | .none => some .non
  | .bool b => some (.bl b)
  | .int i _ => some (.int i)
  | .str x _ => some (.str x)
  | .bytes b _ => some (.byt b)
  | .float b _ => some (.flt b)
  | .ref a => some (.ref a)
  | .type n => some (.ty n)
  | _ => none
theorem RelV.abs {x : V} {u : Value} (r : RelV x u) : absV u = some x := by
  cases x with
  | non => cases r; rfl
  | bl _ => cases r; rfl
  | int _ => obtain ⟨t, rfl⟩ := r; rfl
  | str _ => obtain ⟨t, rfl⟩ := r; rfl
  | byt _ => obtain ⟨t, rfl⟩ := r; rfl
  | flt _ => obtain ⟨t, rfl⟩ := r; rfl
  | ref _ => cases r; rfl
  | ty _ => cases r; rfl
theorem RelV.inj {x y : V} {u : Value} (r : RelV x u) (q : RelV y u) : x = y := Option.some.inj (r.abs.symm.trans q.abs)
theorem Vals.inj : ∀ {xs ys : List V} {us : List Value}, Vals xs us → Vals ys us → xs = ys
 := by
  intro xs ys us h
  induction h generalizing ys with
  | nil => intro q; cases q; rfl
  | cons r t ih => intro q; cases q with | cons r' t' => rw [r.inj r', ih t']
section
variable {X : Cx} {pins : List (Addr × Obj)} {σ : St} {H : Hp} {s : Shared} {a : Addr} {xs ys : List V}
theorem SqL.of {K : PySem.W.Frag} (h : H a = some (.lst xs)) : SqL K H a xs := .inl (.inl h)
theorem SqT.of {K : PySem.W.Frag} (h : H a = some (.tup xs)) : SqT K H a xs := .inl (.inl h)
theorem Inv.list (I : Inv X pins σ H s) (h : SqL X.K H a xs) : ∃ its : List Value, Vals xs its ∧ PlainL s.heap a its.toArray ∧ xs.length ≤ sizeLine := by
  rcases h with h | ⟨o, its, n, hk, hc, hd, hs, hz, r⟩
  · obtain ⟨z, its, n, r, e⟩ := h.ok I.hok
    exact ⟨its, r, ⟨_, n, e, rfl, rfl, rfl⟩, z⟩
  · refine ⟨its.toList, r, ⟨o, n, I.kIn a o hk, hc, hd, by simpa using hs⟩, ?_⟩
    have e := r.length
    simp only [Array.length_toList] at e
    (first | lia | omega)
theorem Inv.tuple (I : Inv X pins σ H s) (h : SqT X.K H a xs) : ∃ its : List Value, Vals xs its ∧ IsTup s.heap a its.toArray ∧ xs.length ≤ sizeLine := by
  rcases h with h | ⟨o, its, n, hk, hc, hs, hz, r⟩
  · obtain ⟨z, its, r, p⟩ := h.ok I.hok
    exact ⟨its, r, p, z⟩
  · refine ⟨its.toList, r, ⟨o, I.kIn a o hk, hc, n, by simpa using hs⟩, ?_⟩
    have e := r.length
    simp only [Array.length_toList] at e
    (first | lia | omega)
theorem Inv.list_inj (I : Inv X pins σ H s) (h : SqL X.K H a xs) (h' : SqL X.K H a ys) : xs = ys := by
  obtain ⟨its, r, ⟨o, n, e, _, _, d⟩, _⟩ := I.list h
  obtain ⟨its', r', ⟨o', n', e', _, _, d'⟩, _⟩ := I.list h'
  rw [e] at e'; cases e'
  rw [d] at d'
  injection d' with d1 _
  have : its = its' := by simpa using congrArg Array.toList d1
  subst this
  exact r.inj r'
theorem Inv.tuple_inj (I : Inv X pins σ H s) (h : SqT X.K H a xs) (h' : SqT X.K H a ys) : xs = ys := by
  obtain ⟨its, r, ⟨o, e, _, n, d⟩, _⟩ := I.tuple h
  obtain ⟨its', r', ⟨o', e', _, n', d'⟩, _⟩ := I.tuple h'
  rw [e] at e'; cases e'
  rw [d] at d'
  injection d' with d1 _
  have : its = its' := by simpa using congrArg Array.toList d1
  subst this
  exact r.inj r'
end

/-! ### another wish about exceptions -/
noncomputable abbrev Cx.wish (X : Cx) (E : Value → Shared → Prop) : Cx := { X with xe := E }
/-- no exception leaves -/
noncomputable abbrev Cx.nox (X : Cx) : Cx := X.wish fun _ _ => False
theorem Cx.Ok.wish {X : Cx} (ok : X.Ok) (E : Value → Shared → Prop) : (X.wish E).Ok :=
  ⟨ok.mod, ok.kind, ok.glob, ok.blt, ok.above, ok.inj, ok.has, ok.cab, ok.hd, ok.frames, ok.stk, ok.exf, ok.bs, ok.bsz, ok.noex, ok.exfs, ok.funs, ok.frf, ok.hs⟩
theorem Cx.Ok.unwish {X : Cx} {E : Value → Shared → Prop} (ok : (X.wish E).Ok) : X.Ok :=
  ⟨ok.mod, ok.kind, ok.glob, ok.blt, ok.above, ok.inj, ok.has, ok.cab, ok.hd, ok.frames, ok.stk, ok.exf, ok.bs, ok.bsz, ok.noex, ok.exfs, ok.funs, ok.frf, ok.hs⟩
section
variable {X : Cx} {pins : List (Addr × Obj)} {σ : St} {H : Hp} {s : Shared} {E : Value → Shared → Prop}
theorem Inv.wish (I : Inv X pins σ H s) (E : Value → Shared → Prop) : Inv (X.wish E) pins σ H s := ⟨I.ok.wish E, I.os, I.bare, I.base, I.loc, I.cell, I.free, I.freeC, I.pin, I.hok, I.len⟩
theorem Inv.unwish (I : Inv (X.wish E) pins σ H s) : Inv X pins σ H s := ⟨I.ok.unwish, I.os, I.bare, I.base, I.loc, I.cell, I.free, I.freeC, I.pin, I.hok, I.len⟩
theorem SP.unwish {D : Ends} {f : Flow} {s' : Shared} (h : SP (X.wish E) pins D f s') : SP X pins D f s' := by
  cases f with
  | next => obtain ⟨σ', H', I, q⟩ := h; exact ⟨σ', H', I.unwish, q⟩
  | brk => obtain ⟨σ', H', I, q⟩ := h; exact ⟨σ', H', I.unwish, q⟩
  | cont => obtain ⟨σ', H', I, q⟩ := h; exact ⟨σ', H', I.unwish, q⟩
  | ret u => obtain ⟨v, σ', H', I, r, q⟩ := h; exact ⟨v, σ', H', I.unwish, r, q⟩
theorem PSs.nox {st : List Stmt} {t : TS} (h : PSs X.nox st t) : PSs X st t := fun pins s σ H D I hw =>
  wpAny_mono (h pins s σ H D (I.wish _) hw) (fun _ _ q => q.unwish) fun _ _ z => False.elim z
end

/-! ### blocks and small statements -/
section
variable {X : Cx} {st : Stmt} {rest : List Stmt} {t u : TS} {e : Expr} {te : TE} {pos : Pos}
noncomputable def tNext : TS := fun D σ H => D.nx σ H
noncomputable def tSeq (t u : TS) : TS := fun D σ H => t { D with nx := u D } σ H
theorem pss_nil : PSs X [] tNext := fun _ _ σ H _ I h => wpAny_execs_nil ⟨σ, H, I, h⟩
theorem pss_cons (h1 : PS X st t) (h2 : PSs X rest u) : PSs X (st :: rest) (tSeq t u) := by
  intro pins s σ H D I h
  refine wpAny_execs_cons (thn (h1 pins s σ H { D with nx := u D } I h) fun f s1 q => ?_)
  cases f with
  | next =>
    obtain ⟨σ', H', I', q⟩ := q
    exact h2 pins s1 σ' H' D I' q
  | ret v => exact q
  | brk => exact q
  | cont => exact q
theorem pss_one (h1 : PS X st t) : PSs X [st] t := by
  intro pins s σ H D I h
  refine wpAny_execs_cons (thn (h1 pins s σ H D I h) fun f s1 q => ?_)
  cases f with
  | next => exact wpAny_execs_nil q
  | ret v => exact q
  | brk => exact q
  | cont => exact q
noncomputable def tBreak : TS := fun D σ H => D.bk σ H
noncomputable def tCont : TS := fun D σ H => D.ct σ H
/-- in a def's body nothing is shown -/
theorem Inv.quiet {pins : List (Addr × Obj)} {σ : St} {H : Hp} {s : Shared} (I : Inv X pins σ H s) : interactive X.env = false := by simp [interactive, I.ok.kind]
/-- an expression whose value is dropped -/
noncomputable def tDrop (te : TE) : TS := fun D σ H => te σ H fun _ H1 => D.nx σ H1
theorem ps_expr (he : PE X e te) (hs : swapsWith e none pos.line X.env = pure false := by rfl) : PS X (.Expr e pos) (tDrop te) := by
  intro pins s σ H D I h
  exact wpAny_Expr_any (thn (he pins s σ H _ I h) fun v s1 hh16 => (by obtain ⟨x, H1, I1, r1, q1⟩ := hh16; exact ⟨σ, H1, I1, q1⟩)) I.quiet hs
noncomputable def tRet (te : TE) : TS := fun D σ H => te σ H D.rt
theorem ps_ret (he : PE X e te) : PS X (.Return (some e) pos) (tRet te) := by
  intro pins s σ H D I h
  exact wpAny_Return_some (thn (he pins s σ H _ I h) fun v s1 hh17 => (by obtain ⟨x, H1, I1, r1, q1⟩ := hh17; exact ⟨x, σ, H1, I1, r1, q1⟩))
noncomputable def tRetN : TS := fun D _ H => D.rt .non H
noncomputable def tIfS (c : TT) (t u : TS) : TS := fun D σ H => c σ H fun b H1 => if b = true then t D σ H1 else u D σ H1
theorem ps_if {c : Expr} {a b : List Stmt} {tc : TT} (hc : PT X c tc) (ha : PSs X a t) (hb : PSs X b u) : PS X (.If c a b pos) (tIfS tc t u) := by
  intro pins s σ H D I h
  refine wpAny_If (thn (hc pins s σ H _ I h) fun d s1 hh18 => ?_)
  obtain ⟨H1, I1, q1⟩ := hh18
  cases d with
  | true => exact ha pins s1 σ H1 D I1 q1
  | false => exact hb pins s1 σ H1 D I1 q1
/-- code that the proof never comes to -/
noncomputable def tNever : TS := fun _ _ _ => False
theorem pss_never {sts : List Stmt} : PSs X sts tNever := fun _ _ _ _ _ _ h => h.elim
end

/-! ### targets -/
noncomputable abbrev TG := V → St → Hp → (St → Hp → Prop) → Prop
noncomputable abbrev TGs := List V → St → Hp → (St → Hp → Prop) → Prop
noncomputable def PG (X : Cx) (target : Expr) (t : TG) : Prop :=
  ∀ (pins : List (Addr × Obj)) (s : Shared) (σ : St) (H : Hp) (v : V) (u : Value) (Q : St → Hp → Prop), Inv X pins σ H s → RelV v u → t v σ H Q →
    wpAny (model X.prog X.w) X.A (assign target X.env u) (fun _ s' => ∃ σ' H', Inv X pins σ' H' s' ∧ Q σ' H') X.xe s
/-- several targets, one after another -/
noncomputable def PGs (X : Cx) (ts : List Expr) (t : TGs) : Prop :=
  ∀ (pins : List (Addr × Obj)) (s : Shared) (σ : St) (H : Hp) (vs : List V) (us : List Value) (Q : St → Hp → Prop), Inv X pins σ H s → Vals vs us → t vs σ H Q →
    wpAny (model X.prog X.w) X.A (assignInOrder ((assignEach ts X.env).map (·.2)) us) (fun _ s' => ∃ σ' H', Inv X pins σ' H' s' ∧ Q σ' H') X.xe s
/-- o[i] = v, by values -/
noncomputable abbrev TSet := V → V → V → Hp → (Hp → Prop) → Prop
noncomputable def PSet (X : Cx) (t : TSet) : Prop :=
  ∀ (pins : List (Addr × Obj)) (s : Shared) (σ : St) (H : Hp) (o i v : V) (ov iv u : Value) (Q : Hp → Prop), Inv X pins σ H s → RelV o ov → RelV i iv → RelV v u → t o i v H Q →
    wpAny (model X.prog X.w) X.A (setItem ov iv u) (fun _ s' => ∃ H', Inv X pins σ H' s' ∧ Q H') X.xe s
/-- a op= b, by values -/
noncomputable abbrev TIp := V → V → Hp → VK → Prop
noncomputable def PIp (X : Cx) (op : Operator) (t : TIp) : Prop :=
  ∀ (pins : List (Addr × Obj)) (s : Shared) (σ : St) (H : Hp) (x y : V) (v u : Value) (Q : VK), Inv X pins σ H s → RelV x v → RelV y u → t x y H Q →
    wpAny (model X.prog X.w) X.A (inplaceOp op v u) (EP X pins σ Q) X.xe s
section
variable {X : Cx} {pos : Pos}
noncomputable def gName (i : Nat) : TG := fun v σ H Q => Q (σ.set i (some v)) H
theorem pg_name {i : Nat} {x : Str} (hN : X.N.Nodup) (hi : X.N[i]? = some x) (hx : Loc X.env.scope x) (hf : X.fn x = true ∨ X.env.scope.names.lookup x = some .local := by first | exact .inl rfl | exact .inr rfl | assumption) : PG X (.Name x pos) (gName i) := by
  intro pins s σ H v u Q I r h
  exact wpAny_assign_Name (store_ok I hN hi hx r (fun s' I' => ⟨_, H, I', h⟩) hf)
noncomputable def gNil : TGs := fun vs σ H Q => vs = [] ∧ Q σ H
noncomputable def gCons (t : TG) (u : TGs) : TGs := fun vs σ H Q => ∃ v r, vs = v :: r ∧ t v σ H fun σ' H' => u r σ' H' Q
theorem pgs_nil : PGs X [] gNil := by
  intro pins s σ H vs us Q I r h
  obtain ⟨e, h⟩ := h
  subst e
  cases r
  exact assignInOrder_nil ⟨σ, H, I, h⟩
theorem pgs_cons {e : Expr} {es : List Expr} {t : TG} {u : TGs} (h1 : PG X e t) (h2 : PGs X es u)
    (hs : (assignEach (e :: es) X.env).map (·.2) = assign e X.env :: (assignEach es X.env).map (·.2) := by rfl) : PGs X (e :: es) (gCons t u) := by
  intro pins s σ H vs us Q I r h
  obtain ⟨v, vr, e1, h⟩ := h
  subst e1
  cases r with
  | cons r rr =>
    rw [hs]
    refine assignInOrder_cons (thn (h1 pins s σ H _ _ _ I r h) fun _ s1 hh19 => ?_)
    obtain ⟨σ1, H1, I1, q1⟩ := hh19
    exact h2 pins s1 σ1 H1 _ _ Q I1 rr q1
/-- (a, b, ..) = a tuple of that length -/
noncomputable def gTup (K : PySem.W.Frag) (n : Nat) (t : TGs) : TG := fun v σ H Q => ∃ a xs, v = .ref a ∧ SqT K H a xs ∧ xs.length = n ∧ t xs σ H Q
theorem pg_tup {es : List Expr} {k : Nat} {t : TGs} {n : Nat} (hc : X.calm = true) (h : PGs X es t)
    (hn : (assignEach es X.env).length = n := by rfl) (hst : (assignEach es X.env).findIdx? (·.1) = none := by rfl) : PG X (.Tuple es k pos) (gTup X.K n t) := by
  intro pins s σ H v u Q I r hw
  obtain ⟨a, xs, e1, hq, hl, hw⟩ := hw
  subst e1
  cases r
  obtain ⟨its, rv, ht, hz⟩ := I.tuple hq
  refine assign_Tuple_tuple (I.ok.hd hc) ht (by simp [hn, ← hl, rv.length]) hst fun h' hx => ?_
  have I1 : Inv X pins σ H { s with heap := h' } := I.kept (t' := s.toks) fun b o e => hx b o (Nat.ne_of_lt (Heap.lt_size e)) e
  exact h pins _ σ H xs _ Q I1 (by simpa using rv) hw
/-- o[i] = .. -/
noncomputable def gSub (to ti : TE) (t : TSet) : TG := fun v σ H Q => to σ H fun o H1 => ti σ H1 fun i H2 => t o i v H2 fun H3 => Q σ H3
theorem pg_sub {o i : Expr} {to ti : TE} {t : TSet} (ho : PE X o to) (hi : PE X i ti) (hs : PSet X t)
    (ha : ∀ v, assign (.Subscript o i pos) X.env v = (do
      let ov ← holding [v] (eval o X.env)
      let iv ← holding [v, ov] (eval i X.env)
      standAt pos
      holding [v, ov, iv] (setItem ov iv v)
      release [v, ov, iv] []) := by intro _; rfl) : PG X (.Subscript o i pos) (gSub to ti t) := by
  intro pins s σ H v u Q I r h
  rw [ha]
  refine wpAny_bind (wpAny_holding (thn (ho pins s σ H _ I h) fun ov s1 hh20 => ?_))
  obtain ⟨x, H1, I1, r1, q1⟩ := hh20
  refine wpAny_bind (wpAny_holding (thn (hi pins s1 σ H1 _ I1 q1) fun iv s2 hh21 => ?_))
  obtain ⟨y, H2, I2, r2, q2⟩ := hh21
  refine wpAny_bind (wpAny_standAt (wpAny_bind (wpAny_holding (thn (hs pins s2 σ H2 x y v ov iv u _ I2 r1 r2 r q2) fun _ s3 hh22 => ?_))))
  obtain ⟨H3, I3, q3⟩ := hh22
  exact wpAny_release ⟨σ, H3, I3, q3⟩
/-- target = value -/
noncomputable def tAsg (te : TE) (g : TG) : TS := fun D σ H => te σ H fun x H1 => g x σ H1 D.nx
theorem ps_asg {tg e : Expr} {te : TE} {g : TG} (he : PE X e te) (hg : PG X tg g) (hs : swapsWithSole [tg] e pos.line X.env = pure false := by rfl) (hw : swappedStores [tg] e X.env = pure none := by rfl)
    (h1 : (assignEach [tg] X.env).map (·.2) = [assign tg X.env] := by rfl) : PS X (.Assign [tg] e pos) (tAsg te g) := by
  intro pins s σ H D I h
  refine wpAny_Assign_stores (thn (he pins s σ H _ I h) fun v s1 hh23 => ?_) hs hw
  obtain ⟨x, H1, I1, r1, q1⟩ := hh23
  rw [h1]
  exact thn (hg pins s1 σ H1 x v _ I1 r1 q1) fun _ s2 q => q
/-- name = value -/
theorem ps_set {i : Nat} {x : Str} {e : Expr} {te : TE} {pos' : Pos} (hN : X.N.Nodup) (hi : X.N[i]? = some x) (hx : Loc X.env.scope x) (he : PE X e te) (hs : swapsWith e (some (.Name x pos')) pos.line X.env = pure false := by rfl) (hf : X.fn x = true ∨ X.env.scope.names.lookup x = some .local := by first | exact .inl rfl | exact .inr rfl | assumption) :
    PS X (.Assign [.Name x pos'] e pos) (tAsg te (gName i)) := by
  intro pins s σ H D I h
  refine wpAny_Assign_Name (thn (he pins s σ H _ I h) fun v s1 hh24 => ?_) hs
  obtain ⟨y, H1, I1, r1, q1⟩ := hh24
  exact store_ok I1 hN hi hx r1 (fun s2 I2 => ⟨_, H1, I2, q1⟩) hf
/-- a, b = x, y with plain local names: stored from the right; the pair itself is not tracked (the opening rows as in PyProof/Rows/TupAssign.lean:23) -/
noncomputable def tPar (i j : Nat) (ta : TA) : TS := fun D σ H => ta σ H fun vs H1 => ∃ v w, vs = [v, w] ∧ D.nx ((σ.set i (some v)).set j (some w)) H1
/-- name op= e -/
noncomputable def tAug (i : Nat) (te : TE) (ti : TIp) : TS := fun D σ H => ∃ x, σ[i]? = some (some x) ∧ te σ H fun y H1 => ti x y H1 fun z H2 => D.nx (σ.set i (some z)) H2
/-- o[i] op= e -/
noncomputable def tAugS (to ti te : TE) (tget : V → V → Hp → VK → Prop) (tip : TIp) (tset : TSet) : TS := fun D σ H => to σ H fun o H1 => ti σ H1 fun i H2 => tget o i H2 fun x H3 => te σ H3 fun y H4 => tip x y H4 fun z H5 => tset o i z H5 fun H6 => D.nx σ H6
/-- o[i], by values -/
noncomputable def PGet (X : Cx) (t : V → V → Hp → VK → Prop) : Prop :=
  ∀ (pins : List (Addr × Obj)) (s : Shared) (σ : St) (H : Hp) (o i : V) (ov iv : Value) (Q : VK), Inv X pins σ H s → RelV o ov → RelV i iv → t o i H Q →
    wpAny (model X.prog X.w) X.A (getItem ov iv) (EP X pins σ Q) X.xe s
/-- ints -/
noncomputable def ipI (f : Int → Int → Int) : TIp := fun x y H Q => ∃ i j, x = .int i ∧ y = .int j ∧ Q (.int (f i j)) H
end

/-! ### while -/
section
variable {X : Cx} {pos : Pos}
/-- the invariant W with its measure -/
noncomputable def tWhile (c : TT) (tb : TS) : TS := fun D σ H => ∃ W : Nat → St → Hp → Prop, (∃ m, W m σ H) ∧ ∀ m σ H, W m σ H →
  c σ H fun b H1 => if b = true then ∃ N : St → Hp → Prop, (∀ σ' H', N σ' H' → ∃ m', m' < m ∧ W m' σ' H') ∧ tb { D with nx := N, ct := N, bk := D.nx } σ H1 else D.nx σ H1
theorem ps_while {c : Expr} {body : List Stmt} {tc : TT} {tb : TS} (hp : PassesOwn (model X.prog X.w) X.A X.env X.xe) (hc : PT X c tc) (hb : PSs X body tb) : PS X (.While c body [] pos) (tWhile tc tb) := by
  intro pins s σ H D I h
  obtain ⟨W, ⟨m0, w0⟩, turn⟩ := h
  refine wpAny_While (codeAny_whileLoop (fun n s' => ∃ σ' H', Inv X pins σ' H' s' ∧ W n σ' H') ?_ m0 ⟨σ, H, I, w0⟩)
  rintro n s1 ⟨σ1, H1, I1, w1⟩
  refine wpAny_passesOwn hp (thn (hc pins s1 σ1 H1 _ I1 (turn n σ1 H1 w1)) fun b s2 hh34 => ?_)
  obtain ⟨H2, I2, q2⟩ := hh34
  cases b with
  | true =>
    obtain ⟨N, hN, q2⟩ := q2
    rw [if_pos rfl]
    refine wpAny_passesOwn hp (thn (hb pins s2 σ1 H2 _ I2 q2) fun f s3 q3 => ?_)
    cases f with
    | next =>
      obtain ⟨σ3, H3, I3, n3⟩ := q3
      obtain ⟨m', hm, w3⟩ := hN σ3 H3 n3
      exact ⟨m', hm, σ3, H3, I3, w3⟩
    | cont =>
      obtain ⟨σ3, H3, I3, n3⟩ := q3
      obtain ⟨m', hm, w3⟩ := hN σ3 H3 n3
      exact ⟨m', hm, σ3, H3, I3, w3⟩
    | brk => exact q3
    | ret v => exact q3
  | false =>
    rw [if_neg Bool.false_ne_true]
    exact wpAny_execs_nil ⟨σ1, H2, I2, q2⟩
end

/-! ### what a loop or a comprehension walks -/
/-- at turn i: it yields x (the heap may grow), or it stops -/
structure It where
  go : Nat → Hp → Prop
  yld : Nat → Hp → V → Hp → Prop
  stop : Nat → Hp → Prop
  sok : Bool
/-- the iterator's own objects may turn: they are not the frame's, not pinned, younger than the entry (or a comprehension's own) -/
noncomputable def FpOk (X : Cx) (pins : List (Addr × Obj)) (H : Hp) (b : Addr) : Prop :=
  H b = none ∧ b ≠ X.env.locals ∧ b ∉ X.fs ∧ (b ∈ X.ex ∨ X.s₀.heap.objs.size ≤ b) ∧ (∀ x c, X.env.cells.lookup x = some c → c ≠ b) ∧ ∀ p ∈ X.pn ++ pins, p.1 ≠ b
theorem Inv.fpOk {X : Cx} {pins : List (Addr × Obj)} {σ : St} {H H' : Hp} {s : Shared} {b : Addr} (I : Inv X pins σ H s) (hb : s.heap.objs.size ≤ b) (hn : H' b = none) : FpOk X pins H' b := by
  refine ⟨hn, Nat.ne_of_gt (Nat.lt_of_lt_of_le I.lt hb), I.nofs hb, .inr (Nat.le_trans I.sz hb), fun x c e z => ?_, fun p hp z => ?_⟩
  · obtain ⟨v, q⟩ := I.cell x c e
    exact absurd (Nat.lt_of_lt_of_le q.lt (by rw [z]; exact hb)) (Nat.lt_irrefl _)
  · exact absurd (Nat.lt_of_lt_of_le (Heap.lt_size (I.pin p hp).1) (by rw [z]; exact hb)) (Nat.lt_irrefl _)
structure Turn (P : Program) (w : World) (K : PySem.W.Frag) (tg : Expr) (J : It) (fp : List Addr) (it : Addr) (tn : Nat → Heap → Prop) : Prop where
  mem : it ∈ fp
  obj : ∀ i h, tn i h → ∀ b ∈ fp, ∃ o, h.get? b = some o ∧ ∀ v, o.data ≠ .cell v
  keep : ∀ i h h', tn i h → (∀ b ∈ fp, ∀ o, h.get? b = some o → h'.get? b = some o) → tn i h'
  item : ∀ (X : Cx), X.prog = P → X.w = w → X.K = K → (X.calm = true ∨ J.sok = true ∧ X.suit = true) → ∀ (i : Nat) (pins : List (Addr × Obj)) (s : Shared) (σ : St) (H : Hp) (E : Value → Shared → Prop), Inv X pins σ H s → (∀ b ∈ fp, FpOk X pins H b) → tn i s.heap → J.go i H →
    wpAny (model P w) X.A (pyNext (.ref it)) (fun r s1 => ∃ u, r = some u ∧
      wpAny (model P w) X.A (letOwnedTupleGo tg (.ref it) u) (fun _ s2 => ∃ x H', Inv X pins σ H' s2 ∧ RelV x u ∧ J.yld i H x H' ∧ tn (i + 1) s2.heap ∧ ∀ b ∈ fp, H' b = none) E s1) E s
  done : ∀ (X : Cx), X.prog = P → X.w = w → X.K = K → (X.calm = true ∨ J.sok = true ∧ X.suit = true) → ∀ (i : Nat) (pins : List (Addr × Obj)) (s : Shared) (σ : St) (H : Hp) (E : Value → Shared → Prop), Inv X pins σ H s → (∀ b ∈ fp, FpOk X pins H b) → tn i s.heap → J.stop i H →
    wpAny (model P w) X.A (pyNext (.ref it)) (fun r s1 => r = none ∧ Inv X pins σ H s1) E s
  self : ∀ (A : Around) (i : Nat) (s : Shared) (Q : Value → Shared → Prop) (E : Value → Shared → Prop), tn i s.heap → Q (.ref it) s → wpAny (model P w) A (pyIter (.ref it)) Q E s
noncomputable abbrev TI := St → Hp → (It → Hp → Prop) → Prop
/-- an iterator has come -/
noncomputable def PIE (X : Cx) (pins : List (Addr × Obj)) (σ : St) (tg : Expr) (R : It → Hp → Prop) (itv : Value) (s2 : Shared) : Prop :=
  ∃ (it : Addr) (fp : List Addr) (tn : Nat → Heap → Prop) (J : It) (H' : Hp), itv = .ref it ∧ Inv X pins σ H' s2 ∧ Turn X.prog X.w X.K tg J fp it tn ∧ tn 0 s2.heap ∧ (∀ b ∈ fp, FpOk X pins H' b) ∧ R J H'
noncomputable def PI (X : Cx) (tg iter : Expr) (wi : TI) : Prop :=
  ∀ (pins : List (Addr × Obj)) (s : Shared) (σ : St) (H : Hp) (R : It → Hp → Prop), Inv X pins σ H s → wi σ H R →
    wpAny (model X.prog X.w) X.A (eval iter X.env) (fun v s1 => wpAny (model X.prog X.w) X.A (pyIter v) (PIE X pins σ tg R) X.xe s1) X.xe s

/-- the step ahead of the store is nothing for an iterator that keeps no tuple -/
theorem go_of {M : Model} {A : Around} {E : Value → Shared → Prop} {s : Shared} {tg : Expr} {it : Addr} {u : Value} {o : Obj} {n : String} {vs : Array Value} {Q : Unit → Shared → Prop} (ho : s.heap.get? it = some o) (hc : o.cls = .type n) (hd : o.data = .fields vs)
    (hn : ["enumerate", "zip", "dict_itemiterator", "dict_reverseitemiterator", "odict_iterator", "itertools.zip_longest", "itertools.pairwise"].contains n = false) (hQ : Q () s) : wpAny M A (letOwnedTupleGo tg (.ref it) u) Q E s := by
  unfold letOwnedTupleGo
  cases tg <;> first
    | exact wpAny_pure hQ
    | (cases u <;> first
        | exact wpAny_pure hQ
        | (refine wpAny_bind (wpAny_load ho ?_)
           rw [hc, hd]
           show wpAny M A (if (["enumerate", "zip", "dict_itemiterator", "dict_reverseitemiterator", "odict_iterator", "itertools.zip_longest", "itertools.pairwise"].contains n && vs[0]? == some (rawInt _)) = true then _ else _) Q E s
           rw [if_neg (by intro h; rw [hn, Bool.false_and] at h; cases h)]
           exact wpAny_pure hQ))

/-! ### the end of a walk where an exception is handled around -/
section
variable {prog : Program} {w : World} {A : Around} {E : Value → Shared → Prop} {s : Shared}
theorem entry_unchain : entryFor table "proto.unchain" = some Builtin.«proto.unchain» := entryFor_of_tree (by kernel_rfl)
theorem raiseNew_S {α : Type} {e x : Addr} {ox oe : Obj} {xs es : Array Value} {Q : α → Shared → Prop} (hA : A.handled = some (.ref x)) (hx : s.heap.get? x = some ox) (dx : ox.data = .fields xs) (x2 : xs[2]? = some .none) (ne : x ≠ e) (he : s.heap.get? e = some oe) (de : oe.data = .fields es) (z : 2 < es.size)
    (k : E (.ref e) { s with heap := s.heap.update e (Obj.mapFields (·.setIfInBounds 2 (.ref x))) }) : wpAny (model prog w) A (raiseNew (.ref e) : Sem α) Q E s := by
  unfold raiseNew
  refine wpAny_bind (wpAny_handled ?_)
  rw [hA]
  dsimp only
  rw [if_pos (show (Value.ref x != Value.ref e) = true from by simp [ne])]
  refine wpAny_bind (wpAny_holding (wpAny_runValue (codeAny_builtin entry_unchain ?_)))
  unfold Builtin.«proto.unchain»
  dsimp only
  refine wpAny_bind (wpAny_field hx dx x2 ?_)
  rw [if_pos (by decide)]
  refine wpAny_pure ?_
  show wpAny _ _ (setField (.ref e) 2 (.ref x) >>= fun _ => throw (Value.ref e)) _ _ _
  exact wpAny_bind (wpAny_setField he de z (wpAny_throw k))
/-- StopIteration is made and raised: the iterator it was changed ahead of it -/
theorem stop_S {β : Type} {x it : Addr} {ox : Obj} {xs : Array Value} {h0 : Heap} {Q : Option Value → Shared → Prop} {R : β → Shared → Prop} (hA : A.handled = some (.ref x)) (hx : s.heap.get? x = some ox) (dx : ox.data = .fields xs) (x2 : xs[2]? = some .none)
    (kp : ∀ b o, b ≠ it → s.heap.get? b = some o → h0.get? b = some o) (ne : x ≠ it) (k : ∀ h', Heap.ExtBut it s.heap h' → Q none { s with heap := h' }) :
    wpAny (model prog w) A.in1 (newExc (.type "StopIteration") [] >>= fun e => (raiseNew e : Sem β)) R (fun e s' => wpAny (model prog w) A (do if ← isInstance e (.type "StopIteration") then pure none else throw e) Q E s') { s with heap := h0 } := by
  refine wpAny_bind ?_
  simp only [newExc, newTuple]
  refine wpAny_bind (wpAny_newObj_type ?_ (by size_fits))
  refine wpAny_bind (m := firstArgMember _ _) (wpAny_of_eq (a := Value.none) (by simp only [firstArgMember]; rfl) ?_)
  refine wpAny_newObj_type ?_ (by size_fits)
  dsimp only
  have hz : (h0.push { cls := .type "tuple", data := .seq ([] : List Value).toArray }).objs.size ≠ x := Nat.ne_of_gt (Heap.lt_size (Heap.get?_push_of_some _ (kp x ox ne hx)))
  refine raiseNew_S (x := x) hA (Heap.get?_push_of_some _ (Heap.get?_push_of_some _ (kp x ox ne hx))) dx x2 (Ne.symm hz) (Heap.get?_push_size _ rfl) rfl (by show 2 < 6; decide) ?_
  refine wpAny_bind (wpAny_isInstance (T := "StopIteration") (b := true) ⟨_, Heap.get?_update_self _ (Heap.get?_push_size _ rfl) rfl, rfl⟩ isSubtype_stop ?_)
  refine wpAny_pure (k _ fun b o hb q => ?_)
  have q2 := Heap.get?_push_of_some { cls := .type "tuple", data := .seq ([] : List Value).toArray } (kp b o hb q)
  dsimp only
  rw [Heap.get?_update_other _ _ (Nat.ne_of_gt (Heap.lt_size q2))]
  exact Heap.get?_push_of_some _ q2
theorem next_list_endS {x it l : Addr} {i : Nat} {items : Array Value} {ox : Obj} {xs : Array Value} {Q : Option Value → Shared → Prop} (hA : A.handled = some (.ref x)) (hx : s.heap.get? x = some ox) (dx : ox.data = .fields xs) (x2 : xs[2]? = some .none)
    (hit : s.heap.IsListIter it l i) (hl : s.heap.IsList l items) (hi : items[i]? = none) (ne : x ≠ it) (k : ∀ h', Heap.ExtBut it s.heap h' → Q none { s with heap := h' }) : wpAny (model prog w) A (pyNext (.ref it)) Q E s := by
  obtain ⟨oi, ei, _, di⟩ := id hit
  obtain ⟨ol, el, _, nl, dl⟩ := hl
  unfold pyNext
  refine wpAny_bind (wpAny_attempt (wpAny_callSpecial?_slot (name := "__next__") hit.typeIs slot_listiter_next (wpAny_call_entry slot_listiter_next hit.typeIs entry_listiter_next ?_ (args_listiter_next _))))
  refine wpAny_bind (m := field (.ref it) 0) (wpAny_field ei di (x := .ref l) rfl ?_)
  rw [if_neg (by intro z; cases z)]
  refine wpAny_bind (m := field (.ref it) 1) (wpAny_field ei di (x := .int i 0) rfl ?_)
  refine wpAny_bind (m := seqItems? (.ref l)) (wpAny_seqItems el dl ?_)
  simp only [Int.toNat_natCast, hi]
  refine wpAny_bind (wpAny_rule (wpAny_bind (wpAny_setField ei di (by simp) ?_)))
  exact stop_S hA hx dx x2 (fun b o hb q => (Heap.get?_update_other _ _ (Ne.symm hb)).trans q) ne k
theorem next_tup_endS {x it t : Addr} {i : Nat} {items : Array Value} {ox : Obj} {xs : Array Value} {Q : Option Value → Shared → Prop} (hA : A.handled = some (.ref x)) (hx : s.heap.get? x = some ox) (dx : ox.data = .fields xs) (x2 : xs[2]? = some .none)
    (hit : IsTupIter s.heap it t i) (ht : IsTup s.heap t items) (hi : items[i]? = none) (ne : x ≠ it) (k : ∀ h', Heap.ExtBut it s.heap h' → Q none { s with heap := h' }) : wpAny (model prog w) A (pyNext (.ref it)) Q E s := by
  obtain ⟨oi, ei, _, di⟩ := id hit
  obtain ⟨ol, el, _, nl, dl⟩ := ht
  unfold pyNext
  refine wpAny_bind (wpAny_attempt (wpAny_callSpecial?_slot (name := "__next__") hit.typeIs slot_tupleiter_next (wpAny_call_entry slot_tupleiter_next hit.typeIs entry_tupleiter_next ?_ (args_tupleiter_next _))))
  refine wpAny_bind (m := field (.ref it) 0) (wpAny_field ei di (x := .ref t) rfl ?_)
  rw [if_neg (by intro z; cases z)]
  refine wpAny_bind (m := field (.ref it) 1) (wpAny_field ei di (x := .int i 0) rfl ?_)
  refine wpAny_bind (m := seqItems? (.ref t)) (wpAny_seqItems el dl ?_)
  simp only [Int.toNat_natCast, hi]
  refine wpAny_bind (wpAny_rule (wpAny_bind (wpAny_setField ei di (by simp) ?_)))
  exact stop_S hA hx dx x2 (fun b o hb q => (Heap.get?_update_other _ _ (Ne.symm hb)).trans q) ne k
theorem assign_tupS {env : Env} {elts : List Expr} {x1} {pos : Pos} {x t : Addr} {items : Array Value} {ox : Obj} {xs : Array Value} {Q : Unit → Shared → Prop} (hA : A.handled = some (.ref x)) (hx : s.heap.get? x = some ox) (dx : ox.data = .fields xs) (x2 : xs[2]? = some .none)
    (ht : IsTup s.heap t items) (hn : (assignEach elts env).length = items.size) (hstar : (assignEach elts env).findIdx? (·.1) = none)
    (k : ∀ h', Heap.ExtBut s.heap.objs.size s.heap h' → wpAny (model prog w) A (assignInOrder ((assignEach elts env).map (·.2)) items.toList) Q E { s with heap := h' }) :
    wpAny (model prog w) A (assign (.Tuple elts x1 pos) env (.ref t)) Q E s := by
  have hlt : t ≠ s.heap.objs.size := by
    obtain ⟨o, e, _⟩ := ht
    exact Nat.ne_of_lt (Heap.lt_size e)
  have hltx : x ≠ s.heap.objs.size := Nat.ne_of_lt (Heap.lt_size hx)
  rw [assign_Tuple]
  refine wpAny_bind (wpAny_standAt ?_)
  unfold unpack
  rw [hn, hstar]
  refine wpAny_bind (wpAny_holding ?_)
  unfold unpackItems notIterableAtAll
  refine wpAny_bind (wpAny_bind (wpAny_specialOf ht.typeIs slot_tuple_iter.lookup (wpAny_pure ?_)))
  simp only [Bool.false_eq_true, if_false]
  refine wpAny_bind (wpAny_holding (iter_tuple ht ?_))
  refine wpAny_bind (wpAny_holding (draw_tuple hlt items.size 0 _ _ ⟨_, Heap.get?_push_size _ rfl, rfl, rfl⟩ (ht.push _) (by (first | lia | omega)) fun h1 it1 sb1 => ?_))
  have all : List.take items.size (List.drop 0 items.toList) = items.toList := by
    rw [List.drop_zero]
    exact List.take_of_length_le (by simp)
  rw [all, if_neg (by simp)]
  have ht1 : IsTup h1 t items := (ht.push _).extBut sb1.extBut hlt
  refine wpAny_bind (wpAny_holding (next_tup_endS hA ((sb1.2 x hltx).trans (Heap.get?_push_of_some _ hx)) dx x2 it1 ht1 (by simp) hltx fun h2 eb2 => ?_))
  simp only [Option.isSome_none, Bool.false_eq_true, if_false]
  exact wpAny_pure (k h2 fun b o hb e => eb2 b o hb (sb1.extBut b o hb (Heap.get?_push_of_some _ e)))
end

/-- the list at a, as it stands at each turn (a loop may append to it) -/
noncomputable def Itl (K : PySem.W.Frag) (a : Addr) : It :=
  ⟨fun i H => ∃ xs x, SqL K H a xs ∧ xs[i]? = some x, fun i H x H' => H' = H ∧ ∀ xs, SqL K H a xs → xs[i]? = some x, fun i H => ∃ xs, SqL K H a xs ∧ xs.length ≤ i, true⟩
noncomputable def Itt (K : PySem.W.Frag) (a : Addr) : It :=
  ⟨fun i H => ∃ xs x, SqT K H a xs ∧ xs[i]? = some x, fun i H x H' => H' = H ∧ ∀ xs, SqT K H a xs → xs[i]? = some x, fun i H => ∃ xs, SqT K H a xs ∧ xs.length ≤ i, false⟩
/-- lo, lo + 1, .. (n of them) -/
noncomputable def Itr (lo : Int) (n : Nat) : It := ⟨fun i _ => i < n, fun i H x H' => H' = H ∧ x = .int (lo + i), fun i _ => n ≤ i, false⟩
theorem turn_list {P : Program} {w : World} {K : PySem.W.Frag} {tg : Expr} (a it : Addr) : Turn P w K tg (Itl K a) [it] it (fun i h => h.IsListIter it a i) where
  mem := by simp
  obj := fun i h st b hb => by
    have e : b = it := by simpa using hb
    subst e
    obtain ⟨o, e, c, d⟩ := st
    exact ⟨o, e, fun v z => by rw [d] at z; cases z⟩
  keep := fun i h h' st k => st.at fun o e => k it (by simp) o e
  item := by
    intro X hP hw hK hc i pins s σ H E I hf st hg
    subst hP hw hK
    obtain ⟨xs, x, hq, hx⟩ := hg
    obtain ⟨its, rv, p, hz⟩ := I.list hq
    obtain ⟨u, hu, ru⟩ := rv.get hx
    obtain ⟨f0, f1, f2, f3, f4, f5⟩ := hf it (by simp)
    refine wpAny_pyNext_list_item st p.isList (x := u) (by simpa using hu) fun h' st' sb => ?_
    have I1 : Inv X pins σ H { s with heap := h' } := I.turned (t' := s.toks) (fun b o hb e => (sb.2 b hb).trans e) f0 f1 f3 f4 f5
    obtain ⟨o, e, c, d⟩ := id st'
    exact ⟨u, rfl, go_of (s := { s with heap := h' }) e c d (by decide) ⟨x, H, I1, ru, ⟨rfl, fun ys hy => by rw [I.list_inj hy hq]; exact hx⟩, st', fun b hb => (hf b hb).1⟩⟩
  done := by
    intro X hP hw hK hc i pins s σ H E I hf st hg
    subst hP hw hK
    obtain ⟨xs, hq, hx⟩ := hg
    obtain ⟨its, rv, p, hz⟩ := I.list hq
    obtain ⟨f0, f1, f2, f3, f4, f5⟩ := hf it (by simp)
    have hl := rv.length
    rcases hc with hc | ⟨_, hc⟩
    rotate_left
    · obtain ⟨e, cls, dx, a0, tb, hA, hE⟩ := I.ok.hs hc
      have hE' := I.base.frzs e _ _ hE
      obtain ⟨he, _⟩ := I.hok e _ hE'
      exact next_list_endS hA he rfl rfl st p.isList (by simp; (first | lia | omega)) (fun z => by rw [z, f0] at hE'; cases hE') fun h' eb => ⟨rfl, I.turned (t' := s.toks) (fun b o hb e => eb b o hb e) f0 f1 f3 f4 f5⟩
    exact wpAny_pyNext_list_end (I.ok.hd hc) st p.isList (by simp; (first | lia | omega)) fun h' eb => ⟨rfl, I.turned (t' := s.toks) (fun b o hb e => eb b o hb e) f0 f1 f3 f4 f5⟩
  self := fun _ _ _ _ _ st h => wpAny_pyIter_listiter st h
theorem turn_tuple {P : Program} {w : World} {K : PySem.W.Frag} {tg : Expr} (a it : Addr) : Turn P w K tg (Itt K a) [it] it (fun i h => h.IsTupleIter it a i) where
  mem := by simp
  obj := fun i h st b hb => by
    have e : b = it := by simpa using hb
    subst e
    obtain ⟨o, e, c, d⟩ := st
    exact ⟨o, e, fun v z => by rw [d] at z; cases z⟩
  keep := fun i h h' st k => st.at fun o e => k it (by simp) o e
  item := by
    intro X hP hw hK hc i pins s σ H E I hf st hg
    subst hP hw hK
    obtain ⟨xs, x, hq, hx⟩ := hg
    obtain ⟨its, rv, p, hz⟩ := I.tuple hq
    obtain ⟨u, hu, ru⟩ := rv.get hx
    obtain ⟨f0, f1, f2, f3, f4, f5⟩ := hf it (by simp)
    refine wpAny_pyNext_tuple_item st (show s.heap.IsTuple a its.toArray from p) (x := u) (by simpa using hu) fun h' st' sb => ?_
    have I1 : Inv X pins σ H { s with heap := h' } := I.turned (t' := s.toks) (fun b o hb e => (sb.2 b hb).trans e) f0 f1 f3 f4 f5
    obtain ⟨o, e, c, d⟩ := id st'
    exact ⟨u, rfl, go_of (s := { s with heap := h' }) e c d (by decide) ⟨x, H, I1, ru, ⟨rfl, fun ys hy => by rw [I.tuple_inj hy hq]; exact hx⟩, st', fun b hb => (hf b hb).1⟩⟩
  done := by
    intro X hP hw hK hc i pins s σ H E I hf st hg
    subst hP hw hK
    obtain ⟨xs, hq, hx⟩ := hg
    obtain ⟨its, rv, p, hz⟩ := I.tuple hq
    obtain ⟨f0, f1, f2, f3, f4, f5⟩ := hf it (by simp)
    have hl := rv.length
    have hc := hc.resolve_right fun z => Bool.noConfusion (show false = true from z.1)
    exact wpAny_pyNext_tuple_end (I.ok.hd hc) st (show s.heap.IsTuple a its.toArray from p) (by simp; (first | lia | omega)) fun h' eb => ⟨rfl, I.turned (t' := s.toks) (fun b o hb e => eb b o hb e) f0 f1 f3 f4 f5⟩
  self := fun _ _ _ _ _ st h => wpAny_pyIter_tupleiter st h
theorem turn_range {P : Program} {w : World} {K : PySem.W.Frag} {tg : Expr} (it : Addr) (lo : Int) (n : Nat) : Turn P w K tg (Itr lo n) [it] it (fun i h => IsRangeIter h it (lo + (i : Nat) * 1) ((n : Int) - (i : Nat)) 1) where
  mem := by simp
  obj := fun i h st b hb => by
    have e : b = it := by simpa using hb
    subst e
    exact ⟨_, st, fun v z => by
      have z' : Data.fields _ = Data.cell v := z
      cases z'⟩
  keep := fun i h h' st k => k it (by simp) _ st
  item := by
    intro X hP hw hK hc i pins s σ H E I hf st hg
    subst hP hw hK
    obtain ⟨f0, f1, f2, f3, f4, f5⟩ := hf it (by simp)
    have hc := hc.resolve_right fun z => Bool.noConfusion (show false = true from z.1)
    have W := Walks.range (prog := X.prog) (w := X.w) (I.ok.hd hc) it lo 1 n
    refine W.item i s _ _ hg st fun v h' tk hv st' kk => ?_
    obtain ⟨t, rfl⟩ := hv
    have I1 : Inv X pins σ H { s with heap := h', toks := tk } := I.turned (fun b o hb e => kk b o (by simpa using hb) e) f0 f1 f3 f4 f5
    refine ⟨_, rfl, go_of (s := { s with heap := h', toks := tk }) (n := "range_iterator") st' rfl rfl (by decide) ⟨.int (lo + i), H, I1, ⟨t, ?_⟩, ⟨rfl, rfl⟩, st', fun b hb => (hf b hb).1⟩⟩
    rw [Int.mul_one]
  done := by
    intro X hP hw hK hc i pins s σ H E I hf st hg
    subst hP hw hK
    obtain ⟨f0, f1, f2, f3, f4, f5⟩ := hf it (by simp)
    have hc := hc.resolve_right fun z => Bool.noConfusion (show false = true from z.1)
    exact wpAny_pyNext_range_end (I.ok.hd hc) st (by have : n ≤ i := hg; (first | lia | omega)) fun h' eb => ⟨rfl, I.turned (t' := s.toks) (fun b o hb e => eb b o hb e) f0 f1 f3 f4 f5⟩
  self := fun _ _ _ _ _ st h => wpAny_pyIter_rangeiter st h
end L2

namespace L2
open PySem PySem.Spec PyProof.Rows
section
variable {X : Cx} {tg : Expr}
noncomputable def iList (K : PySem.W.Frag) (tl : TE) : TI := fun σ H R => tl σ H fun x H1 => ∃ a, x = .ref a ∧ (∃ xs, SqL K H1 a xs) ∧ R (Itl K a) H1
noncomputable def iTup (K : PySem.W.Frag) (tl : TE) : TI := fun σ H R => tl σ H fun x H1 => ∃ a, x = .ref a ∧ (∃ xs, SqT K H1 a xs) ∧ R (Itt K a) H1
theorem pi_list {l : Expr} {tl : TE} (hl : PE X l tl) : PI X tg l (iList X.K tl) := by
  intro pins s σ H R I h
  refine thn (hl pins s σ H _ I h) fun v s1 hh35 => ?_
  obtain ⟨x, H1, I1, r1, q1⟩ := hh35
  obtain ⟨a, e, ⟨xs, hq⟩, q⟩ := q1
  subst e
  cases r1
  obtain ⟨its, rv, p, hz⟩ := I1.list hq
  refine wpAny_pyIter_list p.isList ?_
  refine ⟨s1.heap.objs.size, [s1.heap.objs.size], _, _, H1, rfl, I1.kept (t' := s1.toks) fun b o e => Heap.get?_push_of_some _ e, turn_list a _, ⟨_, Heap.get?_push_size _ rfl, rfl, rfl⟩, fun b hb => ?_, q⟩
  have e : b = s1.heap.objs.size := by simpa using hb
  subst e
  exact I1.fpOk (Nat.le_refl _) (I1.hok.fresh (Nat.le_refl _))
theorem pi_tup {l : Expr} {tl : TE} (hl : PE X l tl) : PI X tg l (iTup X.K tl) := by
  intro pins s σ H R I h
  refine thn (hl pins s σ H _ I h) fun v s1 hh36 => ?_
  obtain ⟨x, H1, I1, r1, q1⟩ := hh36
  obtain ⟨a, e, ⟨xs, hq⟩, q⟩ := q1
  subst e
  cases r1
  obtain ⟨its, rv, p, hz⟩ := I1.tuple hq
  refine wpAny_pyIter_tuple (show s1.heap.IsTuple a its.toArray from p) ?_
  refine ⟨s1.heap.objs.size, [s1.heap.objs.size], _, _, H1, rfl, I1.kept (t' := s1.toks) fun b o e => Heap.get?_push_of_some _ e, turn_tuple a _, ⟨_, Heap.get?_push_size _ rfl, rfl, rfl⟩, fun b hb => ?_, q⟩
  have e : b = s1.heap.objs.size := by simpa using hb
  subst e
  exact I1.fpOk (Nat.le_refl _) (I1.hok.fresh (Nat.le_refl _))
/-- a range object just made, walked -/
theorem range_it {pins : List (Addr × Obj)} {σ : St} {H : Hp} {s : Shared} {R : It → Hp → Prop} {E : Value → Shared → Prop} {lo hi : Int} {t u v : Tok} {tk : Nat} (I : Inv X pins σ H s) (h1 : -(2 ^ 62) ≤ lo) (h2 : lo < 2 ^ 62) (h3 : -(2 ^ 62) ≤ hi) (h4 : hi < 2 ^ 62)
    (q : R (Itr lo (hi - lo).toNat) H) : wpAny (model X.prog X.w) X.A (pyIter (.ref s.heap.objs.size)) (PIE X pins σ tg R) E { s with heap := s.heap.push { cls := .type "range", data := .fields #[.int lo t, .int hi u, .int 1 v] }, toks := tk } := by
  refine wpAny_pyIter_range (IsRange.new ..) (small_one h1 h2 h3 h4) ?_
  have I1 : Inv X pins σ H { s with heap := s.heap.push { cls := .type "range", data := .fields #[.int lo t, .int hi u, .int 1 v] }, toks := tk } := I.kept fun b o e => Heap.get?_push_of_some _ e
  refine ⟨(s.heap.push { cls := .type "range", data := .fields #[.int lo t, .int hi u, .int 1 v] }).objs.size, [(s.heap.push { cls := .type "range", data := .fields #[.int lo t, .int hi u, .int 1 v] }).objs.size], _, _, H, rfl,
    I1.kept (t' := tk) fun b o e => Heap.get?_push_of_some _ e, turn_range _ lo (hi - lo).toNat, ?_, fun b hb => ?_, q⟩
  · have e1 : lo + ((0 : Nat) : Int) * 1 = lo := by simp
    have e2 : (((hi - lo).toNat : Nat) : Int) - ((0 : Nat) : Int) = Builtin.Range.rangeSize lo hi 1 := by rw [rangeSize_one]; split <;> (first | lia | omega)
    show IsRangeIter _ _ (lo + ((0 : Nat) : Int) * 1) ((((hi - lo).toNat : Nat) : Int) - ((0 : Nat) : Int)) 1
    rw [e1, e2]
    exact Heap.get?_push_size _ rfl
  · have e : b = (s.heap.push { cls := .type "range", data := .fields #[.int lo t, .int hi u, .int 1 v] }).objs.size := by simpa using hb
    subst e
    exact I1.fpOk (Nat.le_refl _) (I1.hok.fresh (Nat.le_refl _))
noncomputable def iRng1 (ta : TA) : TI := fun σ H R => ta σ H fun vs H1 => ∃ j : Int, vs = [.int j] ∧ -(2 ^ 62) ≤ j ∧ j < 2 ^ 62 ∧ R (Itr 0 j.toNat) H1
noncomputable def iRng2 (ta : TA) : TI := fun σ H R => ta σ H fun vs H1 => ∃ i j : Int, vs = [.int i, .int j] ∧ (-(2 ^ 62) ≤ i ∧ i < 2 ^ 62 ∧ -(2 ^ 62) ≤ j ∧ j < 2 ^ 62) ∧ R (Itr i (j - i).toNat) H1
theorem pi_range1 {a : Expr} {ta : TA} {p pos : Pos} (hg : Gl X "range") (hm : X.mg "range" = none) (ha : PA X [a] ta) (hs : starEach [a] X.env = [(false, eval a X.env)] := by rfl) : PI X tg (.Call (.Name "range" p) [a] [] pos) (iRng1 ta) := by
  intro pins s σ H R I h
  refine Call_ (ld_blt I hg hm boot_range (PyProof.Rows.callWith_type1 (thn (ha pos pins s σ H _ I h) fun us s1 hh37 => ?_) hs rfl))
  obtain ⟨vs, H1, I1, r1, q1⟩ := hh37
  obtain ⟨j, e, q1, q2, q⟩ := q1
  subst e
  cases r1 with
  | cons r rr =>
    cases rr
    obtain ⟨t, rfl⟩ := r
    exact call_range_1 (range_it I1 (by (first | lia | omega)) (by (first | lia | omega)) q1 q2 (by simpa using q))
theorem pi_range2 {a b : Expr} {ta : TA} {p pos : Pos} (hg : Gl X "range") (hm : X.mg "range" = none) (ha : PA X [a, b] ta) (hs : starEach [a, b] X.env = [(false, eval a X.env), (false, eval b X.env)] := by rfl) (hs2 : starEach [b] X.env = [(false, eval b X.env)] := by rfl) :
    PI X tg (.Call (.Name "range" p) [a, b] [] pos) (iRng2 ta) := by
  intro pins s σ H R I h
  refine Call_ (ld_blt I hg hm boot_range (PyProof.Rows.callWith_type1 (thn (ha pos pins s σ H _ I h) fun us s1 hh38 => ?_) (by rw [hs, hs2]) (by rw [hs2]; rfl)))
  obtain ⟨vs, H1, I1, r1, q1⟩ := hh38
  obtain ⟨i, j, e, ⟨q1, q2, q3, q4⟩, q⟩ := q1
  subst e
  cases r1 with
  | cons r rr =>
    cases rr with
    | cons r' rr =>
      cases rr
      obtain ⟨t, rfl⟩ := r
      obtain ⟨t', rfl⟩ := r'
      exact call_range_2 (range_it I1 q1 q2 q3 q4 q)

/-! ### for -/
/-- W: the invariant by the turn and a measure; N: what the body is to reach -/
noncomputable def tFor (wi : TI) (g : TG) (tb : TS) : TS := fun D σ H => wi σ H fun J H1 => ∃ W : Nat → Nat → St → Hp → Prop, (∃ m, W 0 m σ H1) ∧ ∀ i m σ H, W i m σ H →
  (J.stop i H ∧ D.nx σ H) ∨ (J.go i H ∧ ∃ N : St → Hp → Prop, (∀ σ' H', N σ' H' → ∃ m', m' < m ∧ W (i + 1) m' σ' H') ∧ ∀ x H', J.yld i H x H' → g x σ H' fun σ2 H2 => tb { D with nx := N, ct := N, bk := D.nx } σ2 H2)
/-- the records at fp as they stand -/
noncomputable def pinsAt (fp : List Addr) (h : Heap) : List (Addr × Obj) := fp.filterMap fun b => (h.get? b).map fun o => (b, o)
theorem mem_pinsAt {fp : List Addr} {h : Heap} {b : Addr} {o : Obj} (hb : b ∈ fp) (e : h.get? b = some o) : (b, o) ∈ pinsAt fp h := List.mem_filterMap.mpr ⟨b, hb, by rw [e]; rfl⟩
theorem of_pinsAt {fp : List Addr} {h : Heap} {p : Addr × Obj} (hp : p ∈ pinsAt fp h) : p.1 ∈ fp ∧ h.get? p.1 = some p.2 := by
  obtain ⟨b, hb, e⟩ := List.mem_filterMap.mp hp
  cases q : h.get? b with
  | none => rw [q] at e; cases e
  | some o =>
    rw [q] at e
    have e' : (b, o) = p := Option.some.inj e
    subst e'
    exact ⟨hb, q⟩
theorem Inv.pinned {pins : List (Addr × Obj)} {σ : St} {H : Hp} {s : Shared} {fp : List Addr} (I : Inv X pins σ H s) (hf : ∀ b ∈ fp, FpOk X pins H b) (ho : ∀ b ∈ fp, ∃ o, s.heap.get? b = some o ∧ ∀ v, o.data ≠ .cell v) : Inv X (pins ++ pinsAt fp s.heap) σ H s :=
  I.pins_of fun p hp => (List.mem_append.mp hp).elim (fun z => I.pin p (List.mem_append_right _ z)) fun z => by
    obtain ⟨hb, e⟩ := of_pinsAt z
    obtain ⟨f0, f1, f2, _⟩ := hf p.1 hb
    obtain ⟨o, e', d⟩ := ho p.1 hb
    rw [e] at e'; cases e'
    exact ⟨e, f0, f1, f2, d⟩
theorem Inv.unpinned {pins pl : List (Addr × Obj)} {σ : St} {H : Hp} {s : Shared} (I : Inv X (pins ++ pl) σ H s) : Inv X pins σ H s := I.pins_of fun p hp => I.pin p (List.mem_append_right _ (List.mem_append_left _ hp))
theorem ps_for {iter : Expr} {body : List Stmt} {wi : TI} {g : TG} {tb : TS} {pos : Pos} (hp : PassesOwn (model X.prog X.w) X.A X.env X.xe) (hc : X.calm = true) (hi : PI X tg iter wi) (hg : PG X tg g) (hb : PSs X body tb)
    (hs : ∀ x, foldedSetIterable iter X.env x = pure x := by intro _; rfl) : PS X (.For tg iter body [] pos) (tFor wi g tb) := by
  intro pins s σ H D I h
  refine wpAny_For (thn (hi pins s σ H _ I h) fun v s1 h1 => thn h1 fun itv s2 h2 => ?_) hs
  obtain ⟨it, fp, tn, J, H2, e, I2, T, st2, f2, W, ⟨m0, w0⟩, turn⟩ := h2
  subst e
  -- what stays true of the iterator's objects through the loop
  have stat : ∀ {H' : Hp}, (∀ b ∈ fp, H' b = none) → ∀ b ∈ fp, FpOk X pins H' b := fun hn b hb => ⟨hn b hb, (f2 b hb).2⟩
  refine codeAny_forLoop_any (fun n s' => ∃ i σ' H', Inv X pins σ' H' s' ∧ tn i s'.heap ∧ (∀ b ∈ fp, H' b = none) ∧ W i n σ' H') ?_ m0 ⟨0, σ, H2, I2, st2, fun b hb => (f2 b hb).1, w0⟩
  rintro n s3 ⟨i, σ3, H3, I3, st3, fr3, w3⟩
  rcases turn i n σ3 H3 w3 with ⟨stop, qn⟩ | ⟨go, N, hN, step⟩
  · refine wpAny_passesOwn hp (thn (T.done X rfl rfl rfl (.inl hc) i pins s3 σ3 H3 X.xe I3 (stat fr3) st3 stop) fun r s4 hh39 => ?_)
    obtain ⟨hr, I4⟩ := hh39
    subst hr
    exact wpAny_execs_nil ⟨σ3, H3, I4, qn⟩
  · refine wpAny_passesOwn hp (thn (T.item X rfl rfl rfl (.inl hc) i pins s3 σ3 H3 X.xe I3 (stat fr3) st3 go) fun r s4 hh40 => ?_)
    obtain ⟨u, hr, h4⟩ := hh40
    subst hr
    refine wpAny_passesOwn hp (thn h4 fun _ s5 hh41 => ?_)
    obtain ⟨x, H5, I5, r5, y5, st5, fr5⟩ := hh41
    have I5' := I5.pinned (stat fr5) (T.obj _ _ st5)
    refine wpAny_passesOwn hp (thn (hg _ s5 σ3 H5 x u _ I5' r5 (step x H5 y5)) fun _ s6 hh42 => ?_)
    obtain ⟨σ6, H6, I6, q6⟩ := hh42
    refine wpAny_passesOwn hp (thn (hb _ s6 σ6 H6 _ I6 q6) fun f s7 q7 => ?_)
    have again : ∀ {σ7 : St} {H7 : Hp}, Inv X (pins ++ pinsAt fp s5.heap) σ7 H7 s7 → N σ7 H7 → ∃ m, m < n ∧ ∃ i σ' H', Inv X pins σ' H' s7 ∧ tn i s7.heap ∧ (∀ b ∈ fp, H' b = none) ∧ W i m σ' H' := fun {σ7 H7} I7 n7 => by
      obtain ⟨m', hm, w7⟩ := hN σ7 H7 n7
      refine ⟨m', hm, i + 1, σ7, H7, I7.unpinned, T.keep _ _ _ st5 fun b hb o e => (I7.pin (b, o) (List.mem_append_right _ (List.mem_append_right _ (mem_pinsAt hb e)))).1, fun b hb => ?_, w7⟩
      obtain ⟨o, e, d⟩ := T.obj _ _ st5 b hb
      exact (I7.pin (b, o) (List.mem_append_right _ (List.mem_append_right _ (mem_pinsAt hb e)))).2.1
    cases f with
    | next => obtain ⟨σ7, H7, I7, n7⟩ := q7; exact again I7 n7
    | cont => obtain ⟨σ7, H7, I7, n7⟩ := q7; exact again I7 n7
    | brk => obtain ⟨σ7, H7, I7, q7⟩ := q7; exact ⟨σ7, H7, I7.unpinned, q7⟩
    | ret v => obtain ⟨x7, σ7, H7, I7, r7, q7⟩ := q7; exact ⟨x7, σ7, H7, I7.unpinned, r7, q7⟩
end

/-! ### the forms one uses -/
/-- over a list that the body leaves as it is -/
theorem for_list {K : PySem.W.Frag} {a : Addr} {xs : List V} {g : TG} {tb : TS} {D : Ends} {σ : St} {H : Hp} (Pv : Nat → St → Hp → Prop) (h0 : Pv 0 σ H) (hl : ∀ i σ H, i ≤ xs.length → Pv i σ H → SqL K H a xs)
    (hs : ∀ i x σ H, xs[i]? = some x → Pv i σ H → g x σ H fun σ2 H2 => tb { D with nx := Pv (i + 1), ct := Pv (i + 1), bk := D.nx } σ2 H2) (hd : ∀ σ H, Pv xs.length σ H → D.nx σ H) :
    ∃ W : Nat → Nat → St → Hp → Prop, (∃ m, W 0 m σ H) ∧ ∀ i m σ H, W i m σ H →
      ((Itl K a).stop i H ∧ D.nx σ H) ∨ ((Itl K a).go i H ∧ ∃ N : St → Hp → Prop, (∀ σ' H', N σ' H' → ∃ m', m' < m ∧ W (i + 1) m' σ' H') ∧ ∀ x H', (Itl K a).yld i H x H' → g x σ H' fun σ2 H2 => tb { D with nx := N, ct := N, bk := D.nx } σ2 H2) := by
  refine ⟨fun i m σ H => m = xs.length - i ∧ i ≤ xs.length ∧ Pv i σ H, ⟨xs.length, by simp, Nat.zero_le _, h0⟩, ?_⟩
  rintro i m σ H ⟨rfl, hi, p⟩
  have q := hl i σ H hi p
  by_cases hlt : i < xs.length
  · refine .inr ⟨⟨xs, xs[i], q, by simp [hlt]⟩, Pv (i + 1), fun σ' H' p' => ⟨xs.length - (i + 1), Nat.sub_succ_lt_self _ _ hlt, rfl, hlt, p'⟩, fun x H' y => ?_⟩
    obtain ⟨e, y⟩ := y
    subst e
    exact hs i x σ _ (y xs q) p
  · have e : i = xs.length := by (first | lia | omega)
    subst e
    exact .inl ⟨⟨xs, q, Nat.le_refl _⟩, hd σ H p⟩
theorem for_tup {K : PySem.W.Frag} {a : Addr} {xs : List V} {g : TG} {tb : TS} {D : Ends} {σ : St} {H : Hp} (Pv : Nat → St → Hp → Prop) (h0 : Pv 0 σ H) (hl : ∀ i σ H, i ≤ xs.length → Pv i σ H → SqT K H a xs)
    (hs : ∀ i x σ H, xs[i]? = some x → Pv i σ H → g x σ H fun σ2 H2 => tb { D with nx := Pv (i + 1), ct := Pv (i + 1), bk := D.nx } σ2 H2) (hd : ∀ σ H, Pv xs.length σ H → D.nx σ H) :
    ∃ W : Nat → Nat → St → Hp → Prop, (∃ m, W 0 m σ H) ∧ ∀ i m σ H, W i m σ H →
      ((Itt K a).stop i H ∧ D.nx σ H) ∨ ((Itt K a).go i H ∧ ∃ N : St → Hp → Prop, (∀ σ' H', N σ' H' → ∃ m', m' < m ∧ W (i + 1) m' σ' H') ∧ ∀ x H', (Itt K a).yld i H x H' → g x σ H' fun σ2 H2 => tb { D with nx := N, ct := N, bk := D.nx } σ2 H2) := by
  refine ⟨fun i m σ H => m = xs.length - i ∧ i ≤ xs.length ∧ Pv i σ H, ⟨xs.length, by simp, Nat.zero_le _, h0⟩, ?_⟩
  rintro i m σ H ⟨rfl, hi, p⟩
  have q := hl i σ H hi p
  by_cases hlt : i < xs.length
  · refine .inr ⟨⟨xs, xs[i], q, by simp [hlt]⟩, Pv (i + 1), fun σ' H' p' => ⟨xs.length - (i + 1), Nat.sub_succ_lt_self _ _ hlt, rfl, hlt, p'⟩, fun x H' y => ?_⟩
    obtain ⟨e, y⟩ := y
    subst e
    exact hs i x σ _ (y xs q) p
  · have e : i = xs.length := by (first | lia | omega)
    subst e
    exact .inl ⟨⟨xs, q, Nat.le_refl _⟩, hd σ H p⟩
theorem for_range {lo : Int} {n : Nat} {g : TG} {tb : TS} {D : Ends} {σ : St} {H : Hp} (Pv : Nat → St → Hp → Prop) (h0 : Pv 0 σ H)
    (hs : ∀ i σ H, i < n → Pv i σ H → g (.int (lo + i)) σ H fun σ2 H2 => tb { D with nx := Pv (i + 1), ct := Pv (i + 1), bk := D.nx } σ2 H2) (hd : ∀ σ H, Pv n σ H → D.nx σ H) :
    ∃ W : Nat → Nat → St → Hp → Prop, (∃ m, W 0 m σ H) ∧ ∀ i m σ H, W i m σ H →
      ((Itr lo n).stop i H ∧ D.nx σ H) ∨ ((Itr lo n).go i H ∧ ∃ N : St → Hp → Prop, (∀ σ' H', N σ' H' → ∃ m', m' < m ∧ W (i + 1) m' σ' H') ∧ ∀ x H', (Itr lo n).yld i H x H' → g x σ H' fun σ2 H2 => tb { D with nx := N, ct := N, bk := D.nx } σ2 H2) := by
  refine ⟨fun i m σ H => m = n - i ∧ i ≤ n ∧ Pv i σ H, ⟨n, by simp, Nat.zero_le _, h0⟩, ?_⟩
  rintro i m σ H ⟨rfl, hi, p⟩
  by_cases hlt : i < n
  · refine .inr ⟨hlt, Pv (i + 1), fun σ' H' p' => ⟨n - (i + 1), Nat.sub_succ_lt_self _ _ hlt, rfl, hlt, p'⟩, fun x H' y => ?_⟩
    obtain ⟨e, y⟩ := y
    subst e y
    exact hs i σ _ hlt p
  · have e : i = n := by (first | lia | omega)
    subst e
    exact .inl ⟨Nat.le_refl _, hd σ H p⟩
end L2

namespace L2
open PySem PySem.Spec PyProof.Rows

noncomputable abbrev R2 := V → V → Hp → VK → Prop
/-- a two-place operation on values: f is binaryOp op, inplaceOp op or compareOp op -/
noncomputable def OpR (X : Cx) (f : Value → Value → Sem Value) (r : R2) : Prop :=
  ∀ (pins : List (Addr × Obj)) (s : Shared) (σ : St) (H : Hp) (x y : V) (v u : Value) (Q : VK), Inv X pins σ H s → RelV x v → RelV y u → r x y H Q →
    wpAny (model X.prog X.w) X.A (f v u) (EP X pins σ Q) X.xe s
/-- a one-place operation -/
noncomputable def UnR (X : Cx) (f : Value → Sem Value) (r : V → Hp → VK → Prop) : Prop :=
  ∀ (pins : List (Addr × Obj)) (s : Shared) (σ : St) (H : Hp) (x : V) (v : Value) (Q : VK), Inv X pins σ H s → RelV x v → r x H Q →
    wpAny (model X.prog X.w) X.A (f v) (EP X pins σ Q) X.xe s
/-- a call of a value that is known (a builtin, a type) with values -/
noncomputable def CallR (X : Cx) (f : Value) (r : List V → Hp → VK → Prop) : Prop :=
  ∀ (pins : List (Addr × Obj)) (s : Shared) (σ : St) (H : Hp) (xs : List V) (us : List Value) (Q : VK), Inv X pins σ H s → Vals xs us → r xs H Q →
    wpAny (model X.prog X.w) X.A (call f us) (EP X pins σ Q) X.xe s
/-- a value's truth -/
noncomputable def TruR (X : Cx) (r : V → Hp → (Bool → Hp → Prop) → Prop) : Prop :=
  ∀ (pins : List (Addr × Obj)) (s : Shared) (σ : St) (H : Hp) (x : V) (v : Value) (Q : Bool → Hp → Prop), Inv X pins σ H s → RelV x v → r x H Q →
    wpAny (model X.prog X.w) X.A (truthy v) (TP X pins σ Q) X.xe s

noncomputable def tOp (r : R2) (ta tb : TE) : TE := fun σ H Q => ta σ H fun x H1 => tb σ H1 fun y H2 => r x y H2 Q
noncomputable def tUn (r : V → Hp → VK → Prop) (ta : TE) : TE := fun σ H Q => ta σ H fun x H1 => r x H1 Q
/-- ints in, under C, and a value out -/
noncomputable def rI (C : Int → Int → Prop) (g : Int → Int → V) : R2 := fun x y H Q => ∃ i j, x = .int i ∧ y = .int j ∧ C i j ∧ Q (g i j) H
noncomputable def rI0 (g : Int → Int → V) : R2 := fun x y H Q => ∃ i j, x = .int i ∧ y = .int j ∧ Q (g i j) H
noncomputable def rU (g : Int → V) : V → Hp → VK → Prop := fun x H Q => ∃ i, x = .int i ∧ Q (g i) H

section
variable {X : Cx} {a b c : Expr} {ta tb tc : TE} {pos : Pos}

theorem binT (ha : PE X a ta) (hb : PE X b tb) {pins : List (Addr × Obj)} {s : Shared} {σ : St} {H : Hp} {R : V → V → Hp → Prop} (I : Inv X pins σ H s)
    (h : ta σ H fun x H1 => tb σ H1 fun y H2 => R x y H2) {Q : Value → Shared → Prop} {f : Value → Value → Sem Value}
    (hf : ∀ v u s2 x y H2, Inv X pins σ H2 s2 → RelV x v → RelV y u → R x y H2 → wpAny (model X.prog X.w) X.A (f v u) Q X.xe s2) :
    wpAny (model X.prog X.w) X.A (eval a X.env) (fun v s₁ => wpAny (model X.prog X.w) X.A (eval b X.env) (fun u s₂ => wpAny (model X.prog X.w) X.A (f v u) Q X.xe s₂) X.xe s₁) X.xe s := by
  refine thn (ha pins s σ H _ I h) fun v s1 hh44 => ?_
  obtain ⟨x, H1, I1, r1, q1⟩ := hh44
  refine thn (hb pins s1 σ H1 _ I1 q1) fun u s2 hh45 => ?_
  obtain ⟨y, H2, I2, r2, q2⟩ := hh45
  exact hf v u s2 x y H2 I2 r1 r2 q2

theorem pe_op {op : Operator} {r : R2} (ho : OpR X (binaryOp op) r) (ha : PE X a ta) (hb : PE X b tb) : PE X (.BinOp a op b pos) (tOp r ta tb) := by
  intro pins s σ H Q I h
  exact wpAny_BinOp (binT ha hb I h fun v u s2 x y H2 I2 rx ry q => ho pins s2 σ H2 x y v u Q I2 rx ry q)
theorem pe_un {op : UnaryOp} {r : V → Hp → VK → Prop} (ho : UnR X (unaryOp op) r) (ha : PE X a ta) : PE X (.UnaryOp op a pos) (tUn r ta) := by
  intro pins s σ H Q I h
  exact UnaryOp_ (thn (ha pins s σ H _ I h) fun v s1 hh46 => (by obtain ⟨x, H1, I1, r1, q1⟩ := hh46; exact ho pins s1 σ H1 x v Q I1 r1 q1))
/-! ### ints -/
theorem opI {f : Value → Value → Sem Value} {C : Int → Int → Prop} {g : Int → Int → Int}
    (rule : ∀ (i j : Int) (t u : Tok) (s : Shared) (Q : Value → Shared → Prop) (E : Value → Shared → Prop), C i j → Q (.int (g i j) s.toks) { s with toks := s.toks + 1 } → wpAny (model X.prog X.w) X.A (f (.int i t) (.int j u)) Q E s) :
    OpR X f (rI C fun i j => .int (g i j)) := by
  intro pins s σ H x y v u Q I rx ry h
  obtain ⟨i, j, rfl, rfl, hc, q⟩ := h
  obtain ⟨t, rfl⟩ := rx
  obtain ⟨t', rfl⟩ := ry
  exact rule i j t t' s _ _ hc ⟨.int (g i j), H, I.tok _, ⟨_, rfl⟩, q⟩
theorem opI0 {f : Value → Value → Sem Value} {g : Int → Int → Int}
    (rule : ∀ (i j : Int) (t u : Tok) (s : Shared) (Q : Value → Shared → Prop) (E : Value → Shared → Prop), Q (.int (g i j) s.toks) { s with toks := s.toks + 1 } → wpAny (model X.prog X.w) X.A (f (.int i t) (.int j u)) Q E s) :
    OpR X f (rI0 fun i j => .int (g i j)) := by
  intro pins s σ H x y v u Q I rx ry h
  obtain ⟨i, j, rfl, rfl, q⟩ := h
  obtain ⟨t, rfl⟩ := rx
  obtain ⟨t', rfl⟩ := ry
  exact rule i j t t' s _ _ ⟨.int (g i j), H, I.tok _, ⟨_, rfl⟩, q⟩
theorem opB0 {f : Value → Value → Sem Value} {g : Int → Int → Bool}
    (rule : ∀ (i j : Int) (t u : Tok) (s : Shared) (Q : Value → Shared → Prop) (E : Value → Shared → Prop), Q (.bool (g i j)) s → wpAny (model X.prog X.w) X.A (f (.int i t) (.int j u)) Q E s) :
    OpR X f (rI0 fun i j => .bl (g i j)) := by
  intro pins s σ H x y v u Q I rx ry h
  obtain ⟨i, j, rfl, rfl, q⟩ := h
  obtain ⟨t, rfl⟩ := rx
  obtain ⟨t', rfl⟩ := ry
  exact rule i j t t' s _ _ ⟨.bl (g i j), H, I, rfl, q⟩

noncomputable def CDiv (i j : Int) : Prop := 0 < j ∧ j < 1073741824
noncomputable def CDivN (i j : Int) : Prop := j ≠ 0 ∧ j.natAbs < 1073741824
noncomputable def CPow (i j : Int) : Prop := 0 ≤ j ∧ j ≤ 1000000 ∧ i.natAbs < 2 ^ 64
noncomputable def CMul (i j : Int) : Prop := (-(2 ^ 64) < i ∧ i < 2 ^ 64) ∨ (-(2 ^ 64) < j ∧ j < 2 ^ 64)
theorem CMul.ok {i j : Int} (h : CMul i j) : IntMulOk i j := by
  rcases h with ⟨h1, h2⟩ | ⟨h1, h2⟩
  · exact .of_left (intBits_le_64 h1 h2)
  · exact .of_right (intBits_le_64 h1 h2)
theorem two_pow_nn (k : Nat) : (0 : Int) ≤ 2 ^ k := by
  rw [two_pow_cast]
  exact Int.natCast_nonneg _

theorem op_add : OpR X (binaryOp .Add) (rI0 fun i j => .int (i + j)) := opI0 fun _ _ _ _ _ _ _ q => add_int q
theorem op_sub : OpR X (binaryOp .Sub) (rI0 fun i j => .int (i - j)) := opI0 fun _ _ _ _ _ _ _ q => sub_int q
theorem op_mul : OpR X (binaryOp .Mult) (rI CMul fun i j => .int (i * j)) := opI fun _ _ _ _ _ _ _ hc q => mul_int q hc.ok
/-- // by a positive divisor -/
theorem op_fdiv : OpR X (binaryOp .FloorDiv) (rI CDiv fun i j => .int (i / j)) := opI fun i j _ _ _ _ _ hc q => by
  have h1 : (0 : Int) < j := hc.1
  have h2 : j < 1073741824 := hc.2
  exact floordiv_int (by (first | lia | omega)) (by rw [Int.fdiv_eq_ediv_of_nonneg i (by (first | lia | omega))]; exact q) (.inl (PyProof.noPylong_small (by (first | lia | omega))))
/-- % by a positive divisor of any size -/
theorem op_mod : OpR X (binaryOp .Mod) (rI (fun _ j => 0 < j) fun i j => .int (i % j)) := opI fun i j _ _ _ _ _ hc q => by
  have h1 : (0 : Int) < j := hc
  exact mod_int' (by (first | lia | omega)) (by rw [Int.fmod_eq_emod_of_nonneg i (by (first | lia | omega))]; exact q)
theorem op_modN : OpR X (binaryOp .Mod) (rI (fun _ j => j ≠ 0) fun i j => .int (i.fmod j)) := opI fun _ _ _ _ _ _ _ hc q => mod_int' hc q
theorem op_shl : OpR X (binaryOp .LShift) (rI CPow fun i j => .int (i * 2 ^ j.toNat)) := opI fun _ _ _ _ _ _ _ hc q => lshift_int_small hc.1 hc.2.1 hc.2.2 q
theorem op_shr : OpR X (binaryOp .RShift) (rI (fun _ j => 0 ≤ j) fun i j => .int (i / 2 ^ j.toNat)) := opI fun i j _ _ _ _ _ hc q =>
  rshift_int hc (by rw [Int.fdiv_eq_ediv_of_nonneg i (two_pow_nn _)]; exact q)
theorem op_and : OpR X (binaryOp .BitAnd) (rI0 fun i j => .int (Builtin.bitAnd i j)) := opI0 fun _ _ _ _ _ _ _ q => and_int q
theorem op_xor : OpR X (binaryOp .BitXor) (rI0 fun i j => .int (Builtin.bitXor i j)) := opI0 fun _ _ _ _ _ _ _ q => xor_int q

theorem unI {f : Value → Sem Value} {g : Int → Int}
    (rule : ∀ (i : Int) (t : Tok) (s : Shared) (Q : Value → Shared → Prop) (E : Value → Shared → Prop), Q (.int (g i) s.toks) { s with toks := s.toks + 1 } → wpAny (model X.prog X.w) X.A (f (.int i t)) Q E s) :
    UnR X f (rU fun i => .int (g i)) := by
  intro pins s σ H x v Q I rx h
  obtain ⟨i, rfl, q⟩ := h
  obtain ⟨t, rfl⟩ := rx
  exact rule i t s _ _ ⟨.int (g i), H, I.tok _, ⟨_, rfl⟩, q⟩
theorem un_neg : UnR X (unaryOp .USub) (rU fun i => .int (-i)) := unI fun _ _ _ _ _ q => neg_int q
/-! ### bools among ints: n += (a < b) -/
end

/-! ### comparisons -/
/-- the scalars that == tells apart as data does -/
noncomputable def scal : V → V → Bool
  | .non, .non => true | .non, .int _ => true | .int _, .non => true | .non, .bl _ => true | .bl _, .non => true | .non, .str _ => true | .str _, .non => true
  | .int _, .int _ => true | .bl _, .bl _ => true | .str _, .str _ => true | .byt _, .byt _ => true
  | .int _, .str _ => true | .str _, .int _ => true | .bl _, .str _ => true | .str _, .bl _ => true
  | _, _ => false
noncomputable def rEq : R2 := fun x y H Q => scal x y = true ∧ Q (.bl (decide (x = y))) H
noncomputable def rNe : R2 := fun x y H Q => scal x y = true ∧ Q (.bl (!decide (x = y))) H

theorem dec_int {i j : Int} : decide (V.int i = V.int j) = (i == j) := by
  rw [Bool.eq_iff_iff]
  simp
theorem dec_bl {i j : Bool} : decide (V.bl i = V.bl j) = (i == j) := by
  rw [Bool.eq_iff_iff]
  simp
theorem dec_str {i j : Str} : decide (V.str i = V.str j) = (i == j) := by
  rw [Bool.eq_iff_iff]
  simp
theorem dec_byt {i j : Array UInt8} : decide (V.byt i = V.byt j) = (i.toList == j.toList) := by
  rw [Bool.eq_iff_iff]
  cases i
  cases j
  simp

section
variable {X : Cx} {a b c : Expr} {ta tb tc : TE} {pos : Pos}
theorem fin_bl {pins : List (Addr × Obj)} {σ : St} {H : Hp} {s : Shared} {Q : VK} {k k' : Bool} (I : Inv X pins σ H s) (q : Q (.bl k) H) (e : k = k') : EP X pins σ Q (.bool k') s := by
  subst e
  exact ⟨.bl k, H, I, rfl, q⟩
theorem op_eq : OpR X (compareOp .Eq) rEq := by
  intro pins s σ H x y v u Q I rx ry h
  obtain ⟨hs, q⟩ := h
  cases x with
  | non =>
    cases rx
    cases y with
    | non => cases ry; exact PySem.EqNone.eq_none_none (fin_bl I q (by simp))
    | bl j => cases ry; exact PySem.EqNone.eq_none_bool (fin_bl I q (by simp))
    | int j => obtain ⟨t', rfl⟩ := ry; exact PySem.EqNone.eq_none_int (fin_bl I q (by simp))
    | str j => obtain ⟨t', rfl⟩ := ry; exact PySem.EqNone.eq_none_str (fin_bl I q (by simp))
    | _ => exact absurd (show false = true from hs) Bool.false_ne_true
  | bl i =>
    cases rx
    cases y with
    | non => cases ry; exact PySem.EqNone.eq_bool_none (fin_bl I q (by simp))
    | bl j => cases ry; exact eq_bool (fin_bl I q dec_bl)
    | str j => obtain ⟨t', rfl⟩ := ry; exact PySem.EqMixed.eq_bool_str (fin_bl I q (by simp))
    | _ => exact absurd (show false = true from hs) Bool.false_ne_true
  | int i =>
    obtain ⟨t, rfl⟩ := rx
    cases y with
    | non => cases ry; exact PySem.EqNone.eq_int_none (fin_bl I q (by simp))
    | int j => obtain ⟨t', rfl⟩ := ry; exact eq_int (fin_bl I q dec_int)
    | str j => obtain ⟨t', rfl⟩ := ry; exact PySem.EqMixed.eq_int_str (fin_bl I q (by simp))
    | _ => exact absurd (show false = true from hs) Bool.false_ne_true
  | str i =>
    obtain ⟨t, rfl⟩ := rx
    cases y with
    | non => cases ry; exact PySem.EqNone.eq_str_none (fin_bl I q (by simp))
    | bl j => cases ry; exact PySem.EqMixed.eq_str_bool (fin_bl I q (by simp))
    | int j => obtain ⟨t', rfl⟩ := ry; exact PySem.EqMixed.eq_str_int (fin_bl I q (by simp))
    | str j => obtain ⟨t', rfl⟩ := ry; exact eq_str (fin_bl I q dec_str)
    | _ => exact absurd (show false = true from hs) Bool.false_ne_true
  | byt i =>
    obtain ⟨t, rfl⟩ := rx
    cases y with
    | byt j => obtain ⟨t', rfl⟩ := ry; exact PySem.W.eq_bytes (fin_bl I q dec_byt)
    | _ => exact absurd (show false = true from hs) Bool.false_ne_true
  | _ => cases y <;> exact absurd (show false = true from hs) Bool.false_ne_true
theorem op_ne : OpR X (compareOp .NotEq) rNe := by
  intro pins s σ H x y v u Q I rx ry h
  obtain ⟨hs, q⟩ := h
  cases x with
  | non =>
    cases rx
    cases y with
    | non => cases ry; exact PySem.EqNone.ne_none_none (fin_bl I q (by simp))
    | bl j => cases ry; exact PySem.EqNone.ne_none_bool (fin_bl I q (by simp))
    | int j => obtain ⟨t', rfl⟩ := ry; exact PySem.EqNone.ne_none_int (fin_bl I q (by simp))
    | str j => obtain ⟨t', rfl⟩ := ry; exact PySem.EqNone.ne_none_str (fin_bl I q (by simp))
    | _ => exact absurd (show false = true from hs) Bool.false_ne_true
  | bl i =>
    cases rx
    cases y with
    | non => cases ry; exact PySem.EqNone.ne_bool_none (fin_bl I q (by simp))
    | bl j => cases ry; exact ne_bool (fin_bl I q (congrArg not dec_bl))
    | str j => obtain ⟨t', rfl⟩ := ry; exact PySem.EqMixed.ne_bool_str (fin_bl I q (by simp))
    | _ => exact absurd (show false = true from hs) Bool.false_ne_true
  | int i =>
    obtain ⟨t, rfl⟩ := rx
    cases y with
    | non => cases ry; exact PySem.EqNone.ne_int_none (fin_bl I q (by simp))
    | int j => obtain ⟨t', rfl⟩ := ry; exact ne_int (fin_bl I q (congrArg not dec_int))
    | str j => obtain ⟨t', rfl⟩ := ry; exact PySem.EqMixed.ne_int_str (fin_bl I q (by simp))
    | _ => exact absurd (show false = true from hs) Bool.false_ne_true
  | str i =>
    obtain ⟨t, rfl⟩ := rx
    cases y with
    | non => cases ry; exact PySem.EqNone.ne_str_none (fin_bl I q (by simp))
    | bl j => cases ry; exact PySem.EqMixed.ne_str_bool (fin_bl I q (by simp))
    | int j => obtain ⟨t', rfl⟩ := ry; exact PySem.EqMixed.ne_str_int (fin_bl I q (by simp))
    | str j => obtain ⟨t', rfl⟩ := ry; exact ne_str (fin_bl I q (congrArg not dec_str))
    | _ => exact absurd (show false = true from hs) Bool.false_ne_true
  | byt i =>
    obtain ⟨t, rfl⟩ := rx
    cases y with
    | byt j => obtain ⟨t', rfl⟩ := ry; exact PySem.W.ne_bytes (fin_bl I q (congrArg not dec_byt))
    | _ => exact absurd (show false = true from hs) Bool.false_ne_true
  | _ => cases y <;> exact absurd (show false = true from hs) Bool.false_ne_true

theorem op_lt : OpR X (compareOp .Lt) (rI0 fun i j => .bl (decide (i < j))) := opB0 fun _ _ _ _ _ _ _ q => lt_int q
theorem op_le : OpR X (compareOp .LtE) (rI0 fun i j => .bl (decide (i ≤ j))) := opB0 fun _ _ _ _ _ _ _ q => le_int q
theorem op_gt : OpR X (compareOp .Gt) (rI0 fun i j => .bl (decide (j < i))) := opB0 fun _ _ _ _ _ _ _ q => gt_int q
theorem op_ge : OpR X (compareOp .GtE) (rI0 fun i j => .bl (decide (j ≤ i))) := opB0 fun _ _ _ _ _ _ _ q => ge_int q
/-- is None, is not None: the right side a value none -/
theorem op_isN : OpR X (compareOp .Is) (fun x y H Q => y = .non ∧ Q (.bl (decide (x = .non))) H) := by
  intro pins s σ H x y v u Q I rx ry h
  obtain ⟨rfl, q⟩ := h
  cases ry
  refine is_none_gen (fin_bl I q ?_)
  cases x <;> first
    | (cases rx; rfl)
    | (obtain ⟨t, rfl⟩ := rx; rfl)
theorem op_notin_str : OpR X (compareOp .NotIn) (fun x y H Q => ∃ i j, x = .str i ∧ y = .str j ∧ Q (.bl (!(!(Builtin.Str.occurrences j i 0 j.length 1).isEmpty))) H) := by
  intro pins s σ H x y v u Q I rx ry h
  obtain ⟨i, j, rfl, rfl, q⟩ := h
  obtain ⟨t, rfl⟩ := rx
  obtain ⟨t', rfl⟩ := ry
  exact notIn_str (fin_bl I q rfl)
/-- is, is not of two objects that are tracked lists or instances -/
noncomputable def isObj : HO → Bool
  | .lst _ => true
  | .ins _ _ _ => true
  | _ => false
theorem nomark (b : Expr) {op : CmpOp} (h : op ≠ .In := by decide) (h2 : op ≠ .NotIn := by decide) : behindInMarks op b = false := by
  have e1 : (op == CmpOp.In) = false := by cases op <;> first | rfl | exact absurd rfl h
  have e2 : (op == CmpOp.NotIn) = false := by cases op <;> first | rfl | exact absurd rfl h2
  cases b <;> simp [behindInMarks, e1, e2]
/-- a comparison as a value; hm: nomark b, or (for in, not in) by with_unfolding_all rfl -/
theorem pe_cmpR {op : CmpOp} {r : R2} (ho : OpR X (compareOp op) r) (ha : PE X a ta) (hb : PE X b tb) (hm : behindInMarks op b = false) : PE X (.Compare a [op] [b] pos) (tOp r ta tb) := by
  intro pins s σ H Q I h
  exact wpAny_Compare1 (binT ha hb I h fun v u s2 x y H2 I2 rx ry q => ho pins s2 σ H2 x y v u Q I2 rx ry q) hm
/-- a reading of a value as a test -/
noncomputable def tTest (t : TE) : TT := fun σ H Q => t σ H fun x H' => ∃ k, x = .bl k ∧ Q k H'
theorem pt_cmpR {op : CmpOp} {r : R2} (ho : OpR X (compareOp op) r) (ha : PE X a ta) (hb : PE X b tb) (hm : behindInMarks op b = false) : PT X (.Compare a [op] [b] pos) (tTest (tOp r ta tb)) := by
  intro pins s σ H Q I h
  refine wpAny_isTrue_Compare1 (thn (ha pins s σ H _ I h) fun v s1 ⟨x, H1, I1, r1, q1⟩ => thn (hb pins s1 σ H1 _ I1 q1) fun u s2 ⟨y, H2, I2, r2, q2⟩ =>
    thn (ho pins s2 σ H2 x y v u _ I2 r1 r2 q2) fun c s3 ⟨z, H3, I3, r3, k, e, q3⟩ => ?_) hm
  subst e
  cases r3
  exact wpAny_truthy_bool ⟨H3, I3, q3⟩
/-- a op1 b op2 c -/
noncomputable def tChain (r r' : R2) (ta tb tc : TE) : TE := fun σ H Q => ta σ H fun x H1 => tb σ H1 fun y H2 => r x y H2 fun z H3 => ∃ k, z = .bl k ∧
  (if k = true then tc σ H3 fun w' H4 => r' y w' H4 Q else Q (.bl false) H3)
theorem pe_chain {op op' : CmpOp} {r r' : R2} (ho : OpR X (compareOp op) r) (ho' : OpR X (compareOp op') r') (ha : PE X a ta) (hb : PE X b tb) (hc : PE X c tc)
    (hm : lastMarks [op, op'] [b, c] = false := by with_unfolding_all rfl) : PE X (.Compare a [op, op'] [b, c] pos) (tChain r r' ta tb tc) := by
  intro pins s σ H Q I h
  refine Compare_chain (thn (ha pins s σ H _ I h) fun v s1 ⟨x, H1, I1, r1, q1⟩ => chain_link (thn (hb pins s1 σ H1 _ I1 q1) fun u s2 ⟨y, H2, I2, r2, q2⟩ =>
    thn (ho pins s2 σ H2 x y v u _ I2 r1 r2 q2) fun d s3 ⟨z, H3, I3, r3, k, e, q3⟩ => ?_)) hm
  subst e
  cases r3
  refine wpAny_truthy_bool ?_
  cases k with
  | false => exact ite_ff ⟨.bl false, H3, I3, rfl, q3⟩
  | true => exact ite_tt (chain_last (thn (hc pins s3 σ H3 _ I3 q3) fun w' s4 ⟨z', H4, I4, r4, q4⟩ => ho' pins s4 σ H4 y z' u w' Q I4 r2 r4 q4))
/-! ### truth -/
/-- a value's truth by the abstract heap -/
noncomputable def TruV (K : PySem.W.Frag) (x : V) (H : Hp) (k : Bool) : Prop :=
  match x with
  | .non => k = false
  | .bl b => k = b
  | .int i => k = (i != 0)
  | .str y => y.length ≤ sizeLine ∧ k = ((y.length : Int) != 0)
  | .byt y => y.size ≤ sizeLine ∧ k = ((y.size : Int) != 0)
  | .ref p => (∃ xs, SqL K H p xs ∧ k = !xs.isEmpty) ∨ (∃ xs, SqT K H p xs ∧ k = !xs.isEmpty) ∨ ∃ kvs, H p = some (.dK kvs) ∧ k = !kvs.isEmpty
  | _ => False
theorem line63 : (sizeLine : Nat) < 2 ^ 63 := by rw [sizeLine_eq]; decide
/-! ### strs and bytes -/
theorem op_add_str : OpR X (binaryOp .Add) (fun x y H Q => ∃ i j, x = .str i ∧ y = .str j ∧ i.length + j.length ≤ sizeLine ∧ Q (.str (i ++ j)) H) := by
  intro pins s σ H x y v u Q I rx ry h
  obtain ⟨i, j, rfl, rfl, hz, q⟩ := h
  obtain ⟨t, rfl⟩ := rx
  obtain ⟨t', rfl⟩ := ry
  exact add_str (fun t' tk => ⟨.str (i ++ j), H, I.tok _, ⟨_, rfl⟩, q⟩) hz
noncomputable def PlainIxT (b : Expr) : Prop := ∀ o i, subscripted b false o i = operate [o, i] (getItem o i)
/-! ### scalar builtins, by CallR -/
theorem vals1 {x : V} {us : List Value} (r : Vals [x] us) : ∃ u, us = [u] ∧ RelV x u := by
  cases r with
  | cons r1 r2 => cases r2; exact ⟨_, rfl, r1⟩
theorem vals2 {x y : V} {us : List Value} (r : Vals [x, y] us) : ∃ u w', us = [u, w'] ∧ RelV x u ∧ RelV y w' := by
  cases r with
  | cons r1 r2 =>
    cases r2 with
    | cons r3 r4 => cases r4; exact ⟨_, _, rfl, r1, r3⟩
theorem call_max2 (hc : X.calm = true) : CallR X (.builtin "max") (fun xs H Q => ∃ i j, xs = [.int i, .int j] ∧ Q (.int (if j > i then j else i)) H) := by
  intro pins s σ H xs us Q I r h
  obtain ⟨i, j, rfl, q⟩ := h
  obtain ⟨u, w', rfl, ⟨t, rfl⟩, ⟨t', rfl⟩⟩ := vals2 r
  refine max_two_ints (I.ok.hd hc) fun h' tk k => ⟨_, H, I.kept k, ?_, q⟩
  by_cases hj : j > i
  · rw [if_pos hj, if_pos hj]; exact ⟨_, rfl⟩
  · rw [if_neg hj, if_neg hj]; exact ⟨_, rfl⟩
theorem call_min2 (hc : X.calm = true) : CallR X (.builtin "min") (fun xs H Q => ∃ i j, xs = [.int i, .int j] ∧ Q (.int (if j < i then j else i)) H) := by
  intro pins s σ H xs us Q I r h
  obtain ⟨i, j, rfl, q⟩ := h
  obtain ⟨u, w', rfl, ⟨t, rfl⟩, ⟨t', rfl⟩⟩ := vals2 r
  refine min_two_ints (I.ok.hd hc) fun h' tk k => ⟨_, H, I.kept k, ?_, q⟩
  by_cases hj : j < i
  · rw [if_pos hj, if_pos hj]; exact ⟨_, rfl⟩
  · rw [if_neg hj, if_neg hj]; exact ⟨_, rfl⟩
/-- len of a str, a bytes, a list, a tuple -/
noncomputable def LenV (K : PySem.W.Frag) (x : V) (H : Hp) (n : Nat) : Prop :=
  match x with
  | .str y => y.length ≤ sizeLine ∧ n = y.length
  | .byt y => y.size ≤ sizeLine ∧ n = y.size
  | .ref p => (∃ xs, SqL K H p xs ∧ n = xs.length) ∨ ∃ xs, SqT K H p xs ∧ n = xs.length
  | _ => False
end
end L2

namespace L2
open PySem PySem.Spec PyProof.Rows

/-! ### an instance, its attributes a map -/
structure ObjM (h : Heap) (x dx C : Addr) (mA : Str → Option Value) : Prop where
  obj : h.get? x = some (PySem.W.instObj C dx)
  ns : h.Ns1 dx mA
  ne : dx ≠ x

theorem lookIn_ns {h : Heap} {dx : Addr} {mA : Str → Option Value} (n : h.Ns1 dx mA) : ∃ od, h.get? dx = some od ∧ ∀ name, PySem.W.lookIn name od = some (mA name) := by
  obtain ⟨o, es, ep, ho, hd, hk, _, hm⟩ := n
  refine ⟨o, ho, fun name => ?_⟩
  have e := hm name
  unfold nsFind findBy at e
  rw [← Array.find?_toList] at e
  unfold PySem.W.lookIn
  rw [hd]
  dsimp only
  split
  · rename_i y q
    rw [q] at e
    exact congrArg some e
  · rename_i q
    rw [q] at e
    have a : es.toList.any (·.refKey) = false := by
      rw [List.any_eq_false]
      intro y hy
      obtain ⟨z, t, hkey⟩ := hk y (Array.mem_toList_iff.mp hy)
      simp [DictEntry.refKey, hkey]
    have a' : ¬ es.toList.any (·.refKey) = true := by rw [a]; exact Bool.false_ne_true
    rw [if_neg a']
    exact congrArg some e

theorem ObjM.look {h : Heap} {x dx C : Addr} {mA : Str → Option Value} (I : ObjM h x dx C mA) : ∃ od, PySem.W.InstAt h x (PySem.W.instObj C dx) C (some od) ∧ ∀ name, PySem.W.lookIn name od = some (mA name) :=
  let ⟨od, ho, hl⟩ := lookIn_ns I.ns
  ⟨od, ⟨I.obj, rfl, rfl, ho⟩, hl⟩

section
variable {prog : Program} {w : World} {A : Around} {E : Value → Shared → Prop} {s : Shared} {K : PySem.W.Frag} {x dx C f : Addr} {mA : Str → Option Value} {name : Str} {v : Value}

end

/-! ### the attributes as a list of pairs -/
noncomputable def putF (f : Str) (v : V) : List (Str × V) → List (Str × V)
  | [] => [(f, v)]
  | (g, x) :: r => if g = f then (g, v) :: r else (g, x) :: putF f v r
theorem lookup_putF (f g : Str) (v : V) : ∀ fs : List (Str × V), (putF f v fs).lookup g = if g = f then some v else fs.lookup g
  | [] => by
    show List.lookup g [(f, v)] = _
    by_cases h : g = f
    · have hb : (g == f) = true := beq_iff_eq.mpr h
      simp only [List.lookup, hb, if_pos h]
    · have hb : (g == f) = false := beq_eq_false_iff_ne.mpr h
      simp only [List.lookup, hb, if_neg h]
  | (k, x) :: r => by
    have ih := lookup_putF f g v r
    rw [show putF f v ((k, x) :: r) = (if k = f then (k, v) :: r else (k, x) :: putF f v r) from rfl]
    by_cases hk : k = f
    · rw [if_pos hk]
      by_cases h : g = k
      · have hb : (g == k) = true := beq_iff_eq.mpr h
        simp only [List.lookup, hb, if_pos (h.trans hk)]
      · have hb : (g == k) = false := beq_eq_false_iff_ne.mpr h
        simp only [List.lookup, hb, if_neg (fun e : g = f => h (e.trans hk.symm))]
    · rw [if_neg hk]
      by_cases h : g = k
      · have hb : (g == k) = true := beq_iff_eq.mpr h
        simp only [List.lookup, hb, if_neg (fun e : g = f => hk (h.symm.trans e))]
      · have hb : (g == k) = false := beq_eq_false_iff_ne.mpr h
        simp only [List.lookup, hb]
        exact ih
theorem RelO.some_of {v : V} {o : Option Value} (r : RelO (some v) o) : ∃ u, o = some u ∧ RelV v u := by
  cases o with
  | none => exact (show False from r).elim
  | some u => exact ⟨u, rfl, r⟩
theorem RelO.none_of {o : Option Value} (r : RelO none o) : o = none := by
  cases o with
  | none => rfl
  | some u => exact (show False from r).elim
theorem handed_of {v : V} {u : Value} (r : RelV v u) : PySem.W.handedIn u = true := by
  cases v with
  | non => cases (show u = Value.none from r); rfl
  | bl b => cases (show u = Value.bool b from r); rfl
  | int i => obtain ⟨t, e⟩ := (show ∃ t, u = Value.int i t from r); cases e; rfl
  | str x => obtain ⟨t, e⟩ := (show ∃ t, u = Value.str x t from r); cases e; rfl
  | byt b => obtain ⟨t, e⟩ := (show ∃ t, u = Value.bytes b t from r); cases e; rfl
  | flt b => obtain ⟨t, e⟩ := (show ∃ t, u = Value.float b t from r); cases e; rfl
  | ref a => cases (show u = Value.ref a from r); rfl
  | ty n => cases (show u = Value.type n from r); rfl

section
variable {P : Program} {w : World} {H H' : Hp} {h h' : Heap} {a C dx : Addr} {fs fs' : List (Str × V)}
theorem ins_get (hok : HOk P w H h) (e : H a = some (.ins C dx fs)) : ∃ mA, ObjM h a dx C mA ∧ (∀ f, RelO (fs.lookup f) (mA f)) ∧ PySem.Within mA (fs.map (·.1)) ∧ fs.length ≤ 1000 ∧ H dx = some (.own a) := by
  obtain ⟨d, z, ne, ob, mA, n, r, q⟩ := (show ObjOk P w H h a (.ins C dx fs) from hok a _ e)
  exact ⟨mA, ⟨ob, n, ne⟩, r, q, z, d⟩
end

/-! ### what of the text a class must have -/
structure Cls (K : PySem.W.Frag) (C : Addr) : Prop where
  pg : PySem.W.plainGet K C Str.empty = true
  hd : PySem.W.hasDictIn K C = true
  po : PySem.W.plainOver K C = true
  sa : PySem.W.findIn K (.ref C) "__setattr__" = some (some (.builtin "object.__setattr__"))
theorem Cls.get {K : PySem.W.Frag} {C : Addr} (c : Cls K C) (f : Str) : PySem.W.plainGet K C f = true := c.pg
/-- no class of it has the name -/
noncomputable def NoAttr (K : PySem.W.Frag) (C : Addr) (f : Str) : Prop := PySem.W.findIn K (.ref C) f = some none
/-- a constant of the class -/
structure Con (K : PySem.W.Frag) (C : Addr) (f : Str) (v : V) (u : Value) : Prop where
  at_ : PySem.W.findIn K (.ref C) f = some (some u)
  rel : RelV v u
  get : PySem.W.specialIn K u "__get__" = some none
  cp : PySem.W.copiedNames.contains f = false
/-- a method: a plain def of the class or of one above it -/
structure Meth (K : PySem.W.Frag) (C : Addr) (m : Str) (f : Addr) : Prop where
  at_ : PySem.W.findIn K (.ref C) m = some (some (.ref f))
  fn : PySem.W.isFn K (.ref f) = true
  kp : PySem.W.keepIn K (.ref f) = true

section
variable {X : Cx} {pins : List (Addr × Obj)} {σ : St} {H : Hp} {s : Shared} {a C dx : Addr} {fs : List (Str × V)} {f : Str} {v : V} {A : Around} {E : Value → Shared → Prop}

/-- e.f where nothing but the object is asked: through attributeBase (super) and the last hold -/
theorem attr_of {prog : Program} {w : World} {env : Env} {e : Expr} {f : Str} {pos : Pos} {s : Shared} {Q : Value → Shared → Prop} (hb : attributeBase e f env (eval e env) = eval e env)
    (h : wpAny (model prog w) A (eval e env) (fun o s₁ => wpAny (model prog w) A (getAttr o f true) Q E s₁) E s) : wpAny (model prog w) A (eval (.Attribute e f pos) env) Q E s :=
  Attribute_any_ h (by rw [arm_eval_Attribute, hb])
end

/-! ### readings and rules -/
/-- e.f, an attribute of the instance -/
noncomputable def tFld (K : PySem.W.Frag) (ta : TE) (f : Str) : TE := fun σ H Q => ta σ H fun x H1 => ∃ a C dx fs v, x = .ref a ∧ H1 a = some (.ins C dx fs) ∧ Cls K C ∧ NoAttr K C f ∧ fs.lookup f = some v ∧ Q v H1
/-- e.f, a constant of the class -/
noncomputable def tCon (K : PySem.W.Frag) (ta : TE) (f : Str) : TE := fun σ H Q => ta σ H fun x H1 => ∃ a C dx fs v u, x = .ref a ∧ H1 a = some (.ins C dx fs) ∧ Cls K C ∧ Con K C f v u ∧ fs.lookup f = none ∧ Q v H1
/-- e.f = value -/
noncomputable def sFld (K : PySem.W.Frag) (ta tv : TE) (f : Str) : TS := fun D σ H => tv σ H fun y H1 => ta σ H1 fun x H2 => ∃ a C dx fs, x = .ref a ∧ H2 a = some (.ins C dx fs) ∧ Cls K C ∧ NoAttr K C f ∧ fs.length < 1000 ∧
  D.nx σ (upd H2 a (.ins C dx (putF f y fs)))
/-- an augmented operator on two values -/
noncomputable def InOp (X : Cx) (op : Operator) (rd : V → V → Hp → VK → Prop) : Prop :=
  ∀ (pins : List (Addr × Obj)) (s : Shared) (σ : St) (H : Hp) (x y : V) (u v : Value) (Q : VK), Inv X pins σ H s → RelV x u → RelV y v → rd x y H Q → wpAny (model X.prog X.w) X.A (inplaceOp op u v) (EP X pins σ Q) X.xe s
/-- e.f op= value -/
noncomputable def sFldAug (K : PySem.W.Frag) (ta tv : TE) (rd : V → V → Hp → VK → Prop) (f : Str) : TS := fun D σ H => ta σ H fun x H1 => ∃ a C dx fs v, x = .ref a ∧ H1 a = some (.ins C dx fs) ∧ Cls K C ∧ NoAttr K C f ∧ fs.lookup f = some v ∧
  tv σ H1 fun y H2 => rd v y H2 fun z H3 => ∃ dx' fs', H3 a = some (.ins C dx' fs') ∧ fs'.length < 1000 ∧ D.nx σ (upd H3 a (.ins C dx' (putF f z fs')))

section
variable {X : Cx} {o e value : Expr} {f : Str} {pos pos' tpos : Pos} {ta tv : TE}
noncomputable def rAdd : V → V → Hp → VK → Prop := fun x y H Q => ∃ i j, x = .int i ∧ y = .int j ∧ Q (.int (i + j)) H
noncomputable def rSub : V → V → Hp → VK → Prop := fun x y H Q => ∃ i j, x = .int i ∧ y = .int j ∧ Q (.int (i - j)) H
end

/-! ### isinstance -/
section
variable {X : Cx} {pins : List (Addr × Obj)} {σ : St} {H : Hp} {s : Shared} {A : Around} {E : Value → Shared → Prop} {Q : Value → Shared → Prop} {c : Value} {b : Bool}
/-- the type of a value, as the fragment's deciders take it; for an instance its class -/
inductive TyOf (K : PySem.W.Frag) (H : Hp) : V → Value → Prop where
  | non : TyOf K H .non (.type "NoneType")
  | bl (x : Bool) : TyOf K H (.bl x) (.type "bool")
  | int (i : Int) : TyOf K H (.int i) (.type "int")
  | str (x : Str) : TyOf K H (.str x) (.type "str")
  | flt (x : UInt64) : TyOf K H (.flt x) (.type "float")
  | lst {a : Addr} {xs : List V} (e : H a = some (.lst xs)) : TyOf K H (.ref a) (.type "list")
  | frz {a : Addr} {o : Obj} {xs : List V} (e : H a = some (.frz o (.lst xs))) : TyOf K H (.ref a) (.type "list")
  | tup {a : Addr} {xs : List V} (e : H a = some (.tup xs)) : TyOf K H (.ref a) (.type "tuple")
  | dK {a : Addr} {kvs : List (Key × V)} (e : H a = some (.dK kvs)) : TyOf K H (.ref a) (.type "dict")
  | dT {a : Addr} {kvs : List (List Key × V)} (e : H a = some (.dT kvs)) : TyOf K H (.ref a) (.type "dict")
  | ins {a C dx : Addr} {fs : List (Str × V)} (e : H a = some (.ins C dx fs)) (cl : Cls K C) (ha : PySem.W.findIn K (.ref C) "__class__" = some (some (.builtin "object.__class__")))
      (hn : PySem.W.specialIn K (.builtin "object.__class__") "__get__" = some (some (.builtin "getset_descriptor.__get__"))) (htk : PySem.W.takesIn K (.builtin "object.__class__") = some true)
      (hm : PySem.W.mroIn K C (.type "object") = some true) : TyOf K H (.ref a) (.ref C)
/-- isinstance(x, c) for one class c, a built-in or an own one: kitOne's answer -/
theorem isinst_ok {x : V} {u t : Value} (I : Inv X pins σ H s) (rx : RelV x u) (ty : TyOf X.K H x t) (e : PySem.W.kitOne X.K t c = some b) (h : ∀ tk, Q (.bool b) { s with toks := tk }) :
    wpAny (model X.prog X.w) A (call (.builtin "isinstance") [u, c]) Q E s := by
  cases ty with
  | non => cases (show u = Value.none from rx); exact PySem.W.kia_one PySem.W.kitx_none I.kIn True.intro e (fun z => nomatch z) h
  | bl y => cases (show u = Value.bool y from rx); exact PySem.W.kia_one PySem.W.kitx_bool I.kIn True.intro e (fun z => nomatch z) h
  | int i => obtain ⟨t, q⟩ := (show ∃ t, u = Value.int i t from rx); cases q; exact PySem.W.kia_one PySem.W.kitx_int I.kIn True.intro e (fun z => nomatch z) h
  | str y => obtain ⟨t, q⟩ := (show ∃ t, u = Value.str y t from rx); cases q; exact PySem.W.kia_one PySem.W.kitx_str I.kIn True.intro e (fun z => nomatch z) h
  | flt y => obtain ⟨t, q⟩ := (show ∃ t, u = Value.float y t from rx); cases q; exact PySem.W.kia_one PySem.W.kitx_float I.kIn True.intro e (fun z => nomatch z) h
  | @lst a xs ea =>
    cases (show u = Value.ref a from rx)
    obtain ⟨_, _, n, _, h1⟩ := (show ObjOk X.prog X.w H s.heap a (.lst xs) from I.hok a _ ea)
    exact PySem.W.kia_one PySem.W.kitx_list I.kIn ⟨_, h1, rfl⟩ e (fun z => nomatch z) h
  | @frz a ob xs ea =>
    cases (show u = Value.ref a from rx)
    obtain ⟨_, _, _, n, _, h1⟩ := (show ObjOk X.prog X.w H s.heap a (.frz ob (.lst xs)) from I.hok a _ ea)
    exact PySem.W.kia_one PySem.W.kitx_list I.kIn ⟨_, h1, rfl⟩ e (fun z => nomatch z) h
  | @tup a xs ea =>
    cases (show u = Value.ref a from rx)
    obtain ⟨_, _, _, p⟩ := (show ObjOk X.prog X.w H s.heap a (.tup xs) from I.hok a _ ea)
    obtain ⟨o, h1, h2, _⟩ := p
    exact PySem.W.kia_one PySem.W.kitx_tuple I.kIn ⟨o, h1, h2⟩ e (fun z => nomatch z) h
  | @dK a kvs ea =>
    cases (show u = Value.ref a from rx)
    obtain ⟨_, _, vs, _, p⟩ := (show ObjOk X.prog X.w H s.heap a (.dK kvs) from I.hok a _ ea)
    obtain ⟨o, es, ep, h1, h2, _⟩ := p
    exact PySem.W.kia_one PySem.W.kitx_dict I.kIn ⟨o, h1, h2.1⟩ e (fun z => nomatch z) h
  | @dT a kvs ea =>
    cases (show u = Value.ref a from rx)
    obtain ⟨_, _, xs, _, o, es, ep, h1, h2, _⟩ := (show ObjOk X.prog X.w H s.heap a (.dT kvs) from I.hok a _ ea)
    exact PySem.W.kia_one PySem.W.kitx_dict I.kIn ⟨o, h1, h2.1⟩ e (fun z => nomatch z) h
  | @ins a C dx fs ea cl ha hn htk hm =>
    cases (show u = Value.ref a from rx)
    obtain ⟨mA, O, _⟩ := ins_get I.hok ea
    obtain ⟨od, J, _⟩ := O.look
    exact PySem.W.kia_one (PySem.W.kitx_own (cl.get _) cl.hd ha hn htk hm) I.kIn J e (fun z => nomatch z) h
end
end L2

namespace L2
open PySem PySem.Spec PyProof.Rows

/-! ### room -/
structure Room (k : Nat) (A : Around) : Prop where
  dp : A.depth + 3 * k + 5 < recursionLimit
  un : A.units + 16 * k + 200 < cLine
theorem Room.mono {j k : Nat} {A : Around} (r : Room k A) (h : j ≤ k) : Room j A := ⟨by have := r.dp; (first | lia | omega), by have := r.un; (first | lia | omega)⟩
theorem Room.deeper {k : Nat} {A : Around} (r : Room (k + 1) A) (env : Env) : Room k (A.deeper env) :=
  ⟨by have := r.dp; show A.depth + 1 + 3 * k + 5 < _; (first | lia | omega), by have := r.un; show A.units + 3 + 16 * k + 200 < _; (first | lia | omega)⟩
theorem make_depth {A : Around} {C : Addr} {us : List Value} {kw : List (Str × Value)} : (A.under (.builtin "type.__call__" ⟨.ref C :: us, kw⟩)).depth = A.depth + 1 := by
  first | rfl | simp [Around.under, Code.weight, Code.isCreation, Code.isGuard, Code.isCaller, Code.frames, Code.isFrame, guardIds]
theorem make_units {A : Around} {C : Addr} {us : List Value} {kw : List (Str × Value)} : (A.under (.builtin "type.__call__" ⟨.ref C :: us, kw⟩)).units = A.units + 1 := by
  first | rfl | simp [Around.under, Code.cUnits, Code.frames, Code.isFrame]
theorem Room.make {k : Nat} {A : Around} (r : Room (k + 1) A) (C : Addr) (us : List Value) (kw : List (Str × Value)) : Room k (A.under (.builtin "type.__call__" ⟨.ref C :: us, kw⟩)) :=
  ⟨by have := r.dp; rw [make_depth]; (first | lia | omega), by have := r.un; rw [make_units]; (first | lia | omega)⟩
theorem Room.depth {k : Nat} {A : Around} (r : Room k A) : A.depth < recursionLimit := by have := r.dp; (first | lia | omega)
theorem Room.units {k : Nat} {A : Around} (r : Room k A) : A.units + 64 < cLine := by have := r.un; (first | lia | omega)
/-! ### argument lists and displays -/
noncomputable def tNil : TA := fun _ H Q => Q [] H
noncomputable def tCons (ta : TE) (tr : TA) : TA := fun σ H Q => ta σ H fun x H1 => tr σ H1 fun xs H2 => Q (x :: xs) H2
section
variable {X : Cx} {e : Expr} {es : List Expr} {te : TE} {t : TA} {pos : Pos}
theorem pa_nil : PA X [] tNil := fun _ _ _ _ H Q I h => Calls.spliced_nil ⟨[], H, I, .nil, h⟩
theorem pa_cons (ha : PE X e te) (hr : PA X es t) (hs : starEach (e :: es) X.env = (false, eval e X.env) :: starEach es X.env := by rfl) : PA X (e :: es) (tCons te t) := by
  intro pos pins s σ H Q I h
  rw [hs]
  show wpAny _ _ (spliced ((false, eval e X.env) :: backTo pos (starEach es X.env))) _ _ s
  refine Calls.spliced_cons (thn (ha pins s σ H _ I h) fun u s1 hh56 => ?_)
  obtain ⟨x, H1, I1, r1, q1⟩ := hh56
  exact thn (hr pos pins s1 σ H1 _ I1 q1) fun us s2 hh57 => (by obtain ⟨xs, H2, I2, r2, q2⟩ := hh57; exact ⟨x :: xs, H2, I2, .cons r1 r2, q2⟩)

/-- a tuple, a list of written items -/
noncomputable def tTup (t : TA) : TE := fun σ H Q => t σ H fun xs H1 => xs.length ≤ sizeLine ∧ ∀ p, H1 p = none → Q (.ref p) (upd H1 p (.tup xs))
noncomputable def tLst (t : TA) : TE := fun σ H Q => t σ H fun xs H1 => xs.length ≤ sizeLine ∧ ∀ p, H1 p = none → Q (.ref p) (upd H1 p (.lst xs))
theorem pe_tup {x1} (h : PA X es t) : PE X (.Tuple es x1 pos) (tTup t) := by
  intro pins s σ H Q I hq
  refine wpAny_Tuple_spliced (thn (h pos pins s σ H _ I hq) fun us s1 hh58 => ?_)
  obtain ⟨xs, H1, I1, r, z, q⟩ := hh58
  refine ⟨by rw [← r.length]; exact z, ?_⟩
  have hf : H1 s1.heap.objs.size = none := I1.hok.fresh (Nat.le_refl _)
  refine ⟨.ref s1.heap.objs.size, upd H1 s1.heap.objs.size (.tup xs), I1.laid (t' := s1.toks) (fun b u e => Heap.get?_push_of_some _ e) (Nat.le_refl _) ?_, rfl, q _ hf⟩
  exact ⟨z, us, r, ⟨_, Heap.get?_push_size _ rfl, rfl, _, rfl⟩⟩
theorem pe_lst (h : PA X es t) : PE X (.List es pos) (tLst t) := by
  intro pins s σ H Q I hq
  refine wpAny_List_spliced (thn (h pos pins s σ H _ I hq) fun us s1 hh59 => ?_)
  obtain ⟨xs, H1, I1, r, z, q⟩ := hh59
  refine ⟨by rw [← r.length]; exact z, ?_⟩
  have hf : H1 s1.heap.objs.size = none := I1.hok.fresh (Nat.le_refl _)
  refine ⟨.ref s1.heap.objs.size, upd H1 s1.heap.objs.size (.lst xs), I1.laid (t' := s1.toks) (fun b u e => Heap.get?_push_of_some _ e) (Nat.le_refl _) ?_, rfl, q _ hf⟩
  exact ⟨z, us, 0, r, Heap.get?_push_size _ rfl⟩
end

/-! ### what a def promises -/
/-- a def's promise: the bound arguments in the parameters' order, the heap, the wanted end, the wanted exception -/
noncomputable abbrev Sp := List V → Hp → VK → XK → Prop
/-- how an exception lies behind a call (file 08 gives it): the callers' frames, abstract heap and state ahead of the call, the wish, the exception, the state -/
structure CXT where
  cm : Bool
  sm : Bool
  cx : List Env → Hp → Shared → XK → Value → Shared → Prop

/-- the state at a call -/
structure Env0 (P : Program) (w : World) (K : PySem.W.Frag) (mg : Str → Option Value) (base : Heap) (A : Around) (outer : List Env) (s : Shared) (H : Hp) : Prop where
  frames : A.frames = some outer
  mod : Mod K mg base
  bs : ∀ b o, base.get? b = some o → s.heap.get? b = some o ∧ H b = none
  bsz : base.objs.size ≤ s.heap.objs.size
  funs : s.heap.FunFrames base outer
  frf : ∀ b ∈ frs outer, H b = none
  hok : HOk P w H s.heap
  bare : AllBare s.gens
/-- a call's end -/
noncomputable def CE (outer : List Env) (P : Program) (w : World) (H : Hp) (s : Shared) (Q : VK) (u : Value) (s' : Shared) : Prop :=
  ∃ v H', s'.os = s.os ∧ AllBare s'.gens ∧ Un (frs outer) [] H H' s.heap s'.heap ∧ HOk P w H' s'.heap ∧ RelV v u ∧ Q v H'
noncomputable def CR (CX : CXT) (outer : List Env) (P : Program) (w : World) (H : Hp) (s : Shared) (Q : VK) (E : XK) (r : Result) (s' : Shared) : Prop :=
  match r with
  | .ok (.ret u) => CE outer P w H s Q u s'
  | .ok _ => False
  | .error e => CX.cx outer H s E e s'
structure FnOk (P : Program) (w : World) (K : PySem.W.Frag) (mg : Str → Option Value) (base : Heap) (CX : CXT) (k : Nat) (f : Addr) (fd : FuncData) (ps : List Str) (sp : Sp) : Prop where
  len : ∀ vs H Q E, sp vs H Q E → vs.length = ps.length
  run : ∀ (A : Around) (outer : List Env) (s : Shared) (H : Hp) (args : Args) (us : List Value) (vs : List V) (Q : VK) (E : XK), Room k A → (CX.cm = true → A.handled = none) → (CX.sm = true → Hd A H) → Env0 P w K mg base A outer s H → BindsTo s fd args (ps.zip us) → Vals vs us → sp vs H Q E →
    codeAny (model P w) A (.call (.ref f) args) (CR CX outer P w H s Q E) s
theorem Env0.make {P : Program} {w : World} {K : PySem.W.Frag} {mg : Str → Option Value} {base : Heap} {A : Around} {outer : List Env} {s : Shared} {H : Hp} (e : Env0 P w K mg base A outer s H) (C : Addr) (us : List Value) (kw : List (Str × Value)) :
    Env0 P w K mg base (A.under (.builtin "type.__call__" ⟨.ref C :: us, kw⟩)) outer s H := ⟨by first | exact e.frames | (simpa [Around.under, Code.envs, Code.isFrame, pushEnvs] using e.frames), e.mod, e.bs, e.bsz, e.funs, e.frf, e.hok, e.bare⟩
section
variable {X : Cx} {pins : List (Addr × Obj)} {σ : St} {H : Hp} {s s' : Shared}
/-- from a body: what a callee wants -/
theorem Inv.env0 (I : Inv X pins σ H s) : Env0 X.prog X.w X.K X.mg X.base X.A X.stack s H :=
  ⟨I.ok.frames, I.ok.mod, I.bs, Nat.le_trans I.ok.bsz I.sz, I.stack, I.stkFree, I.hok, I.bare⟩
/-- behind a call -/
theorem Inv.after {Q : VK} {u : Value} (I : Inv X pins σ H s) (h : CE X.stack X.prog X.w H s Q u s') : EP X pins σ Q u s' := by
  obtain ⟨v, H', os, bare, un, hok, r, q⟩ := h
  obtain ⟨hh, g, d, t, os'⟩ := s'
  obtain rfl : os' = s.os := os
  exact ⟨v, H', I.call (h' := hh) (g' := g) (d' := d) (t' := t) (ch := []) un hok bare (fun b z => absurd z (by simp)), r, q⟩
end

/-! ### calls -/
/-- f(..): the written arguments, then the defaults dvs; E: what is wanted of an exception -/
noncomputable def tCall (sp : Sp) (dvs : List V) (E : XK) (t : TA) : TE := fun σ H Q => t σ H fun vs H1 => sp (vs ++ dvs) H1 Q E
/-- o.m(..) of an instance of the class at C -/
noncomputable def tMeth (C : Addr) (m : Str) (sp : Sp) (dvs : List V) (E : XK) (ta : TE) (t : TA) : TE := fun σ H Q => ta σ H fun x H1 => ∃ a dx fs, x = .ref a ∧ H1 a = some (.ins C dx fs) ∧ fs.lookup m = none ∧
  t σ H1 fun vs H2 => sp (x :: (vs ++ dvs)) H2 Q E
/-- C(..): a new instance and its dict, then __init__ -/
noncomputable def tMake (C : Addr) (sp : Sp) (dvs : List V) (E : XK) (t : TA) : TE := fun σ H Q => t σ H fun vs H1 => ∀ x dx, H1 x = none → H1 dx = none → dx ≠ x →
  sp (.ref x :: (vs ++ dvs)) (upd (upd H1 dx (.own x)) x (.ins C dx [])) (fun v H2 => v = .non ∧ Q (.ref x) H2) E

/-- how the parameters are bound: us the positional arguments, kw the keywords' values by name, ds the defaults that fill up -/
noncomputable def Binds (K : PySem.W.Frag) (fd : FuncData) (ps : List Str) (ds : List Value) : Prop :=
  ∀ (s : Shared) (us : List Value), K.In s.heap → (us ++ ds).length = ps.length → BindsTo s fd ⟨us, []⟩ (ps.zip (us ++ ds))
/-- every parameter is given -/
theorem Binds.all {K : PySem.W.Frag} {fd : FuncData} {ps : List Str} (h : ∀ us : List Value, us.length = ps.length → bindArgs fd ⟨us, []⟩ = pure (ps.zip us)) : Binds K fd ps [] := fun s us _ hl => by
  rw [List.append_nil] at hl ⊢
  exact .of_eq (h us hl)

/-- an exception of a callee reaches what this body wants of exceptions -/
noncomputable def Passes (CX : CXT) (X : Cx) (E : XK) : Prop := (CX.cm = true → X.calm = true) ∧ CX.sm = false ∧ ∀ (pins : List (Addr × Obj)) (σ : St) (H : Hp) (s : Shared) (e : Value) (s' : Shared), Inv X pins σ H s → CX.cx X.stack H s E e s' → X.xe e s'

section
variable {X : Cx} {CX : CXT} {k : Nat} {f C : Addr} {fd : FuncData} {ps : List Str} {sp : Sp} {dvs : List V} {ds : List Value} {E : XK} {x m : Str} {p pos apos : Pos} {e o : Expr} {es : List Expr} {ta : TE} {t : TA}

/-- the callee runs -/
theorem run_fn {pins : List (Addr × Obj)} {σ : St} {H : Hp} {s : Shared} {Q : VK} {us : List Value} {vs : List V} (F : FnOk X.prog X.w X.K X.mg X.base CX k f fd ps sp) (hr : Room k X.A) (hb : Binds X.K fd ps ds) (hd : Vals dvs ds) (hx : Passes CX X E)
    (I : Inv X pins σ H s) (r : Vals vs us) (h : sp (vs ++ dvs) H Q E) : wpAny (model X.prog X.w) X.A (call (.ref f) us) (EP X pins σ Q) X.xe s := by
  have r2 : Vals (vs ++ dvs) (us ++ ds) := r.append hd
  have hl : (us ++ ds).length = ps.length := by rw [← r2.length]; exact F.len _ _ _ _ h
  refine wpAny_call (codeAny_mono (F.run X.A X.stack s H ⟨us, []⟩ (us ++ ds) (vs ++ dvs) Q E hr (fun z => I.ok.hd (hx.1 z)) (fun z => by rw [hx.2.1] at z; cases z) I.env0 (hb s us I.kIn hl) r2 h) fun r s' hq => ?_)
  cases r with
  | error e => exact hx.2.2 pins σ H s e s' I hq
  | ok fl =>
    cases fl with
    | ret u => exact I.after hq
    | next => exact False.elim hq
    | brk => exact False.elim hq
    | cont => exact False.elim hq

theorem pe_call (F : FnOk X.prog X.w X.K X.mg X.base CX k f fd ps sp) (hr : Room k X.A) (hg : Gl X x) (hm : X.mg x = some (.ref f)) (hk : PySem.W.keepIn X.K (.ref f) = true) (hb : Binds X.K fd ps ds) (hd : Vals dvs ds) (hx : Passes CX X E)
    (ha : PA X (e :: es) t) (hdb : (x == ("__debug__" : Str)) = false := by decide) (he : starEach (e :: es) X.env = (false, eval e X.env) :: starEach es X.env := by rfl) (hpl : (backTo pos (starEach es X.env)).any (·.1) = false := by rfl) :
    PE X (.Call (.Name x p) (e :: es) [] pos) (tCall sp dvs E t) := by
  intro pins s σ H Q I h
  refine wpAny_Call_Name_kw (ld_glob I hg hm ?_ hdb)
  refine PySem.W.callWith_K (h₀ := X.base) I.ok.mod.kin hk (thn (ha pos pins s σ H _ I h) fun us s1 hh60 => ?_) he hpl
  obtain ⟨vs, H1, I1, r, q⟩ := hh60
  refine ⟨I1.kIn, ?_⟩
  exact run_fn F hr hb hd hx I1 r q
/-- what a class must have to be made -/
structure Mk (K : PySem.W.Frag) (C f : Addr) : Prop where
  makes : PySem.W.makesIn K C = true
  init : PySem.W.findIn K (.ref C) "__init__" = some (some (.ref f))
  fn : PySem.W.isFn K (.ref f) = true
  kp : PySem.W.keepIn K (.ref C) = true

end

/-! ### keywords -/
/-- the values of the keywords, from the left -/
noncomputable def PK (X : Cx) (kws : List Keyword) (t : TA) : Prop :=
  ∀ (pos : Pos) (pins : List (Addr × Obj)) (s : Shared) (σ : St) (H : Hp) (Q : List V → Hp → Prop), Inv X pins σ H s → t σ H Q → wpAny (model X.prog X.w) X.A (evalAll ((backToKw pos (keywordEach kws X.env)).map (·.2))) (AP X pins σ Q) X.xe s
section
variable {X : Cx} {CX : CXT} {k : Nat} {f C : Addr} {fd : FuncData} {ps ks : List Str} {sp : Sp} {E : XK} {x m : Str} {p pos apos kpos : Pos} {e o : Expr} {es : List Expr} {kws : List Keyword} {te ta : TE} {t tk : TA} {nm : Option Str}
/-- how a call with keywords binds: g puts the positional values us and the keywords' values ws (names ks) in the parameters' order, defaults among them -/
structure KBinds (K : PySem.W.Frag) (fd : FuncData) (ps ks : List Str) (g : List Value → List Value → List Value) (gV : List V → List V → List V) : Prop where
  to : ∀ (s : Shared) (us ws : List Value), K.In s.heap → (g us ws).length = ps.length → BindsTo s fd ⟨us, ks.zip ws⟩ (ps.zip (g us ws))
  rel : ∀ {vs : List V} {us : List Value} {zs : List V} {ws : List Value}, Vals vs us → Vals zs ws → Vals (gV vs zs) (g us ws)
noncomputable def tCallK (sp : Sp) (gV : List V → List V → List V) (E : XK) (t tk : TA) : TE := fun σ H Q => t σ H fun vs H1 => tk σ H1 fun zs H2 => sp (gV vs zs) H2 Q E
variable {g : List Value → List Value → List Value} {gV : List V → List V → List V}
end

/-! ### a def's body keeps its promise -/
/-- names: the parameters first -/
structure FnScope (N P : List Str) (sc : Scope) : Prop where
  kind : sc.kind = .function
  co : sc.isCoroutine = false
  gen : sc.isGenerator = false
  nd : N.Nodup
  pre : N.take P.length = P
  par : ∀ x ∈ P, sc.names.lookup x = some .local ∨ sc.names.lookup x = some .cell
  nofree : ∀ y ∈ sc.names, y.2 ≠ .free

theorem bindL_out {kindOf : Str → Option NameKind} {x : Str} : ∀ {binds : List (Str × Value)} {m : Str → Option Value}, (∀ v, (x, v) ∉ binds) → bindL kindOf binds m x = m x
  | [], _, _ => rfl
  | (n, v) :: r, m, h => by
    unfold bindL
    rw [bindL_out fun w hw => h w (List.mem_cons_of_mem _ hw)]
    split
    · have : x ≠ n := by rintro rfl; exact h v List.mem_cons_self
      simp [this]
    · rfl
theorem bindC_out {kindOf : Str → Option NameKind} {x : Str} : ∀ {binds : List (Str × Value)} {m : Str → Option Value}, (∀ v, (x, v) ∉ binds) → bindC kindOf binds m x = m x
  | [], _, _ => rfl
  | (n, v) :: r, m, h => by
    unfold bindC
    rw [bindC_out fun w hw => h w (List.mem_cons_of_mem _ hw)]
    split
    · rfl
    · have : x ≠ n := by rintro rfl; exact h v List.mem_cons_self
      simp [this]
theorem bindL_get {kindOf : Str → Option NameKind} {x : Str} {v : Value} : ∀ {P : List Str} {vs : List Value} {i : Nat} {m : Str → Option Value}, P.Nodup → P[i]? = some x → vs[i]? = some v → kindOf x = some .local →
    bindL kindOf (P.zip vs) m x = some v
  | [], _, _, _, _, h, _, _ => by simp at h
  | _ :: _, [], _, _, _, _, h, _ => by simp at h
  | p :: P, w :: vs, 0, m, nd, h1, h2, hk => by
    simp at h1 h2; subst h1; subst h2
    show bindL kindOf ((p, w) :: P.zip vs) m p = _
    unfold bindL
    rw [bindL_out fun v hv => (List.nodup_cons.mp nd).1 (List.of_mem_zip hv).1, if_pos hk]
    simp
  | p :: P, w :: vs, i + 1, m, nd, h1, h2, hk => by
    show bindL kindOf ((p, w) :: P.zip vs) m x = _
    unfold bindL
    exact bindL_get (i := i) (List.nodup_cons.mp nd).2 (by simpa using h1) (by simpa using h2) hk
theorem bindC_get {kindOf : Str → Option NameKind} {x : Str} {v : Value} : ∀ {P : List Str} {vs : List Value} {i : Nat} {m : Str → Option Value}, P.Nodup → P[i]? = some x → vs[i]? = some v → kindOf x ≠ some .local →
    bindC kindOf (P.zip vs) m x = some v
  | [], _, _, _, _, h, _, _ => by simp at h
  | _ :: _, [], _, _, _, _, h, _ => by simp at h
  | p :: P, w :: vs, 0, m, nd, h1, h2, hk => by
    simp at h1 h2; subst h1; subst h2
    show bindC kindOf ((p, w) :: P.zip vs) m p = _
    unfold bindC
    rw [bindC_out fun v hv => (List.nodup_cons.mp nd).1 (List.of_mem_zip hv).1, if_neg hk]
    simp
  | p :: P, w :: vs, i + 1, m, nd, h1, h2, hk => by
    show bindC kindOf ((p, w) :: P.zip vs) m x = _
    unfold bindC
    exact bindC_get (i := i) (List.nodup_cons.mp nd).2 (by simpa using h1) (by simpa using h2) hk

/-- the names' values at the entry -/
noncomputable def start (N : List Str) (vs : List V) : St := vs.map some ++ List.replicate (N.length - vs.length) none

/-- the context of a def's body, at its entry; an exception leaves the frame, then lies as CX says -/
noncomputable def cxOf (CX : CXT) (P : Program) (w : World) (K : PySem.W.Frag) (mg : Str → Option Value) (base : Heap) (N : List Str) (qual : Str) (scope : Scope) (f : Addr) (cd : Value) (A : Around) (outer : List Env) (s : Shared) (H : Hp) (E : XK) : Cx where
  prog := P
  w := w
  K := K
  mg := mg
  base := base
  A := A.deeper (envOfC qual scope s.heap.objs.size f cd)
  N := N
  s₀ := s
  H₀ := H
  env := envOfC qual scope s.heap.objs.size f cd
  outer := outer
  stack := envOfC qual scope s.heap.objs.size f cd :: outer
  ex := []
  calm := CX.cm
  suit := CX.sm
  fn := fun _ => true
  pn := []
  xe := fun e s' => wpAny (model P w) (A.deeper (envOfC qual scope s.heap.objs.size f cd)) (leaving (envOfC qual scope s.heap.objs.size f cd) e) (fun _ s'' => CX.cx outer H s E e s'') (fun e' s'' => CX.cx outer H s E e' s'') s'

theorem cell_has {sc : Scope} {n : Nat} {x : Str} (h : sc.names.lookup x = some .cell) : ∃ c, (cellsFrom n sc.names []).lookup x = some c := by
  have q := PySem.W.cellsFrom_some sc.names n [] (.inl h)
  exact Option.isSome_iff_exists.mp q

theorem inv_start {CX : CXT} {P : Program} {w : World} {K : PySem.W.Frag} {mg : Str → Option Value} {base : Heap} {N ps : List Str} {qual : Str} {scope : Scope} {f : Addr} {cd : Value} {A : Around} {outer : List Env} {s s1 : Shared} {H : Hp} {E : XK} {us : List Value} {vs : List V}
    (S : FnScope N ps scope) (hd : CX.cm = true → A.handled = none) (hsm : CX.sm = true → Hd A H) (e0 : Env0 P w K mg base A outer s H) (hl : vs.length = ps.length) (r : Vals vs us)
    (x : InCallC s s.heap.objs.size (bindL (envOfC qual scope s.heap.objs.size f cd).kindOf (ps.zip us) fun _ => none) (cellsFrom (s.heap.objs.size + 1) scope.names []) (bindC (envOfC qual scope s.heap.objs.size f cd).kindOf (ps.zip us) fun _ => none) s1) :
    Inv (cxOf CX P w K mg base N qual scope f cd A outer s H E) [] (start N vs) H s1 := by
  have hpl : ps.length ≤ N.length := by have := congrArg List.length S.pre; rw [List.length_take] at this; (first | lia | omega)
  obtain ⟨h1, tk, rfl, hk⟩ := x.done
  have noA : ∀ b : Addr, b ∉ (cxOf CX P w K mg base N qual scope f cd A outer s H E).ex := fun b z => absurd (show b ∈ ([] : List Addr) from z) (by simp)
  refine ⟨⟨e0.mod, S.kind, rfl, rfl, Nat.le_refl _, fun y z c h1 h2 => ?_, fun y hy => ?_, fun y c _ h => ?_, hd, Around.frames_deeper e0.frames, .inr ⟨rfl, rfl⟩, fun b z => absurd z (noA b), e0.bs, e0.bsz, fun b _ _ => noA b, fun b z => absurd z (noA b), e0.funs, e0.frf, hsm⟩,
    rfl, e0.bare, Un.kept hk, ⟨_, x.toInCall.ns, fun i y v h1 h2 h3 => ?_⟩, fun y c h => ⟨_, x.cell y c h⟩, e0.hok.fresh (Nat.le_refl _), fun y c h => ?_, fun p hp => absurd (show p ∈ ([] : List (Addr × Obj)) from hp) (by simp), e0.hok.kept hk, ?_⟩
  · exact name_of_addr x.apart (PySem.mem_of_lookup h1) (PySem.mem_of_lookup h2)
  · have hy : scope.names.lookup y = some .cell ∨ scope.names.lookup y = some .free := hy
    rcases hy with hy | hy
    · exact cell_has hy
    · exact absurd rfl (S.nofree _ (PySem.mem_of_lookup hy))
  · exact Nat.le_of_lt (x.above y c (PySem.mem_of_lookup h))
  · have hi : i < vs.length := by
      unfold start at h2
      by_cases hi : i < vs.length
      · exact hi
      · rw [List.getElem?_append_right (by simpa using hi)] at h2
        rw [List.getElem?_replicate] at h2
        split at h2 <;> cases h2
    have ha : vs[i]? = some v := by
      unfold start at h2
      rw [List.getElem?_append_left (by simpa using hi), List.getElem?_map] at h2
      cases e : vs[i]? with
      | none => rw [e] at h2; cases h2
      | some a => rw [e] at h2; cases h2; rfl
    obtain ⟨u, hu, rv⟩ := r.get ha
    have hp : ps[i]? = some y := by
      rw [← S.pre, List.getElem?_take_of_lt (by (first | lia | omega))]; exact h1
    have ndP : ps.Nodup := by rw [← S.pre]; exact S.nd.sublist (List.take_sublist _ _)
    refine ⟨u, rv, ?_⟩
    rcases S.par y (List.mem_of_getElem? hp) with k | k
    · exact .inl ⟨k, bindL_get ndP hp hu k⟩
    · obtain ⟨c, e⟩ := cell_has (n := s.heap.objs.size + 1) k
      refine .inr ⟨.inl k, c, e, ?_⟩
      have q := x.cell y c e
      rw [bindC_get ndP hp hu (by show scope.names.lookup y ≠ _; rw [k]; decide)] at q
      exact q
  · exact e0.hok.fresh (Nat.le_of_lt (x.above y c (PySem.mem_of_lookup h)))
  · unfold start
    show _ = N.length
    rw [List.length_append, List.length_map, List.length_replicate]
    (first | lia | omega)

/-- THE RULE: a def (or a method) of the text, by its body. The body's reading t is chosen for each entry; it is run at the parameters' values -/
theorem fn_of {CX : CXT} {P : Program} {w : World} {K : PySem.W.Frag} {mg : Str → Option Value} {base : Heap} {k : Nat} {f : Addr} {name qual : Str} {params : Arguments} {body : List Stmt} {scope : Scope} {dV kV doc pm cdv ct oc : Value} {an od : Option Addr}
    {osl : Array (Option Value)} {N ps : List Str} {sp : Sp} (lk : K.lookup f = some ⟨oc, od, .func (PySem.W.fnOf name qual params body scope dV kV doc pm an cdv ct), osl⟩) (hcd : PySem.W.codeIn K cdv qual = true) (S : FnScope N ps scope)
    (len : ∀ vs H Q E, sp vs H Q E → vs.length = ps.length)
    (hbody : ∀ (A : Around) (outer : List Env) (s : Shared) (H : Hp) (vs : List V) (Q : VK) (E : XK), Room k (A.deeper (envOfC qual scope s.heap.objs.size f cdv)) → sp vs H Q E →
      ∃ t, PSs (cxOf CX P w K mg base N qual scope f cdv A outer s H E) body t ∧ t { nx := fun _ H' => Q .non H', rt := Q } (start N vs) H) :
    FnOk P w K mg base CX (k + 1) f (PySem.W.fnOf name qual params body scope dV kV doc pm an cdv ct) ps sp := by
  refine ⟨len, fun A outer s H args us vs Q E hr hcm hsm e0 hb r hsp => ?_⟩
  have hl := len _ _ _ _ hsp
  have KX : K.In s.heap := e0.mod.kin.keeps fun b o e => (e0.bs b o e).1
  have lim : s.heap.NoLimit := e0.mod.nolimit.keeps fun b o e => (e0.bs b o e).1
  have hkind : ∀ y ∈ ps.zip us, scope.names.lookup y.1 = some .local ∨ (scope.names.lookup y.1 = some .cell ∧ ((cellsFrom (s.heap.objs.size + 1) scope.names []).lookup y.1).isSome = true) := fun hh69 hy => by
    obtain ⟨n, v⟩ := hh69
    rcases S.par n (List.of_mem_zip hy).1 with q | q
    · exact .inl q
    · exact .inr ⟨q, PySem.W.cellsFrom_some _ _ _ (.inl q)⟩
  refine codeAny_call_function hr.depth (KX _ _ lk) rfl S.co S.gen rfl (PySem.W.codeRec_of KX hcd) (hb _ _ _ _ ?_)
  refine wpAny_newFunctionEnv_cells S.kind hkind fun env he s1 x => ?_
  subst he
  refine ⟨lim.keeps x.toInCall.keep, codeAny_func ?_⟩
  obtain ⟨t, ht, hq⟩ := hbody A outer s H vs Q E (hr.deeper _) hsp
  have I : Inv (cxOf CX P w K mg base N qual scope f cdv A outer s H E) [] (start N vs) H s1 := inv_start S hcm hsm e0 hl r x
  refine wpAny_mono (ht [] s1 (start N vs) H _ I hq) (fun fl s' hs => ?_) fun e s' hs => hs
  have fin : ∀ {σ' : St} {H' : Hp} {v : V} {u : Value}, Inv (cxOf CX P w K mg base N qual scope f cdv A outer s H E) [] σ' H' s' → RelV v u → Q v H' → CE outer P w H s Q u s' :=
    fun {σ' H' v u} J rv q => ⟨v, H', J.os, J.bare, J.base, J.hok, rv, q⟩
  cases fl with
  | ret u =>
    obtain ⟨v, σ', H', J, rv, q⟩ := hs
    exact fin J rv q
  | next =>
    obtain ⟨σ', H', J, q⟩ := hs
    exact fin (v := V.non) (u := Value.none) J rfl q
  | brk =>
    obtain ⟨_, _, _, q⟩ := hs
    exact False.elim q
  | cont =>
    obtain ⟨_, _, _, q⟩ := hs
    exact False.elim q
end L2

namespace L2
open PySem PySem.Spec PyProof.Rows
section
variable {X : Cx} {x : Str} {p pos : Pos} {e : Expr} {es : List Expr} {t : TA} {id T : String} {r : List V → Hp → VK → Prop}

noncomputable def tCB (r : List V → Hp → VK → Prop) (t : TA) : TE := fun σ H Q => t σ H fun vs H1 => r vs H1 Q
/-- f(e, ..), f a built-in function -/
theorem pe_callB (hc : CallR X (.builtin id) r) (hg : Gl X x) (hm : X.mg x = none) (hv : bootBuiltins x = some (.builtin id)) (ha : PA X (e :: es) t) (hn : x ≠ "__name__" := by decide) (hdb : (x == ("__debug__" : Str)) = false := by decide)
    (he : starEach (e :: es) X.env = (false, eval e X.env) :: starEach es X.env := by rfl) (hpl : (backTo pos (starEach es X.env)).any (·.1) = false := by rfl) : PE X (.Call (.Name x p) (e :: es) [] pos) (tCB r t) := by
  intro pins s σ H Q I h
  refine wpAny_Call_Name_kw (ld_blt I hg hm hv ?_ hn hdb)
  exact PyProof.Rows.callWith_builtin1 (thn (ha pos pins s σ H _ I h) fun us s1 hh70 => (by obtain ⟨vs, H1, I1, r1, q1⟩ := hh70; exact hc pins s1 σ H1 vs us Q I1 r1 q1)) he hpl
/-- T(e, ..), T a built-in type -/
theorem pe_callTy (hc : CallR X (.type T) r) (hg : Gl X x) (hm : X.mg x = none) (hv : bootBuiltins x = some (.type T)) (ha : PA X (e :: es) t) (hn : x ≠ "__name__" := by decide) (hdb : (x == ("__debug__" : Str)) = false := by decide)
    (he : starEach (e :: es) X.env = (false, eval e X.env) :: starEach es X.env := by rfl) (hpl : (backTo pos (starEach es X.env)).any (·.1) = false := by rfl) : PE X (.Call (.Name x p) (e :: es) [] pos) (tCB r t) := by
  intro pins s σ H Q I h
  refine wpAny_Call_Name_kw (ld_blt I hg hm hv ?_ hn hdb)
  exact PyProof.Rows.callWith_type1 (thn (ha pos pins s σ H _ I h) fun us s1 hh71 => (by obtain ⟨vs, H1, I1, r1, q1⟩ := hh71; exact hc pins s1 σ H1 vs us Q I1 r1 q1)) he hpl
end
end L2

namespace HT
open PySem PyProof.Rows

/-- t < u of tuples of ints -/
noncomputable def lexLt : List Int → List Int → Bool
  | [], [] => false
  | [], _ :: _ => true
  | _ :: _, [] => false
  | x :: xs, y :: ys => if x = y then lexLt xs ys else decide (x < y)
section
open PySem.SeqAt
open PySem.AutoSeq1 (wpAny_loadPart')
open PySem.MeetsSeq PySem.MeetsSeq2 PySem.MeetsSeq3

end

section
variable {prog : Program} {w : World} {A : Around} {E : Value → Shared → Prop} {s : Shared}

/-! ### t[a:b], not the whole -/
/-- a slice's bound as a place among n (d where it is left out) -/
noncomputable def sIx (n d : Nat) : Option Int → Nat
  | none => d
  | some v => if v < 0 then (v + (n : Int)).toNat else min v.toNat n
end
end HT

namespace L2
open PySem PySem.Spec PyProof.Rows

/-! ### the parts of a slice -/
noncomputable abbrev TO := St → Hp → (Option Int → Hp → Prop) → Prop
/-- a slice's part (left out, or an int) -/
noncomputable def PO (X : Cx) (e : Option Expr) (t : TO) : Prop :=
  ∀ (pins : List (Addr × Obj)) (s : Shared) (σ : St) (H : Hp) (Q : Option Int → Hp → Prop), Inv X pins σ H s → t σ H Q →
    wpAny (model X.prog X.w) X.A (evalPart e X.env) (fun u s' => ∃ o H', Inv X pins σ H' s' ∧ IsPart u o ∧ Q o H') X.xe s
noncomputable def tNoPart : TO := fun _ H Q => Q none H
noncomputable def tPart (t : TE) : TO := fun σ H Q => t σ H fun x H1 => ∃ i, x = .int i ∧ Q (some i) H1

section
variable {X : Cx} {e : Expr} {te : TE} {lo hi : Option Expr} {tl th : TO} {pos p2 : Pos}

theorem po_none : PO X none tNoPart := by
  intro pins s σ H Q I h
  rw [evalPart_none]
  exact wpAny_pure ⟨none, H, I, .none, h⟩
theorem po_some (h : PE X e te) : PO X (some e) (tPart te) := by
  intro pins s σ H Q I hw
  rw [evalPart_some]
  refine thn (h pins s σ H _ I hw) fun u s1 hh72 => ?_
  obtain ⟨x, H1, I1, r1, q1⟩ := hh72
  obtain ⟨i, rfl, q⟩ := q1
  obtain ⟨t, rfl⟩ := r1
  exact ⟨some i, H1, I1, .int i t, q⟩

/-- what a slice of a value is, by values: the slice object stands at sl -/
noncomputable def SlR (X : Cx) (r : V → Option Int → Option Int → Hp → VK → Prop) : Prop :=
  ∀ (pins : List (Addr × Obj)) (s : Shared) (σ : St) (H : Hp) (x : V) (v vl vu : Value) (lo hi : Option Int) (sl : Addr) (Q : VK), Inv X pins σ H s → RelV x v → s.heap.IsSliceOf sl vl vu .none → IsPart vl lo → IsPart vu hi → r x lo hi H Q →
    ∃ T id, typeLookup (.type T) "__getitem__" = pure (some (.builtin id)) ∧ s.TypeIs v T ∧ wpAny (model X.prog X.w) X.A (getItem v (.ref sl)) (EP X pins σ Q) X.xe s
noncomputable def tSl (r : V → Option Int → Option Int → Hp → VK → Prop) (te : TE) (tl th : TO) : TE := fun σ H Q => te σ H fun x H1 => tl σ H1 fun l H2 => th σ H2 fun u H3 => r x l u H3 Q
/-- a[lo:hi], any a -/
theorem pe_slice {r : V → Option Int → Option Int → Hp → VK → Prop} (hr : SlR X r) (he : PE X e te) (hl : PO X lo tl) (hu : PO X hi th) : PE X (.Subscript e (.Slice lo hi none p2) pos) (tSl r te tl th) := by
  intro pins s σ H Q I h
  refine Subscript_ (thn (he pins s σ H _ I h) fun v s1 hh73 => ?_)
  obtain ⟨x, H1, I1, r1, q1⟩ := hh73
  refine wpAny_Slice (thn (hl pins s1 σ H1 _ I1 q1) fun vl s2 hh74 => ?_)
  obtain ⟨l, H2, I2, pl, q2⟩ := hh74
  refine thn (hu pins s2 σ H2 _ I2 q2) fun vu s3 hh75 => ?_
  obtain ⟨u, H3, I3, pu, q3⟩ := hh75
  rw [evalPart_none]
  refine wpAny_pure ?_
  have I4 : Inv X pins σ H3 { s3 with heap := s3.heap.push { cls := .type "slice", data := .fields #[vl, vu, .none] } } := I3.kept (t' := s3.toks) fun b ob q => Heap.get?_push_of_some _ q
  obtain ⟨T, id, hT, ht, hg⟩ := hr pins { s3 with heap := s3.heap.push { cls := .type "slice", data := .fields #[vl, vu, .none] } } σ H3 x v vl vu l u s3.heap.objs.size Q I4 r1 (Heap.IsSliceOf.new ..) pl pu q3
  show wpAny (model X.prog X.w) X.A (subscriptTail e (.Slice lo hi none p2) v (.ref s3.heap.objs.size)) (EP X pins σ Q) X.xe { s3 with heap := s3.heap.push { cls := .type "slice", data := .fields #[vl, vu, .none] } }
  exact tail_any (ops := [.ref s3.heap.objs.size, v]) ht hT hg (by with_unfolding_all rfl)

/-- the items of xs[lo:hi] -/
noncomputable def cutV (xs : List V) (lo hi : Option Int) : List V := (xs.drop (HT.sIx xs.length 0 lo)).take (HT.sIx xs.length xs.length hi - HT.sIx xs.length 0 lo)
/-- t[lo:hi], not the whole of it (the whole would be t itself) -/
noncomputable def rSlT (K : PySem.W.Frag) : V → Option Int → Option Int → Hp → VK → Prop := fun x lo hi H Q => ∃ a xs, x = .ref a ∧ SqT K H a xs ∧
  ¬ (HT.sIx xs.length 0 lo = 0 ∧ HT.sIx xs.length xs.length hi = xs.length) ∧ ∀ p, H p = none → Q (.ref p) (upd H p (.tup (cutV xs lo hi)))
/-! ### t < u, t + u -/
noncomputable def rLtT (K : PySem.W.Frag) : R2 := fun x y H Q => ∃ a b ns ms, x = .ref a ∧ y = .ref b ∧ SqT K H a (ns.map V.int) ∧ SqT K H b (ms.map V.int) ∧ Q (.bl (HT.lexLt ns ms)) H
/-- t + u, t not empty: u empty gives t itself -/
noncomputable def rCatT (K : PySem.W.Frag) : R2 := fun x y H Q => ∃ a b xs ys, x = .ref a ∧ y = .ref b ∧ SqT K H a xs ∧ SqT K H b ys ∧ xs ≠ [] ∧ xs.length + ys.length ≤ sizeLine ∧
  (ys = [] → Q (.ref a) H) ∧ (ys ≠ [] → ∀ p, H p = none → Q (.ref p) (upd H p (.tup (xs ++ ys))))
end
end L2

namespace L2
open PySem PySem.Spec PyProof.Rows

/-! ### places -/
/-- the place that an index of any sign means -/
noncomputable def ixN (n : Nat) (i : Int) : Option Nat := if 0 ≤ i then (if i < n then some i.toNat else none) else if -(n : Int) ≤ i then some (i + n).toNat else none
noncomputable def atI {α : Type} (xs : List α) (i : Int) : Option α := (ixN xs.length i).bind fun j => xs[j]?
theorem ixN_seq {n : Nat} {i : Int} {j : Nat} (h : ixN n i = some j) : seqIndex? i n = some j ∧ j < n ∧ -(n : Int) ≤ i ∧ i < n := by
  unfold ixN at h
  by_cases h0 : 0 ≤ i
  · rw [if_pos h0] at h
    by_cases h1 : i < n
    · rw [if_pos h1] at h
      have e : i.toNat = j := Option.some.inj h
      exact ⟨by rw [seqIndex_of h0 h1, e], by (first | lia | omega), by (first | lia | omega), h1⟩
    · rw [if_neg h1] at h; cases h
  · rw [if_neg h0] at h
    by_cases h1 : -(n : Int) ≤ i
    · rw [if_pos h1] at h
      have e : (i + n).toNat = j := Option.some.inj h
      exact ⟨by rw [seqIndex_neg (by (first | lia | omega)) h1, e], by (first | lia | omega), h1, by (first | lia | omega)⟩
    · rw [if_neg h1] at h; cases h
theorem atI_get {α : Type} {xs : List α} {i : Int} {v : α} (h : atI xs i = some v) : ∃ j, seqIndex? i xs.length = some j ∧ xs[j]? = some v ∧ j < xs.length ∧ -(xs.length : Int) ≤ i ∧ i < xs.length := by
  unfold atI at h
  cases e : ixN xs.length i with
  | none => rw [e] at h; cases h
  | some j =>
    rw [e] at h
    obtain ⟨h1, h2, h3, h4⟩ := ixN_seq e
    exact ⟨j, h1, h, h2, h3, h4⟩
theorem atI_nat {α : Type} {xs : List α} {j : Nat} {v : α} (h : xs[j]? = some v) : atI xs (j : Int) = some v := by
  have hj : j < xs.length := (List.getElem?_eq_some_iff.mp h).1
  have e : ixN xs.length (j : Int) = some j := by
    unfold ixN
    rw [if_pos (by (first | lia | omega)), if_pos (by (first | lia | omega))]; simp
  unfold atI; rw [e]; exact h
theorem atI_last {α : Type} (xs : List α) (v : α) : atI (xs ++ [v]) (-1) = some v := by
  have hl : (xs ++ [v]).length = xs.length + 1 := by simp
  have e : ixN (xs ++ [v]).length (-1) = some xs.length := by
    unfold ixN
    rw [hl, if_neg (by decide), if_pos (by (first | lia | omega))]
    congr 1
    (first | lia | omega)
  unfold atI
  rw [e]
  show (xs ++ [v])[xs.length]? = some v
  simp

/-! ### what may be subscripted -/
/-- what stands as an index of a plain subscript -/
noncomputable def PlainIx (b : Expr) : Prop := ∀ o i, subscripted b false o i = operate [o, i] (getItem o i)
/-- a subscript by values -/
noncomputable def IxR (X : Cx) (r : R2) : Prop :=
  ∀ (value slice : Expr) (pins : List (Addr × Obj)) (s : Shared) (σ : St) (H : Hp) (x y : V) (v u : Value) (Q : VK), Inv X pins σ H s → RelV x v → RelV y u → r x y H Q →
    subscripted slice false v u = operate [v, u] (getItem v u) → wpAny (model X.prog X.w) X.A (subscriptTail value slice v u) (EP X pins σ Q) X.xe s
/-- a call of a builtin's method by values: the receiver, the arguments -/
noncomputable def MtR (X : Cx) (id : String) (r : V → List V → Hp → VK → Prop) : Prop :=
  ∀ (pins : List (Addr × Obj)) (s : Shared) (σ : St) (H : Hp) (x : V) (xs : List V) (v : Value) (us : List Value) (Q : VK), Inv X pins σ H s → RelV x v → Vals xs us → r x xs H Q →
    wpAny (model X.prog X.w) X.A (call (.builtin id) (v :: us)) (EP X pins σ Q) X.xe s
section
variable {X : Cx} {a b : Expr} {ta tb : TE} {pos : Pos}
/-- a[b] -/
theorem pe_ix {r : R2} (hr : IxR X r) (ha : PE X a ta) (hb : PE X b tb) (hs : PlainIx b) : PE X (.Subscript a b pos) (tOp r ta tb) := by
  intro pins s σ H Q I h
  exact Subscript_ (binT ha hb I h fun v u s2 x y H2 I2 rx ry q => hr a b pins s2 σ H2 x y v u Q I2 rx ry q (hs _ _))

noncomputable def rIxL (K : PySem.W.Frag) : R2 := fun x y H Q => ∃ p xs i v, x = .ref p ∧ y = .int i ∧ SqL K H p xs ∧ atI xs i = some v ∧ Q v H
noncomputable def rIxT (K : PySem.W.Frag) : R2 := fun x y H Q => ∃ p xs i v, x = .ref p ∧ y = .int i ∧ SqT K H p xs ∧ atI xs i = some v ∧ Q v H
noncomputable def rIxS : R2 := fun x y H Q => ∃ z i c, x = .str z ∧ y = .int i ∧ z.length ≤ sizeLine ∧ atI z.cps.toList i = some c ∧ Q (.str ⟨#[c]⟩) H
theorem ix_list : IxR X (rIxL X.K) := by
  intro value slice pins s σ H x y v u Q I rx ry h hs
  obtain ⟨p, xs, i, z, rfl, rfl, hq, he, q⟩ := h
  cases rx
  obtain ⟨t, rfl⟩ := ry
  obtain ⟨its, r, pl, hz⟩ := I.list hq
  obtain ⟨j, h1, h2, h3, h4, h5⟩ := atI_get he
  obtain ⟨w, ew, rw'⟩ := r.get h2
  have hl := r.length
  have hn := line63
  have fin : EP X pins σ Q w s := ⟨z, H, I, rw', q⟩
  by_cases h0 : 0 ≤ i
  · have hj : i.toNat = j := by
      rw [seqIndex_of h0 h5] at h1
      exact Option.some.inj h1
    exact item_listR pl.isList h0 (by (first | lia | omega)) (by rw [hj]; simpa using ew) fin hs
  · have hj : (i + (its.toArray.size : Int)).toNat = j := by
      rw [seqIndex_neg (by (first | lia | omega)) h4] at h1
      rw [List.size_toArray, ← hl]
      exact Option.some.inj h1
    exact subscriptTail_builtinR (x := w) pl.isList.typeIs slot_list_getitem.lookup
      (wpAny_getItem_list_neg (Q := fun r s' => r = w ∧ EP X pins σ Q r s') pl.isList (by (first | lia | omega)) (by rw [List.size_toArray] <;> (first | lia | omega)) (by (first | lia | omega)) (by rw [hj]; simpa using ew) ⟨rfl, fin⟩) hs
theorem ix_str : IxR X rIxS := by
  intro value slice pins s σ H x y v u Q I rx ry h hs
  obtain ⟨z, i, c, rfl, rfl, hz, he, q⟩ := h
  obtain ⟨t, rfl⟩ := rx
  obtain ⟨t', rfl⟩ := ry
  obtain ⟨j, h1, h2, h3, h4, h5⟩ := atI_get he
  have hl : z.cps.toList.length = z.length := by simp [Str.length]
  rw [hl] at h1 h4 h5
  have hn := line63
  exact tail_any (typeIs_str s z t) slot_str_getitem.lookup (getItem_str (c := c) (by
    have e1 : decide (i < -(2 ^ 63 : Int)) = false := decide_eq_false (by (first | lia | omega))
    have e2 : decide (i ≥ 2 ^ 63) = false := decide_eq_false (by (first | lia | omega))
    rw [e1, e2, Bool.or_false]) (by rw [h1]; simpa using h2) ⟨.str ⟨#[c]⟩, H, I.tok _, ⟨_, rfl⟩, q⟩) hs
/-- list, tuple or str -/
noncomputable def rIx (K : PySem.W.Frag) : R2 := fun x y H Q => rIxL K x y H Q ∨ rIxT K x y H Q ∨ rIxS x y H Q
/-! ### xs[i] = v, any sign -/
/-- the list's object behind a store -/
theorem mapSeq_set (its : List Value) (n j : Nat) (u : Value) : Obj.mapSeq (·.setIfInBounds j u) { cls := .type "list", data := .seq its.toArray n } = { cls := .type "list", data := .seq (its.set j u).toArray n } := by
  simp [Obj.mapSeq]
theorem Inv.lst {pins : List (Addr × Obj)} {σ : St} {H : Hp} {s : Shared} {p : Addr} {xs : List V} (I : Inv X pins σ H s) (h : H p = some (.lst xs)) :
    ∃ (its : List Value) (n : Nat), Vals xs its ∧ s.heap.get? p = some { cls := .type "list", data := .seq its.toArray n } ∧ xs.length ≤ sizeLine := by
  obtain ⟨z, its, n, r, e⟩ := I.hok p _ h
  exact ⟨its, n, r, e, z⟩
/-- the list at p is written by an update of its object -/
theorem Inv.lstUpd {pins : List (Addr × Obj)} {σ : St} {H : Hp} {s : Shared} {p : Addr} {xs ys : List V} {its its' : List Value} {n n' : Nat} {f : Obj → Obj} (I : Inv X pins σ H s) (h : H p = some (.lst xs))
    (ho : s.heap.get? p = some { cls := .type "list", data := .seq its.toArray n }) (hf : f { cls := .type "list", data := .seq its.toArray n } = { cls := .type "list", data := .seq its'.toArray n' }) (r : Vals ys its') (hz : ys.length ≤ sizeLine) (t : Nat) :
    Inv X pins σ (upd H p (.lst ys)) { s with heap := s.heap.update p f, toks := t } := by
  have e : (s.heap.update p f).get? p = some { cls := .type "list", data := .seq its'.toArray n' } := by
    rw [Heap.get?_update_self f ho (by rw [hf] <;> rfl), hf]
  refine I.write (x := p) (e := p) (by rw [h]; trivial) (.inl rfl) (fun b u hb q => (Heap.get?_update_other _ _ (Ne.symm hb)).trans q) ⟨_, e⟩ ?_
  exact ⟨hz, its', n', r, e⟩
noncomputable def rSetL : V → V → V → Hp → (Hp → Prop) → Prop := fun o i v H Q => ∃ p xs k j, o = .ref p ∧ i = .int k ∧ H p = some (.lst xs) ∧ ixN xs.length k = some j ∧ Q (upd H p (.lst (xs.set j v)))
theorem set_list : PSet X rSetL := by
  intro pins s σ H o i v ov iv u Q I ro ri rv h
  obtain ⟨p, xs, k, j, rfl, rfl, hp, hj, q⟩ := h
  cases ro
  obtain ⟨t, rfl⟩ := ri
  obtain ⟨its, n, r, ho, hz⟩ := I.lst hp
  obtain ⟨h1, h2, h3, h4⟩ := ixN_seq hj
  have hl := r.length
  have hn := line63
  have I' : Inv X pins σ (upd H p (.lst (xs.set j v))) { s with heap := s.heap.update p (Obj.mapSeq (·.setIfInBounds j u)) } :=
    I.lstUpd hp ho (mapSeq_set its n j u) (r.set rv j) (by rw [List.length_set]; exact hz) s.toks
  by_cases h0 : 0 ≤ k
  · have hk : k.toNat = j := by
      rw [seqIndex_of h0 h4] at h1
      exact Option.some.inj h1
    exact PySem.W.ki_setAt ho h0 (by (first | lia | omega)) (by rw [List.size_toArray, ← hl]; exact h4) (by rw [hk]; exact ⟨_, I', q⟩)
  · have hk : (k + (its.toArray.size : Int)).toNat = j := by
      rw [seqIndex_neg (by (first | lia | omega)) h3] at h1
      rw [List.size_toArray, ← hl]
      exact Option.some.inj h1
    exact PySem.W.ki_setBack ho (by (first | lia | omega)) (by rw [List.size_toArray, ← hl]; exact h3) (by (first | lia | omega)) (by rw [hk]; exact ⟨_, I', q⟩)

/-! ### slices -/
/-- xs[lo:hi] of a list: a new list -/
noncomputable def rSlL (K : PySem.W.Frag) : V → Option Int → Option Int → Hp → VK → Prop := fun x lo hi H Q => ∃ a xs, x = .ref a ∧ SqL K H a xs ∧ ∀ p, H p = none → Q (.ref p) (upd H p (.lst (cutV xs lo hi)))
/-! ### in, not in: flat items -/
noncomputable def flatV : V → Bool
  | .non => true
  | .bl _ => true
  | .int _ => true
  | .str _ => true
  | _ => false
/-- == of flat values -/
noncomputable def eqV : V → V → Bool
  | .non, .non => true
  | .bl a, .bl b => a == b
  | .bl a, .int b => (if a then 1 else 0) == b
  | .int a, .bl b => a == (if b then 1 else 0)
  | .int a, .int b => a == b
  | .str a, .str b => a == b
  | _, _ => false
/-- the items' answers, read off the values (a value's own answer does not lean on its token) -/
noncomputable def eqU (x : V) (u : Value) : Bool := match u with
  | .none => eqV .non x
  | .bool b => eqV (.bl b) x
  | .int i _ => eqV (.int i) x
  | .str z _ => eqV (.str z) x
  | _ => false
noncomputable def inV (x : V) (xs : List V) : Bool := xs.any fun y => eqV y x
/-- x in a list or tuple of flat items -/
noncomputable def rIn (K : PySem.W.Frag) (neg : Bool) : R2 := fun x y H Q => ∃ p xs, y = .ref p ∧ (SqL K H p xs ∨ SqT K H p xs) ∧ flatV x = true ∧ xs.all flatV = true ∧ Q (.bl (if neg then !inV x xs else inV x xs)) H
/-! ### len, list(x), tuple(x) of any list or tuple that is read -/
theorem call_len_seq : CallR X (.builtin "len") (fun xs H Q => ∃ p ys, xs = [.ref p] ∧ (SqL X.K H p ys ∨ SqT X.K H p ys) ∧ Q (.int ys.length) H) := by
  intro pins s σ H xs us Q I r h
  obtain ⟨p, ys, rfl, hq, q⟩ := h
  obtain ⟨u, rfl, rx⟩ := vals1 r
  cases rx
  have hn := line63
  rcases hq with hq | hq
  · obtain ⟨its, r', pl, hz⟩ := I.list hq
    have hlen := r'.length
    exact Calls.call_len_list pl.isList (by simp only [List.size_toArray] <;> (first | lia | omega)) ⟨.int ys.length, H, I.tok _, ⟨s.toks + 1, by rw [List.size_toArray, hlen]⟩, q⟩
  · obtain ⟨its, r', pl, hz⟩ := I.tuple hq
    have hlen := r'.length
    exact len_tuple pl (by simp only [List.size_toArray] <;> (first | lia | omega)) ⟨.int ys.length, H, I.tok _, ⟨s.toks + 1, by rw [List.size_toArray, hlen]⟩, q⟩
theorem call_len_str : CallR X (.builtin "len") (fun xs H Q => ∃ z, xs = [.str z] ∧ z.length ≤ sizeLine ∧ Q (.int z.length) H) := by
  intro pins s σ H xs us Q I r h
  obtain ⟨z, rfl, hz, q⟩ := h
  obtain ⟨u, rfl, t, rfl⟩ := vals1 r
  have hn := line63
  exact len_str (by (first | lia | omega)) ⟨.int z.length, H, I.tok _, ⟨_, rfl⟩, q⟩
theorem call_list_of : CallR X (.type "list") (fun xs H Q => ∃ p ys, xs = [.ref p] ∧ (SqL X.K H p ys ∨ SqT X.K H p ys) ∧ ∀ l, H l = none → Q (.ref l) (upd H l (.lst ys))) := by
  intro pins s σ H xs us Q I r h
  obtain ⟨p, ys, rfl, hq, q⟩ := h
  obtain ⟨u, rfl, rx⟩ := vals1 r
  cases rx
  have fin : ∀ (its : List Value), Vals ys its → ys.length ≤ sizeLine → ∀ (h' : Heap) (c' : Nat), (∀ b o', s.heap.get? b = some o' → h'.get? b = some o') →
      h'.get? s.heap.objs.size = some { cls := .type "list", dict := none, data := .seq its.toArray c', slots := #[] } → EP X pins σ Q (.ref s.heap.objs.size) { s with heap := h' } := fun its r' hz h' c' kp e =>
    ⟨.ref s.heap.objs.size, _, I.laid (t' := s.toks) kp (Nat.le_refl _) (show ObjOk X.prog X.w _ h' _ (.lst ys) from ⟨hz, its, c', r', e⟩), rfl, q _ (I.hok.fresh (Nat.le_refl _))⟩
  rcases hq with hq | hq
  · obtain ⟨its, r', pl, hz⟩ := I.list hq
    have hlen := r'.length
    obtain ⟨o, ho, hc, n, hd⟩ := pl.isList
    exact call_list_seq p (.inl rfl) ho hc hd (fun h' c' kp e => fin its r' hz h' c' kp e) (by simp only [List.size_toArray] <;> (first | lia | omega))
  · obtain ⟨its, r', pl, hz⟩ := I.tuple hq
    have hlen := r'.length
    obtain ⟨o, ho, hc, n, hd⟩ := pl
    exact call_list_seq p (.inr rfl) ho hc hd (fun h' c' kp e => fin its r' hz h' c' kp e) (by simp only [List.size_toArray] <;> (first | lia | omega))
theorem call_tuple_of : CallR X (.type "tuple") (fun xs H Q => ∃ p ys, xs = [.ref p] ∧ ((SqL X.K H p ys ∧ ∀ l, H l = none → Q (.ref l) (upd H l (.tup ys))) ∨ (SqT X.K H p ys ∧ Q (.ref p) H))) := by
  intro pins s σ H xs us Q I r h
  obtain ⟨p, ys, rfl, h⟩ := h
  obtain ⟨u, rfl, rx⟩ := vals1 r
  cases rx
  rcases h with ⟨hq, q⟩ | ⟨hq, q⟩
  · obtain ⟨its, r', pl, hz⟩ := I.list hq
    have hlen := r'.length
    refine call_tuple_list pl.isList (fun h' kp => ?_) (by simp only [List.size_toArray] <;> (first | lia | omega))
    have I1 : Inv X pins σ H { s with heap := h' } := I.kept (t' := s.toks) kp
    have I2 : Inv X pins σ (upd H h'.objs.size (.tup ys)) { s with heap := h'.push { cls := .type "tuple", data := .seq its.toArray } } :=
      I1.laid (t' := s.toks) (fun b o e => Heap.get?_push_of_some _ e) (Nat.le_refl _) (show ObjOk X.prog X.w _ _ _ (.tup ys) from ⟨hz, its, r', IsTup.new _ _⟩)
    exact ⟨.ref h'.objs.size, _, I2, rfl, q _ (I1.hok.fresh (Nat.le_refl _))⟩
  · obtain ⟨its, r', pl, hz⟩ := I.tuple hq
    exact call_tuple_same pl ⟨.ref p, H, I, rfl, q⟩

/-! ### the call of a builtin's method: o.m(..) -/
/-- the value is of that builtin type -/
noncomputable def tyV (K : PySem.W.Frag) (T : String) (x : V) (H : Hp) : Prop := match x with
  | .str _ => T = "str"
  | .int _ => T = "int"
  | .ref p => (T = "list" ∧ ∃ xs, SqL K H p xs) ∨ (T = "tuple" ∧ ∃ o, K.lookup p = some o ∧ o.cls = .type "tuple" ∧ o.dict = none) ∨
      (T = "dict" ∧ ((∃ kvs, H p = some (.dK kvs)) ∨ ∃ kvs, H p = some (.dT kvs))) ∨ (T = "set" ∧ ∃ S n, H p = some (.set S n))
  | _ => False
theorem tyV_is {pins : List (Addr × Obj)} {σ : St} {H : Hp} {s : Shared} {T : String} {x : V} {v : Value} (I : Inv X pins σ H s) (r : RelV x v) (ty : tyV X.K T x H) :
    s.TypeIs v T ∧ ∀ a, v = .ref a → ∃ ob, s.heap.get? a = some ob ∧ ob.dict = none := by
  cases x with
  | str z =>
    obtain ⟨t, rfl⟩ := r
    cases (show T = "str" from ty)
    exact ⟨typeIs_str s z t, fun _ e => nomatch e⟩
  | int i =>
    obtain ⟨t, rfl⟩ := r
    cases (show T = "int" from ty)
    exact ⟨typeIs_int s i t, fun _ e => nomatch e⟩
  | ref p =>
    cases r
    rcases ty with ⟨rfl, xs, hq⟩ | ⟨rfl, o, hk, hc, hd⟩ | ⟨rfl, hk⟩ | ⟨rfl, S, n, hk⟩
    · obtain ⟨its, _, pl, _⟩ := I.list hq
      refine ⟨pl.isList.typeIs, fun a e => ?_⟩
      cases e
      obtain ⟨o, n, e, c, hd, _⟩ := pl
      exact ⟨o, e, hd⟩
    · refine ⟨⟨o, I.kIn p o hk, hc⟩, fun a e => ?_⟩
      cases e
      exact ⟨o, I.kIn _ o hk, hd⟩
    · have z : ∃ o, s.heap.get? p = some o ∧ o.ExactDict := by
        rcases hk with ⟨kvs, hk⟩ | ⟨kvs, hk⟩
        · obtain ⟨_, _, _, _, o, _, _, e, ex, _⟩ := I.hok p _ hk
          exact ⟨o, e, ex⟩
        · obtain ⟨_, _, _, _, o, _, _, e, ex, _⟩ := I.hok p _ hk
          exact ⟨o, e, ex⟩
      obtain ⟨o, e, ex⟩ := z
      refine ⟨⟨o, e, ex.1⟩, fun a e2 => ?_⟩
      cases e2
      exact ⟨o, e, ex.2.1⟩
    · obtain ⟨o, _, _, _, e, ex, _⟩ := I.hok p _ hk
      refine ⟨⟨o, e, ex.1⟩, fun a e2 => ?_⟩
      cases e2
      exact ⟨o, e, ex.2.1⟩
  | _ => exact False.elim ty
noncomputable def tBM0 (K : PySem.W.Frag) (T : String) (r : V → List V → Hp → VK → Prop) (to : TE) : TE := fun σ H Q => to σ H fun x H1 => tyV K T x H1 ∧ r x [] H1 Q
noncomputable def tBM (K : PySem.W.Frag) (T : String) (r : V → List V → Hp → VK → Prop) (to : TE) (t : TA) : TE := fun σ H Q => to σ H fun x H1 => tyV K T x H1 ∧ t σ H1 fun xs H2 => r x xs H2 Q
variable {o e : Expr} {es : List Expr} {to : TE} {t : TA} {name : Str} {apos cpos : Pos} {T id : String} {r : V → List V → Hp → VK → Prop}
theorem pe_bm (pa : PlainAttrs T) (slot : Slot T name id) (hty : typeOf (.builtin id) = pure (.type "method_descriptor")) (hm : MtR X id r) (ho : PE X o to) (ha : PA X (e :: es) t)
    (hbase : attributeBase o name X.env (eval o X.env) = eval o X.env := by rfl)
    (hfew : ((backTo cpos (starEach (e :: es) X.env)).all (fun x => !x.1) && (backToKw cpos (keywordEach [] X.env)).all (fun x => x.1.isSome)
      && decide ((e :: es).length + ([] : List Keyword).length + (if ([] : List Keyword).isEmpty then 0 else 1) < 30)) = true := by rfl)
    (hline : (apos.endLine == cpos.line) = true := by rfl) (hs : starEach (e :: es) X.env = (false, eval e X.env) :: starEach es X.env := by rfl) (hplain : (backTo cpos (starEach es X.env)).any (·.1) = false := by rfl) :
    PE X (.Call (.Attribute o name apos) (e :: es) [] cpos) (tBM X.K T r to t) := by
  intro pins s σ H Q I h
  refine wpAny_Call_method_late hbase hfew hline rfl (thn (ho pins s σ H _ I h) fun v s1 hh77 => ?_)
  obtain ⟨x, H1, I1, r1, ty, q1⟩ := hh77
  obtain ⟨h1, h2⟩ := tyV_is I1 r1 ty
  refine ⟨T, id, pa, slot, hty, h1, h2, ?_⟩
  have hA := ha cpos pins s1 σ H1 _ I1 q1
  rw [hs] at hA ⊢
  refine Calls.callWith_builtin (by show (false || (backTo cpos (starEach es X.env)).any (·.1)) = false; rw [hplain] <;> rfl) (Calls.evalArgs_plain ?_)
  exact thn hA fun us s2 hh78 => (by obtain ⟨vs, H2, I2, r2, q2⟩ := hh78; exact hm pins s2 σ H2 x vs v us Q I2 r1 r2 q2)
/- xs.append(e), list.index on a module's tuple .. are MtR facts of 06m -/
end
end L2

namespace L2
open PySem PySem.Spec PyProof.Rows

noncomputable def MtM (X : Cx) (id : String) (r : V → List V → Hp → VK → Prop) : Prop :=
  ∀ (pins : List (Addr × Obj)) (s : Shared) (σ : St) (H : Hp) (x : V) (xs : List V) (v : Value) (us : List Value) (Q : VK), Inv X pins σ H s → RelV x v → Vals xs us → r x xs H Q →
    wpAny (model X.prog X.w) X.A (call (.builtin id) (v :: us)) (EP X pins σ Q) X.xe s

/-! ### lists of values -/
theorem Vals.one : ∀ {x : V} {us : List Value}, Vals [x] us → ∃ u, us = [u] ∧ RelV x u := fun h => by
  cases h with
  | cons r t => cases t; exact ⟨_, rfl, r⟩
theorem Vals.two : ∀ {x y : V} {us : List Value}, Vals [x, y] us → ∃ u v, us = [u, v] ∧ RelV x u ∧ RelV y v := fun h => by
  cases h with
  | cons r t =>
    cases t with
    | cons q t => cases t; exact ⟨_, _, rfl, r, q⟩
theorem Vals.rep {xs : List V} {us : List Value} (h : Vals xs us) : ∀ k : Nat, Vals (List.replicate k xs).flatten (List.replicate k us).flatten
  | 0 => .nil
  | k + 1 => by
    rw [List.replicate_succ, List.replicate_succ, List.flatten_cons, List.flatten_cons]
    exact Vals.append h (Vals.rep h k)
theorem foldl_rep (its : List Value) : ∀ (k : Nat) (acc : List Value),
    List.foldl (fun x1 x2 => x1 ++ x2) acc.toArray (List.replicate k its.toArray) = (acc ++ (List.replicate k its).flatten).toArray
  | 0, acc => by simp
  | k + 1, acc => by
    have e : acc.toArray ++ its.toArray = (acc ++ its).toArray := by simp
    have e2 : (acc ++ its) ++ (List.replicate k its).flatten = acc ++ (List.replicate (k + 1) its).flatten := by
      rw [List.replicate_succ, List.flatten_cons, List.append_assoc]
    rw [← e2, ← foldl_rep its k (acc ++ its), ← e, List.replicate_succ, List.foldl_cons]

section
variable {X : Cx} {pins : List (Addr × Obj)} {σ : St} {H : Hp} {s : Shared} {l b : Addr} {xs ys zs : List V}

/-! ### the two steps: a tracked list is rewritten, a new list is laid -/
theorem Inv.lset {its its' : List Value} {n : Nat} {f : Array Value → Array Value} {t' : Nat} (I : Inv X pins σ H s) (hH : H l = some (.lst xs))
    (e : s.heap.get? l = some { cls := .type "list", data := .seq its.toArray n }) (hf : f its.toArray = its'.toArray) (hv : Vals ys its') (hz : ys.length ≤ sizeLine) :
    Inv X pins σ (upd H l (.lst ys)) { s with heap := s.heap.update l (Obj.mapSeq f), toks := t' } := by
  have q := PySem.IsL.update e f
  rw [hf] at q
  refine I.write (x := l) (e := l) (by rw [hH]; exact trivial) (.inl rfl) (fun b' u hb hu => (Heap.get?_update_other s.heap (Obj.mapSeq f) (Ne.symm hb)).trans hu) ⟨_, q⟩ ?_
  exact ⟨hz, its', _, hv, q⟩
theorem Inv.lnew {its : List Value} {t' : Nat} (I : Inv X pins σ H s) (hv : Vals ys its) (hz : ys.length ≤ sizeLine) :
    Inv X pins σ (upd H s.heap.objs.size (.lst ys)) { s with heap := s.heap.push { cls := .type "list", data := .seq its.toArray }, toks := t' } :=
  I.laid (fun _ _ q => Heap.get?_push_of_some _ q) (Nat.le_refl _) ⟨hz, its, 0, hv, Heap.get?_push_size _ rfl⟩
theorem Inv.fresh (I : Inv X pins σ H s) : H s.heap.objs.size = none := I.hok.fresh (Nat.le_refl _)
theorem Inv.lstM (I : Inv X pins σ H s) (hH : H l = some (.lst xs)) : xs.length ≤ sizeLine ∧ ∃ (its : List Value) (n : Nat), Vals xs its ∧ xs.length = its.length ∧ s.heap.get? l = some { cls := .type "list", data := .seq its.toArray n } := by
  obtain ⟨z, its, n, r, e⟩ := I.hok l _ hH
  exact ⟨z, its, n, r, r.length, e⟩

theorem notLongL {n : Nat} (h : n ≤ sizeLine) : Builtin.List.listTooLong n = false := by
  unfold Builtin.List.listTooLong
  exact decide_eq_false (by (first | lia | omega))
end

section
variable {X : Cx}

/-! ### methods -/
noncomputable def rAppend : V → List V → Hp → VK → Prop := fun x vs H Q => ∃ l xs y, x = .ref l ∧ vs = [y] ∧ H l = some (.lst xs) ∧ xs.length < sizeLine ∧ Q .non (upd H l (.lst (xs ++ [y])))
theorem mt_append : MtM X "list.append" rAppend := by
  intro pins s σ H x vs v us Q I rx rv h
  obtain ⟨l, xs, y, rfl, rfl, hH, hz, q⟩ := h
  cases rx
  obtain ⟨u, rfl, ru⟩ := rv.one
  obtain ⟨z, its, n, r, hl, e⟩ := I.lstM hH
  refine call_meets F.slot_list_append ⟨_, e, rfl⟩ F.entry_list_append (F.args_list_append_2 _ _) (PySem.list_append l its.toArray n u (by rw [List.size_toArray]; (first | lia | omega))) ⟨e, ?_⟩
  refine ⟨.non, _, I.lset (its' := its ++ [u]) hH e (by simp) (r.append (.cons ru .nil)) ?_, rfl, q⟩
  rw [List.length_append, List.length_singleton]
  (first | lia | omega)

noncomputable def rExtend : V → List V → Hp → VK → Prop := fun x vs H Q => ∃ l b xs zs, x = .ref l ∧ vs = [.ref b] ∧ H l = some (.lst xs) ∧ H b = some (.lst zs) ∧ xs.length + zs.length ≤ sizeLine ∧ Q .non (upd H l (.lst (xs ++ zs)))
noncomputable def rPop : V → List V → Hp → VK → Prop := fun x vs H Q => ∃ l xs y, x = .ref l ∧ vs = [] ∧ H l = some (.lst xs) ∧ xs[xs.length - 1]? = some y ∧ Q y (upd H l (.lst xs.dropLast))
noncomputable def rPopAt : V → List V → Hp → VK → Prop := fun x vs H Q => ∃ l xs i k y, x = .ref l ∧ vs = [.int i] ∧ H l = some (.lst xs) ∧ -(2 ^ 63) ≤ i ∧ i < 2 ^ 63 ∧ seqIndex? i xs.length = some k ∧ xs[k]? = some y ∧ Q y (upd H l (.lst (xs.eraseIdx k)))
noncomputable def rReverse : V → List V → Hp → VK → Prop := fun x vs H Q => ∃ l xs, x = .ref l ∧ vs = [] ∧ H l = some (.lst xs) ∧ Q .non (upd H l (.lst xs.reverse))
noncomputable def rClear : V → List V → Hp → VK → Prop := fun x vs H Q => ∃ l xs, x = .ref l ∧ vs = [] ∧ H l = some (.lst xs) ∧ Q .non (upd H l (.lst []))
/-! ### list + list, list += list, list * int -/
noncomputable def rCat : R2 := fun x y H Q => ∃ l b xs zs, x = .ref l ∧ y = .ref b ∧ H l = some (.lst xs) ∧ H b = some (.lst zs) ∧ xs.length + zs.length ≤ sizeLine ∧ ∀ p, H p = none → Q (.ref p) (upd H p (.lst (xs ++ zs)))
theorem op_cat : OpR X (binaryOp .Add) rCat := by
  intro pins s σ H x y v u Q I rx ry h
  obtain ⟨l, b, xs, zs, rfl, rfl, hH, hB, hz, q⟩ := h
  cases rx
  cases ry
  obtain ⟨z, its, n, r, hl, e⟩ := I.lstM hH
  obtain ⟨z2, its2, n2, r2, hl2, e2⟩ := I.lstM hB
  refine PySem.P.add_list e e2 ?_ (by rw [List.size_toArray, List.size_toArray]; (first | lia | omega))
  have ea : its.toArray ++ its2.toArray = (its ++ its2).toArray := by simp
  rw [ea]
  exact ⟨.ref _, _, I.lnew (t' := s.toks) (r.append r2) (by rw [List.length_append]; (first | lia | omega)), rfl, q _ I.fresh⟩
/-- a list times an int (a negative one is nothing) -/
noncomputable def rRep : R2 := fun x y H Q => ∃ l k xs, x = .ref l ∧ y = .int k ∧ H l = some (.lst xs) ∧ -(2 ^ 63) ≤ k ∧ k < 2 ^ 63 ∧ xs.length * k.toNat ≤ sizeLine ∧
  ∀ p, H p = none → Q (.ref p) (upd H p (.lst (List.replicate k.toNat xs).flatten))
theorem len_rep {α : Type} (xs : List α) (k : Nat) : (List.replicate k xs).flatten.length = k * xs.length := by
  induction k with
  | zero => simp
  | succ k ih => rw [List.replicate_succ, List.flatten_cons, List.length_append, ih, Nat.succ_mul, Nat.add_comm]
theorem op_rep : OpR X (binaryOp .Mult) rRep := by
  intro pins s σ H x y v u Q I rx ry h
  obtain ⟨l, k, xs, rfl, rfl, hH, h1, h2, hz, q⟩ := h
  cases rx
  obtain ⟨t, rfl⟩ := ry
  obtain ⟨z, its, n, r, hl, e⟩ := I.lstM hH
  have hlen : its.toArray.size * k.toNat ≤ sizeLine := by rw [List.size_toArray, ← hl]; exact hz
  have hcap : ¬ its.toArray.size * k.toNat > (2 ^ 63 - 1) / 8 := by
    have : (sizeLine : Nat) ≤ (2 ^ 63 - 1) / 8 := by decide
    (first | lia | omega)
  have hfit : ¬ (!Builtin.List.listFitsIndex k) = true := by
    rw [fitsIndex_both h1 h2]
    exact Bool.false_ne_true
  have hlong : ¬ Builtin.List.listTooLong (its.toArray.size * k.toNat) = true := by
    rw [notLongL hlen]
    exact Bool.false_ne_true
  have hnew : List.foldl (fun x1 x2 => x1 ++ x2) #[] (List.replicate (if its.toArray.isEmpty = true then 0 else k.toNat) its.toArray) = (List.replicate k.toNat its).flatten.toArray := by
    have f0 : ∀ m : Nat, List.foldl (fun x1 x2 => x1 ++ x2) #[] (List.replicate m its.toArray) = (List.replicate m its).flatten.toArray := fun m => by
      have := foldl_rep its m []
      rw [List.nil_append] at this
      exact this
    rw [f0]
    cases its with
    | nil => simp
    | cons a r' => rw [if_neg (by simp)]
  refine wpAny_binaryOp_repeat_ref (T := "list") (U := "int") (by decide) ⟨_, e, rfl⟩ (fun s' => typeIs_int s' k t) noFill_list_mul F.fills_int_mul F.slot_int_rmul repeat_list F.slot_int_index.lookup
    (call_meets F.slot_int_rmul (typeIs_int s k t) F.entry_int_rmul (F.args_int_rmul_2 _ _) (int___rmul___int_list k t l its.toArray n)
      ⟨e, rfl, ⟨_, e, rfl⟩, call_meets F.slot_list_mul ⟨_, e, rfl⟩ F.entry_list_mul (F.args_list_mul_2 _ _) (AutoListH.list___mul___list_int_3 l its.toArray n k t hfit hcap hlong) ⟨e, ?_⟩⟩)
  rw [hnew]
  exact ⟨.ref _, _, I.lnew (t' := s.toks) (r.rep k.toNat) (by rw [len_rep, Nat.mul_comm]; exact hz), rfl, q _ I.fresh⟩

/-! ### del xs[i] -/
end

/-! ### xs[a:b] = ys -/
section
variable {prog : Program} {w : World} {A : Around} {E : Value → Shared → Prop} {s : Shared}
end

section
variable {X : Cx}
end
end L2

namespace Att
open PySem PySem.W PySem.Calls PyProof.Rows

/-! ### the script -/
theorem ints_of_wellAll {P : Params} {h : Heap} : ∀ (ns : List Int) (vs : List Value), WellAll P h vs (ns.map WData.int) → IntsAre vs ns := by
  intro ns
  induction ns with
  | nil =>
    intro vs w
    rw [List.map_nil] at w
    cases w
    exact .nil
  | cons n ns ih =>
    intro vs w
    rw [List.map_cons] at w
    cases w with
    | cons a b =>
      cases a
      exact .cons _ _ (ih _ b)

theorem script_of {l : OpenLaw} {n : Nat} (hn : l.most = some n) {P : Params} {h : Heap} {args : List WData} {vals : List Value}
    (hpre : l.row.toRowW.claim.pre args = true) (hwl : WellAll P h vals args) :
    ∃ a vs ns, vals = [Value.ref a] ∧ args = [WData.list (ns.map WData.int)] ∧ h.get? a = some { cls := .type "list", data := .seq vs.toArray } ∧ IntsAre vs ns ∧ ns.length ≤ n := by
  have hsh : WShape.hasAll [] args [.list .int] = true := (pre_splitW hpre).1
  have hc : l.pre.holds [] { args := args } = true := (pre_splitW hpre).2
  obtain ⟨d, r, rfl, h1, h2⟩ := hasAllW_cons hsh
  obtain rfl := hasAllW_nil h2
  obtain ⟨xs, rfl, h3⟩ := hasW_list h1
  obtain ⟨ns, rfl⟩ := items_int h3
  have hlen : ns.length ≤ n := by
    unfold OpenLaw.pre at hc
    have h4 : (WTm.not (.lt (.lit (.int (n : Int))) (.len (.arg 0)))).holds [] { args := [.list (ns.map .int)] } = true := by
      have h4 := (holds_andW hc).1
      rw [hn] at h4
      exact h4
    have h5 := condW_of h4 (w_not (w_lt w_lit (w_len_list (w_arg rfl))))
    rw [List.length_map] at h5
    refine Nat.le_of_not_lt fun q => ?_
    have q' : (n : Int) < ((ns.length : Nat) : Int) := by (first | lia | omega)
    first
      | (rw [decide_eq_true q'] at h5; exact absurd h5 (by decide))
      | (simp at h5; (first | lia | omega))
  cases hwl with
  | cons w1 w2 =>
    cases w2
    cases w1 with
    | list ho hall => exact ⟨_, _, ns, rfl, rfl, ho, ints_of_wellAll ns _ hall, hlen⟩

theorem post_true (l : OpenLaw) (args : List WData) : l.row.toRowW.claim.post args (.bool true) args = true :=
  postW_of (r := l.row.toRowW) (X := (true == true))
    (show WShape.has [] (.bool true) .bool = true by first | rfl | decide | simp [WShape.has, WShape.arms, WShape.armsAll])
    (show (WTm.eq .res (.lit (.bool true))).value [] { args := args, res := some (.bool true), after := args } = some (.bool (true == true)) from w_eq_bool (w_res rfl) w_lit) rfl

/-! ### the attachment: holds_open's last premise (the goal 'hc' behind k_head) from a wpAny of the law's body -/
theorem weight_item {ns : List Int} {i : Int} (hi : i ∈ ns) : WData.weight (.int i) ≤ WData.weightAll (ns.map WData.int) := by
  induction ns with
  | nil => cases hi
  | cons a r ih =>
    rw [List.map_cons, WData.weightAll]
    rcases List.mem_cons.mp hi with rfl | h
    · (first | lia | omega)
    · have := ih h
      (first | lia | omega)
theorem bits_script {ns : List Int} (h : WData.layableAll [WData.list (ns.map WData.int)] = true) : ∀ i ∈ ns, Builtin.Int.intBits i ≤ 1048576 := by
  intro i hi
  have h1 : (WData.list (ns.map WData.int)).layable = true := List.all_eq_true.mp h _ List.mem_cons_self
  have h2 : WData.weight (.list (ns.map WData.int)) ≤ 2 ^ 20 := by
    have h3 := (Bool.and_eq_true_iff.mp h1).2
    exact of_decide_eq_true h3
  rw [WData.weight] at h2
  have h4 := weight_item hi
  have h5 : WData.weight (.int i) = Builtin.Int.intBits i := by rw [WData.weight]; rfl
  rw [h5] at h4
  have e : (2 : Nat) ^ 20 = 1048576 := by decide
  (first | lia | omega)
/-- the same from a codeAny of the CALL (for a layer whose function contracts speak of calls) -/
theorem attach_call {l : OpenLaw} {n : Nat} {q : Program} {loose : List Str} {XP : (Str → Option Value) → Heap → Prop} {YP : World → Heap → Prop} {d : DefRec}
    (hn : l.most = some n) (hdf : d.params.defaults = [])
    (call : ∀ (w : World) (s₀ s₁ : Shared) (mg mb : Str → Option Value) (fa : Addr) (o : Obj) (pm cd doc : Value) (a : Addr) (vs : List Value) (ns : List Int),
      Ground q loose [] XP w s₀ mg mb s₁.heap → YP w s₁.heap →
      s₁.heap.get? fa = some o → o.data = .func (docDef d.name d.params d.body d.scope pm cd doc) → s₁.heap.CodeRec cd d.name → mg d.name = some (.ref fa) →
      s₁.heap.get? a = some { cls := .type "list", data := .seq vs.toArray } → IntsAre vs ns → ns.length ≤ n → s₁.gens = #[] → (∀ i ∈ ns, Builtin.Int.intBits i ≤ 1048576) →
      codeAny (model l.prog w) callerA (.call (.ref fa) ⟨[.ref a], []⟩) (fun r s' => r = .ok (.ret (.bool true)) ∧ OldK s₁.heap s'.heap ∧ s'.os = s₁.os ∧ AllBare s'.gens) s₁) :
    WalkO q loose XP YP l.row.toRowW d [] (fun f vs => PySem.call f vs) := by
  intro w s₀ s₁ mg mb G Y fa o pm cd doc dV kV ho hd hcd hD hmg hg args vals as hpre hlay hrd hwl hlo
  obtain rfl : dV = .none := Dflts.none hD hdf
  obtain rfl : kV = .none := Dflts.noKw hD
  obtain ⟨a, vs, ns, rfl, rfl, hobj, hints, hlen⟩ := script_of hn hpre hwl
  refine enter_call (codeAny_mono (call w s₀ s₁ mg mb fa o pm cd doc a vs ns G Y ho (fd_plain hd) hcd hmg hobj hints hlen hg (bits_script hlay)) fun r s' hq => ?_)
  obtain ⟨rfl, h2, h3, h4⟩ := hq
  exact ⟨.inl ⟨.bool true, .bool true, [], rfl, fun _ => rfl, .bool true, post_true l _, fun _ => ⟨List.Pairwise.nil, fun _ hm => (nomatch hm)⟩⟩, h2, h3, h4⟩

/-! ### rules over ANY heap (no ledger) from facts about the written part K: the library's own take a ledger (News) for what they write -/
section
variable {prog : Program} {w : World} {A : Around} {E : Value → Shared → Prop} {s : Shared} {K : Frag}

/-! the whole heap as the ledger: makes every rule that writes through a ledger a rule over any heap -/
noncomputable def noObjs (h : Heap) : Heap := { h with objs := #[] }
noncomputable def ledger (h : Heap) (L d : Addr) : List (Addr × Obj) := (List.range h.objs.size).filterMap fun a => if a = L ∨ a = d then none else (h.get? a).map fun o => (a, o)
end
end Att

namespace L2
open PySem PySem.Spec PyProof.Rows

theorem vals_ints : ∀ {vs : List Value} {ns : List Int}, IntsAre vs ns → Vals (ns.map V.int) vs
 := fun h => by
  induction h with
  | nil => exact .nil
  | cons n t h ih => exact .cons ⟨t, rfl⟩ ih

/-- nothing is tracked but the script, known to the object (or it is an object of the module) -/
noncomputable def Only (H : Hp) : Prop := ∀ b, H b = none ∨ ∃ o xs, H b = some (.frz o (.lst xs))

/-- THE HEAD: the law's promise, at the heap behind the top. F, the promise of the law's def, may use that base is part of the heap (so K.In base, base.Ns mainGlobals mg stand in Mod) -/
theorem law_call {P : Program} {w : World} {K : PySem.W.Frag} {mg mb : Str → Option Value} {CX : CXT} {k : Nat} {fa a : Addr} {fd : FuncData} {x : Str} {sp : Sp} {s₁ : Shared} {vs : List Value} {ns : List Int}
    (KX : K.In s₁.heap) (hns : s₁.heap.Ns mainGlobals mg) (hb : s₁.heap.Ns builtinsNs mb) (hbb : ∀ x : Str, x ≠ "__name__" → mb x = bootBuiltins x) (hlim : s₁.heap.NoLimit) (hg : s₁.gens = #[])
    (ha : s₁.heap.get? a = some { cls := .type "list", data := .seq vs.toArray }) (hi : IntsAre vs ns) (hl : ns.length ≤ sizeLine) (hr : Room k callerA)
    (F : ∀ base : Heap, K.In base → base.Ns mainGlobals mg → FnOk P w K mg base CX k fa fd [x] sp) (hbind : ∀ (s : Shared) (u : Value), BindsTo s fd ⟨[u], []⟩ [(x, u)])
    (hsp : ∀ H : Hp, Only H → SqL K H a (ns.map V.int) → sp [.ref a] H (fun v _ => v = .bl true) fun _ _ _ => False)
    (hCX : ∀ H e s', CX.cx [] H s₁ (fun _ _ _ => False) e s' → False) (hsm : CX.sm = false) :
    codeAny (model P w) callerA (.call (.ref fa) ⟨[.ref a], []⟩) (fun r s' => r = .ok (.ret (.bool true)) ∧ OldK s₁.heap s'.heap ∧ s'.os = s₁.os ∧ AllBare s'.gens) s₁ := by
  have rv := vals_ints hi
  have lenV := hi.length
  -- from an abstract heap in which nothing but the script may be tracked
  have core : ∀ H : Hp, Only H → SqL K H a (ns.map V.int) → HOk P w H s₁.heap → (∀ b, H b ≠ none → b = a) → (H a ≠ none → K.lookup a = none) →
      codeAny (model P w) callerA (.call (.ref fa) ⟨[.ref a], []⟩) (fun r s' => r = .ok (.ret (.bool true)) ∧ OldK s₁.heap s'.heap ∧ s'.os = s₁.os ∧ AllBare s'.gens) s₁ := by
    intro H hO hS hok hA hK
    have base_of : ∀ {b : Addr} {o : Obj}, s₁.heap.get? b = some o → H b = none → (hidT s₁.heap H).get? b = some o := fun e n => hidT_get e n
    have noA : ∀ {b : Addr} {o : Obj} {es : Array DictEntry} {ep : Nat}, s₁.heap.get? b = some o → o.data = .dict es ep → H b = none := fun {b o es ep} e d => by
      cases q : H b with
      | none => rfl
      | some u =>
        have e' : b = a := hA b (by rw [q]; simp)
        subst e'
        rw [ha] at e; cases e
        have d' : Data.seq vs.toArray _ = Data.dict es ep := d
        cases d'
    have nsK : ∀ {b : Addr} {m : Str → Option Value}, s₁.heap.Ns b m → (hidT s₁.heap H).Ns b m := fun {b m} hh81 => (by obtain ⟨o, es, ep, e, d, r⟩ := hh81; exact ⟨o, es, ep, base_of e (noA e d), d, r⟩)
    have hKb : K.In (hidT s₁.heap H) := fun b o e => base_of (KX b o e) (by
      cases q : H b with
      | none => rfl
      | some u =>
        have e' : b = a := hA b (by rw [q]; simp)
        subst e'
        rw [hK (by rw [q]; simp)] at e; cases e)
    have hM : Mod K mg (hidT s₁.heap H) := ⟨hKb, nsK hns, ⟨mb, nsK hb, hbb⟩, let ⟨mc, h1, h2⟩ := hlim; ⟨mc, nsK h1, h2⟩⟩
    have e0 : Env0 P w K mg (hidT s₁.heap H) callerA [] s₁ H := ⟨rfl, hM, fun b o e => of_hidT e, Nat.le_of_eq (hidT_size _ _), trivial, fun b hb => absurd (show b ∈ ([] : List Addr) from hb) (by simp), hok, .of_eq hg⟩
    refine codeAny_mono ((F _ hKb (nsK hns)).run callerA [] s₁ H ⟨[.ref a], []⟩ [.ref a] [.ref a] _ _ hr (fun _ => rfl) (fun z => by rw [hsm] at z; cases z) e0 (hbind s₁ (.ref a)) (.cons rfl .nil) (hsp H hO hS)) fun r s' h => ?_
    cases r with
    | error e => exact (hCX H e s' h).elim
    | ok fl =>
      cases fl with
      | next => exact False.elim h
      | brk => exact False.elim h
      | cont => exact False.elim h
      | ret u =>
        obtain ⟨v, H', os, bare, un, hok', r', q⟩ := h
        have q' : v = .bl true := q
        subst q'
        obtain rfl : u = Value.bool true := r'
        refine ⟨rfl, OldK.of_keep fun b o e => ?_, os, bare⟩
        cases q : H b with
        | none => exact un.keep b o e q (by intro z; exact absurd (show b ∈ ([] : List Addr) from z) (by simp)) (by simp)
        | some u =>
          rcases hO b with z | ⟨ob, xs, z⟩
          · rw [q] at z; cases z
          · have z2 := un.frzs b ob _ z
            obtain ⟨e1, _⟩ := hok b _ z
            obtain ⟨e2, _⟩ := hok' b _ z2
            rw [e] at e1; cases e1
            exact e2
  cases hk : K.lookup a with
  | some o =>
    -- the script is one of the module's own objects
    have e := KX a o hk
    rw [ha] at e
    cases e
    refine core (fun _ => none) (fun _ => .inl rfl) (.inr ⟨_, vs.toArray, _, hk, rfl, rfl, rfl, by rw [List.size_toArray, lenV]; exact hl, by simpa using rv⟩) (fun b u z => by have z' : (none : Option HO) = some u := z; cases z') (fun b z => absurd rfl z) fun z => absurd rfl z
  | none =>
    refine core (fun b => if b = a then some (.frz { cls := .type "list", data := .seq vs.toArray } (.lst (ns.map V.int))) else none) (fun b => ?_) (.inl (.inr ⟨{ cls := .type "list", data := .seq vs.toArray }, if_pos rfl⟩)) (fun b u z => ?_) (fun b z => ?_) fun _ => hk
    · by_cases hb : b = a
      · exact .inr ⟨_, _, if_pos hb⟩
      · exact .inl (if_neg hb)
    · by_cases hb : b = a
      · have z' := (if_pos hb).symm.trans z
        cases z'
        subst hb
        exact ⟨ha, by rw [List.length_map]; exact hl, vs, _, rv, ha⟩
      · have z' := (if_neg hb).symm.trans z
        cases z'
    · by_cases hb : b = a
      · exact hb
      · exact absurd (if_neg hb) z
end L2

namespace L2
open PySem PySem.Spec PyProof.Rows

noncomputable abbrev KOf {K : PySem.W.Frag} {h : Heap} (_ : K.In h) : PySem.W.Frag := K

/-- the goal that k_head leaves (case hc), from the law's promise. F gives the function object fd (K's own) once, then the promise over every base -/
theorem walk_of {l : PySem.W.OpenLaw} {n k : Nat} {q : Program} {loose : List Str} {XP : (Str → Option Value) → Heap → Prop} {YP : World → Heap → Prop} {d : DefRec} {K : Params → PySem.W.Frag} {CX : World → CXT} {sp : World → Sp} {x : Str}
    (hn : l.most = some n) (hn2 : n ≤ sizeLine) (hdf : d.params.defaults = []) (hr : Room k callerA)
    (hY : ∀ (w : World) (h : Heap), YP w h → (K w.params).In h)
    (F : ∀ (w : World) (mg : Str → Option Value) (fa : Addr) (h : Heap), (K w.params).In h → h.Ns mainGlobals mg → mg d.name = some (.ref fa) →
      ∃ fd : FuncData, (∀ (s : Shared) (u : Value), BindsTo s fd ⟨[u], []⟩ [(x, u)]) ∧
        ∀ base : Heap, (K w.params).In base → base.Ns mainGlobals mg → FnOk l.prog w (K w.params) mg base (CX w) k fa fd [x] (sp w))
    (hsp : ∀ (w : World) (H : Hp) (a : Addr) (ns : List Int), ns.length ≤ n → (∀ i ∈ ns, Builtin.Int.intBits i ≤ 1048576) → Only H → SqL (K w.params) H a (ns.map V.int) → sp w [.ref a] H (fun v _ => v = .bl true) fun _ _ _ => False)
    (hCX : ∀ (w : World) (H : Hp) (s : Shared) (e : Value) (s' : Shared), (CX w).cx [] H s (fun _ _ _ => False) e s' → False) (hsm : ∀ w, (CX w).sm = false) :
    PySem.W.WalkO q loose XP YP l.row.toRowW d [] (fun f vs => PySem.call f vs) := by
  refine Att.attach_call hn hdf fun w s₀ s₁ mg mb fa o pm cd doc a vs ns G Y ho hd hcd hmg hobj hints hlen hg hbits => ?_
  have KX := hY w _ Y
  obtain ⟨fd, hb, hF⟩ := F w mg fa _ KX G.T.g hmg
  exact law_call KX G.T.g G.T.b G.T.builtins G.T.nolimit hg hobj hints (Nat.le_trans hlen hn2) hr hF hb (fun H hO hS => hsp w H a ns hlen hbits hO hS) (fun H e s' => hCX w H s₁ e s') (hsm w)
end L2

/- THE LAST THEOREM (shape; LID, My.* are yours):
   My.Adr: a structure of the addresses that your layer names (classes, functions); My.Txt K t: a structure (Prop) of the equations over K;
   My.txt_mk : {K} {implicit addresses ..} (e1 : nsIn K mainGlobals "law" = some (some (.ref f))) (e2 : K.lookup f = some ⟨oc, od, .func (fnOf "law" "law" params body scope dV kV doc pm an cdv ct), sl⟩) (e3 : codeIn K cdv "law" = true) .. : ∃ t, My.Txt K t

set_option maxRecDepth 100000 in
set_option maxHeartbeats 0 in
theorem PySem.Challenge.cw_LID_holds : PySem.Challenge.rw_LID.Holds := by
  w_on; o_law; k_head; (case hw => w_witness2)
  k_fill
  refine L2.walk_of (l := PySem.Challenge.rw_LID) (n := 63) (k := 40) (x := "script") (CX := fun w => ..) (sp := fun _ => My.sp_law) rfl (by decide) rfl ⟨rfl, by decide, by decide⟩ (fun w h Y => PySem.W.kIn_of Y) ?F ?S ?C
  case F =>
    intro w mg fa h KX G hmg
    have T : ∃ t, My.Txt (L2.KOf KX) t := by
      dsimp only [L2.KOf]                          -- K must stand as «<heap const> w.params» for k_is
      refine' My.txt_mk ?e1 ?e2 ?e3 ..
      (case e1 => PySem.W.k_is)                    -- in the order: a name -> its address -> its object -> its parts
      (case e2 => PySem.W.k_is)
      ..
    obtain ⟨t, T⟩ := T
    have e0 := hmg.symm.trans (PySem.W.mg_of KX G T.law)
    cases e0                                       -- fa is the law's own address
    exact ⟨_, fun s u => .of_eq rfl, fun base kb nb => My.law_fn T kb nb⟩     -- if «.of_eq rfl» comes too early: refine' ⟨_, ?b, fun base kb nb => My.law_fn T kb nb⟩; exact fun s u => .of_eq rfl
  case S => exact fun w H a ns hl hO hS => ..
  case C => exact ..
(the tactic k_is has no namespace: write k_is) -/

/-! SHORT WORDS over the layer: a def of the text, its body, what a loop and a test want. -/
namespace L2
open PySem PySem.Spec PyProof.Rows

/-! ### the text by places -/
/-- the j-th statement of a class's body -/
noncomputable def inClass (s : Stmt) (j : Nat) : Stmt := match s with
  | .ClassDef _ _ _ body _ _ _ _ _ _ _ => body.getD j (.Pass ⟨0, 0, 0, 0⟩)
  | _ => .Pass ⟨0, 0, 0, 0⟩
noncomputable def defArgs (s : Stmt) : Arguments := match s with
  | .FunctionDef _ a _ _ _ _ _ _ _ _ => a
  | _ => { posonlyargs := [], args := [], vararg := none, kwonlyargs := [], kw_defaults := [], kwarg := none, defaults := [] }
noncomputable def defBody (s : Stmt) : List Stmt := match s with
  | .FunctionDef _ _ b _ _ _ _ _ _ _ => b
  | _ => []
noncomputable def defScope (s : Stmt) : Scope := match s with
  | .FunctionDef _ _ _ _ _ _ sc _ _ _ => sc
  | _ => { kind := .function, names := [], isGenerator := false, isCoroutine := false }

/-! ### no exception leaves a def -/
noncomputable abbrev CX0 : CXT := ⟨true, false, fun _ _ _ _ _ _ => False⟩
/-- .. also within an except suite -/
noncomputable abbrev CXN : CXT := ⟨false, false, fun _ _ _ _ _ _ => False⟩
/-- .. there alone: the handled exception is known -/
noncomputable abbrev CXS : CXT := ⟨false, true, fun _ _ _ _ _ _ => False⟩
noncomputable abbrev E0 : XK := fun _ _ _ => False
theorem pass0 {X : Cx} (hc : X.calm = true := by rfl) : Passes CX0 X E0 := ⟨fun _ => hc, rfl, fun _ _ _ _ _ _ _ h => h.elim⟩
/-! ### a def (or method) of the text as it stands behind the top -/
structure Fun (K : PySem.W.Frag) (x qual : Str) (st : Stmt) (f : Addr) (fd : FuncData) : Prop where
  ex : ∃ (oc : Value) (od : Option Addr) (kV doc pm : Value) (an : Option Addr) (cdv ct : Value) (osl : Array (Option Value)),
    fd = PySem.W.fnOf x qual (defArgs st) (defBody st) (defScope st) .none kV doc pm an cdv ct ∧ K.lookup f = some ⟨oc, od, .func fd, osl⟩ ∧ PySem.W.codeIn K cdv qual = true
  kp : PySem.W.keepIn K (.ref f) = true
section
variable {P : Program} {w : World} {K : PySem.W.Frag} {mg : Str → Option Value} {base : Heap}
/-- a def, whatever its exceptions -/
theorem Fun.okX {x qual : Str} {st : Stmt} {f : Addr} {fd : FuncData} {N ps : List Str} {k : Nat} {sp : Sp} {CX : CXT} (F : Fun K x qual st f fd) (S : FnScope N ps (defScope st)) (len : ∀ vs H Q E, sp vs H Q E → vs.length = ps.length)
    (hbody : ∀ (cdv : Value) (A : Around) (outer : List Env) (s : Shared) (H : Hp) (vs : List V) (Q : VK) (E : XK), Room k (A.deeper (envOfC qual (defScope st) s.heap.objs.size f cdv)) → sp vs H Q E →
      ∃ t, PSs (cxOf CX P w K mg base N qual (defScope st) f cdv A outer s H E) (defBody st) t ∧ t { nx := fun _ H' => Q .non H', rt := Q } (start N vs) H) : FnOk P w K mg base CX (k + 1) f fd ps sp := by
  obtain ⟨oc, od, kV, doc, pm, an, cdv, ct, osl, rfl, lk, hcd⟩ := F.ex
  exact fn_of lk hcd S len fun A outer s H vs Q E hr hsp => hbody cdv A outer s H vs Q E hr hsp
/-- a def that raises nothing -/
theorem Fun.ok {x qual : Str} {st : Stmt} {f : Addr} {fd : FuncData} {N ps : List Str} {k : Nat} {sp : Sp} {CX : CXT} (F : Fun K x qual st f fd) (S : FnScope N ps (defScope st)) (len : ∀ vs H Q E, sp vs H Q E → vs.length = ps.length)
    (hbody : ∀ (cdv : Value) (A : Around) (outer : List Env) (s : Shared) (H : Hp) (vs : List V) (Q : VK) (E : XK), Room k (A.deeper (envOfC qual (defScope st) s.heap.objs.size f cdv)) → sp vs H Q E →
      ∃ t, PSs (cxOf CX P w K mg base N qual (defScope st) f cdv A outer s H E).nox (defBody st) t ∧ t { nx := fun _ H' => Q .non H', rt := Q } (start N vs) H) : FnOk P w K mg base CX (k + 1) f fd ps sp := by
  refine F.okX S len fun cdv A outer s H vs Q E hr hsp => ?_
  obtain ⟨t, h, q⟩ := hbody cdv A outer s H vs Q E hr hsp
  exact ⟨t, h.nox, q⟩
/-- how its arguments bind (no defaults): h is «fun _ _ _ _ _ _ us hl => by obtain ⟨_, _, rfl⟩ := vlen2 hl; rfl», one _ a parameter -/
theorem Fun.binds {x qual : Str} {st : Stmt} {f : Addr} {fd : FuncData} {ps : List Str} (F : Fun K x qual st f fd)
    (h : ∀ (kV doc pm : Value) (an : Option Addr) (cdv ct : Value) (us : List Value), us.length = ps.length → bindArgs (PySem.W.fnOf x qual (defArgs st) (defBody st) (defScope st) .none kV doc pm an cdv ct) ⟨us, []⟩ = pure (ps.zip us)) : Binds K fd ps [] := by
  obtain ⟨oc, od, kV, doc, pm, an, cdv, ct, osl, rfl, lk, hcd⟩ := F.ex
  exact .all (h kV doc pm an cdv ct)
theorem fun_mk {x qual : Str} {st : Stmt} {f : Addr} {oc : Value} {od an : Option Addr} {osl : Array (Option Value)} {kV doc pm cdv ct : Value} (l : K.lookup f = some ⟨oc, od, .func (PySem.W.fnOf x qual (defArgs st) (defBody st) (defScope st) .none kV doc pm an cdv ct), osl⟩)
    (c : PySem.W.codeIn K cdv qual = true) (k : PySem.W.keepIn K (.ref f) = true) : Fun K x qual st f (PySem.W.fnOf x qual (defArgs st) (defBody st) (defScope st) .none kV doc pm an cdv ct) := ⟨⟨oc, od, kV, doc, pm, an, cdv, ct, osl, rfl, l, c⟩, k⟩
end
theorem small1000 {n : Nat} (h : n ≤ 1000) : n < sizeLine := Nat.lt_of_le_of_lt h (by decide)

/-! ### expressions in short: the name that stands in the i-th slot -/
section
variable {X : Cx}
theorem pv (i : Nat) {x : Str} {pos : Pos} (hN : X.N[i]? = some x := by rfl) (hv : Vis X.env.scope x := by first | exact Or.inl rfl | exact Or.inr (Or.inl rfl) | exact Or.inr (Or.inr rfl)) (hd : (x == ("__debug__" : Str)) = false := by decide)
    (hcd : (x == ("__classdict__" : Str)) = false := by decide) : PE X (.Name x pos) (tVar i) := pe_var hN hv hd hcd
end

/-! ### tests -/
theorem iteF {A B : Prop} (h : B) : if false = true then A else B := by
  rw [if_neg Bool.false_ne_true]
  exact h
theorem iteT {A B : Prop} (h : A) : if true = true then A else B := by
  rw [if_pos rfl]
  exact h
theorem ite2 {c A B : Prop} [Decidable c] (h1 : c → A) (h2 : ¬ c → B) : if c then A else B := by
  by_cases h : c
  · rw [if_pos h]
    exact h1 h
  · rw [if_neg h]
    exact h2 h
theorem iteNS {c A B : Prop} [Decidable c] (hc : c) (h : B) : if (!decide c) = true then A else B := by
  rw [decide_eq_true hc]
  exact iteF h

/-! ### heaps -/
/-- all that was tracked is as it was -/
noncomputable def Same (H H' : Hp) : Prop := ∀ b o, H b = some o → H' b = some o
theorem Same.refl (H : Hp) : Same H H := fun _ _ h => h
theorem Same.trans {H H1 H2 : Hp} (a : Same H H1) (b : Same H1 H2) : Same H H2 := fun c o h => b c o (a c o h)
theorem Same.free {H H' : Hp} (e : Same H H') {l : Addr} (h : H' l = Option.none) : H l = Option.none := by
  cases q : H l with
  | none => rfl
  | some o =>
    rw [e l o q] at h
    cases h
theorem Same.seq {K : PySem.W.Frag} {H H' : Hp} {a : Addr} {xs : List V} (e : Same H H') (h : SqL K H a xs) : SqL K H' a xs := by
  rcases h with (h | ⟨o, h⟩) | h
  · exact .inl (.inl (e _ _ h))
  · exact .inl (.inr ⟨o, e _ _ h⟩)
  · exact .inr h

end L2

set_option genSizeOf false
/-! EXT 1: operations beyond the layer: powers, == of data, isinstance; a comprehension. -/
namespace L2
open PySem PySem.Spec PyProof.Rows

/-! ### powers of ints that fit -/
section
variable {X : Cx}
noncomputable def CPowB (i j : Int) : Prop := 0 ≤ j ∧ (Builtin.Int.intBits i : Int) * j ≤ 2 ^ 27
theorem op_powB : OpR X (binaryOp .Pow) (rI CPowB fun i j => .int (i ^ j.toNat)) := opI fun _ _ _ _ _ _ _ hc q => pow_int hc.1 hc.2 q
end

/-! ### == and != of data: values as they are read -/
mutual
inductive DatV (K : PySem.W.Frag) (H : Hp) : V → PyData → Prop where
  | non : DatV K H .non .none
  | bl (b : Bool) : DatV K H (.bl b) (.bool b)
  | int (i : Int) : DatV K H (.int i) (.int i)
  | str (x : Str) : DatV K H (.str x) (.str x)
  | lst {a : Addr} {xs : List V} {ds : List PyData} (h : SqL K H a xs) (r : DatVs K H xs ds) : DatV K H (.ref a) (.list ds)
  | tup {a : Addr} {xs : List V} {ds : List PyData} (h : SqT K H a xs) (r : DatVs K H xs ds) : DatV K H (.ref a) (.tuple ds)
inductive DatVs (K : PySem.W.Frag) (H : Hp) : List V → List PyData → Prop where
  | nil : DatVs K H [] []
  | cons {x : V} {d : PyData} {xs : List V} {ds : List PyData} (h : DatV K H x d) (r : DatVs K H xs ds) : DatVs K H (x :: xs) (d :: ds)
end
section
variable {X : Cx} {pins : List (Addr × Obj)} {σ : St} {H : Hp} {s : Shared}
theorem DatV.reads (I : Inv X pins σ H s) : ∀ {x : V} {d : PyData}, DatV X.K H x d → ∀ {u : Value}, RelV x u → ∃ as, Reads s.heap u d as := fun h =>
  DatV.rec (motive_1 := fun x d _ => ∀ {u : Value}, RelV x u → ∃ as, Reads s.heap u d as) (motive_2 := fun xs ds _ => ∀ {us : List Value}, Vals xs us → ∃ as, ReadsAll s.heap us ds as)
    (fun {u} r => by cases (show u = Value.none from r); exact ⟨_, .none⟩)
    (fun b {u} r => by cases (show u = Value.bool b from r); exact ⟨_, .bool b⟩)
    (fun i {u} r => by obtain ⟨t, rfl⟩ := (show ∃ t, u = Value.int i t from r); exact ⟨_, .int i t⟩)
    (fun x {u} r => by obtain ⟨t, rfl⟩ := (show ∃ t, u = Value.str x t from r); exact ⟨_, .str x t⟩)
    (fun {a xs ds} h rs ih {u} r => by
      cases (show u = Value.ref a from r)
      obtain ⟨its, rv, ⟨o, n, e, hc, _, hd⟩, _⟩ := I.list h
      obtain ⟨as, ra⟩ := ih rv
      exact ⟨_, .list e hc hd ra⟩)
    (fun {a xs ds} h rs ih {u} r => by
      cases (show u = Value.ref a from r)
      obtain ⟨its, rv, ⟨o, e, hc, n, hd⟩, _⟩ := I.tuple h
      obtain ⟨as, ra⟩ := ih rv
      exact ⟨_, .tuple e hc hd ra⟩)
    (fun {us} r => by cases r; exact ⟨_, .nil⟩)
    (fun {x d xs ds} h rs i1 i2 {us} r => by
      cases r with
      | cons r1 r2 =>
        obtain ⟨as, e1⟩ := i1 r1
        obtain ⟨bs, e2⟩ := i2 r2
        exact ⟨_, .cons e1 e2⟩)
    h
end
noncomputable def rEqD (K : PySem.W.Frag) : R2 := fun x y H Q => ∃ d d', DatV K H x d ∧ DatV K H y d' ∧ SeqAt.shaped d = true ∧ SeqAt.shaped d' = true ∧ Q (.bl (PyData.eqv d d')) H
noncomputable def rNeD (K : PySem.W.Frag) : R2 := fun x y H Q => ∃ d d', DatV K H x d ∧ DatV K H y d' ∧ SeqAt.shaped d = true ∧ SeqAt.shaped d' = true ∧ Q (.bl (!PyData.eqv d d')) H
section
variable {X : Cx}
theorem op_eqD (hu : X.A.units + 64 < cLine) : OpR X (compareOp .Eq) (rEqD X.K) := by
  intro pins s σ H x y v u Q I rx ry h
  obtain ⟨d, d', h1, h2, h3, h4, q⟩ := h
  obtain ⟨as, ra⟩ := h1.reads I rx
  obtain ⟨bs, rb⟩ := h2.reads I ry
  exact eq_dataH ra rb h3 h4 hu ⟨.bl _, H, I, rfl, q⟩
theorem op_neD (hu : X.A.units + 64 < cLine) : OpR X (compareOp .NotEq) (rNeD X.K) := by
  intro pins s σ H x y v u Q I rx ry h
  obtain ⟨d, d', h1, h2, h3, h4, q⟩ := h
  obtain ⟨as, ra⟩ := h1.reads I rx
  obtain ⟨bs, rb⟩ := h2.reads I ry
  exact ne_dataH ra rb h3 h4 hu ⟨.bl _, H, I, rfl, q⟩
end
theorem datVs_ints {K : PySem.W.Frag} {H : Hp} : ∀ ns : List Int, DatVs K H (ns.map V.int) (ns.map PyData.int)
  | [] => .nil
  | n :: r => .cons (.int n) (datVs_ints r)
theorem eqv_ints (ns ms : List Int) : PyData.eqv (.list (ns.map PyData.int)) (.list (ms.map PyData.int)) = decide (ns = ms) := by
  rw [← SeqAt.same_eq_eqv _ _ (by simp only [SeqAt.noMix]; exact PySem.W.noMix_ints ns ms)]
  simp only [PySem.Spec.same]
  exact PySem.W.same_ints ns ms

/-! ### isinstance -/
section
variable {X : Cx}
theorem call_isinst : CallR X (.builtin "isinstance") (fun xs H Q => ∃ x c t cv b, xs = [x, c] ∧ TyOf X.K H x t ∧ RelV c cv ∧ PySem.W.kitOne X.K t cv = some b ∧ Q (.bl b) H) := by
  intro pins s σ H xs us Q I r h
  obtain ⟨x, c, t, cv, b, rfl, ty, rc, e, q⟩ := h
  obtain ⟨u, w', rfl, rx, rc'⟩ := vals2 r
  have ec : w' = cv := by
    cases c with
    | non => exact (show w' = _ from rc').trans (show cv = _ from rc).symm
    | bl _ => exact (show w' = _ from rc').trans (show cv = _ from rc).symm
    | ref _ => exact (show w' = _ from rc').trans (show cv = _ from rc).symm
    | ty _ => exact (show w' = _ from rc').trans (show cv = _ from rc).symm
    | int i =>
      obtain ⟨t2, rfl⟩ := (show ∃ t2, cv = Value.int i t2 from rc)
      exact absurd e (by unfold PySem.W.kitOne PySem.W.kitCls; cases ty <;> simp)
    | str i =>
      obtain ⟨t2, rfl⟩ := (show ∃ t2, cv = Value.str i t2 from rc)
      exact absurd e (by unfold PySem.W.kitOne PySem.W.kitCls; cases ty <;> simp)
    | byt i =>
      obtain ⟨t2, rfl⟩ := (show ∃ t2, cv = Value.bytes i t2 from rc)
      exact absurd e (by unfold PySem.W.kitOne PySem.W.kitCls; cases ty <;> simp)
    | flt i =>
      obtain ⟨t2, rfl⟩ := (show ∃ t2, cv = Value.float i t2 from rc)
      exact absurd e (by unfold PySem.W.kitOne PySem.W.kitCls; cases ty <;> simp)
  subst ec
  exact isinst_ok I rx ty e fun tk => ⟨.bl b, H, I.tok tk, rfl, q⟩
end

/-! ### a comprehension -/
/-- the free names of a comprehension's block, by the cells of the code around -/
noncomputable def clOf (names : List (Str × NameKind)) (env : Env) : List (Str × Addr) := (names.filter fun p => p.2 == .free).reverse.map fun p => (p.1, (env.cells.lookup p.1).getD 0)
noncomputable def cxC (X : Cx) (N : List Str) (scope : Scope) (C : Addr) (s₂ : Shared) (H₂ : Hp) (fp : List Addr) : Cx where
  prog := X.prog
  w := X.w
  K := X.K
  mg := X.mg
  base := X.base
  A := X.A
  N := N
  s₀ := s₂
  H₀ := H₂
  env := compEnvC scope (clOf scope.names X.env) C X.env
  outer := X.stack
  stack := X.stack
  ex := fp
  fn := fun _ => false
  calm := X.calm
  suit := X.suit
  pn := []
  xe := fun _ _ => False
theorem lookup_map_key {names : List (Str × NameKind)} {f : Str → NameKind → NameKind} {x : Str} {k : NameKind} : (names.map fun p => (p.1, f p.1 p.2)).lookup x = some k → ∃ k0, names.lookup x = some k0 ∧ k = f x k0 := by
  induction names with
  | nil => intro h; simp at h
  | cons p r ih =>
    obtain ⟨n, k1⟩ := p
    intro h
    rw [List.map_cons, List.lookup_cons] at h
    rw [List.lookup_cons]
    cases hx : x == n with
    | true =>
      rw [hx] at h
      have e : x = n := beq_iff_eq.mp hx
      subst e
      exact ⟨k1, rfl, (Option.some.inj h).symm⟩
    | false =>
      rw [hx] at h
      exact ih h
theorem relabel_names {scope : Scope} {env : Env} : (relabel scope env).names = scope.names.map fun p => (p.1, if (p.2 == .free && env.scope.kind == .function && env.kindOf p.1 == some .cell) = true then NameKind.cell else p.2) := by
  unfold relabel
  refine List.map_congr_left fun p _ => ?_
  obtain ⟨n, k⟩ := p
  show (if (k == .free && env.scope.kind == .function && env.kindOf n == some .cell) = true then (n, NameKind.cell) else (n, k)) = _
  split <;> rfl
theorem lookup_mapV {α β : Type} {l : List (Str × α)} {f : Str → β} {x : Str} {c : β} : (l.map fun p => (p.1, f p.1)).lookup x = some c → c = f x ∧ ∃ a, (x, a) ∈ l := by
  induction l with
  | nil => intro h; simp at h
  | cons p r ih =>
    intro h
    rw [List.map_cons, List.lookup_cons] at h
    cases hx : x == p.1 with
    | true =>
      rw [hx] at h
      have e : x = p.1 := beq_iff_eq.mp hx
      refine ⟨?_, p.2, ?_⟩
      · rw [e]; exact (Option.some.inj h).symm
      · rw [e]; exact List.mem_cons_self
    | false =>
      rw [hx] at h
      obtain ⟨e, a, m⟩ := ih h
      exact ⟨e, a, List.mem_cons_of_mem _ m⟩
theorem lookup_mapV_some {α β : Type} {l : List (Str × α)} {f : Str → β} {x : Str} {a : α} (h : (x, a) ∈ l) : (l.map fun p => (p.1, f p.1)).lookup x = some (f x) := by
  induction l with
  | nil => cases h
  | cons p r ih =>
    rw [List.map_cons, List.lookup_cons]
    cases hx : x == p.1 with
    | true =>
      have e : x = p.1 := beq_iff_eq.mp hx
      rw [e]
    | false =>
      rcases List.mem_cons.mp h with e | m
      · rw [← e] at hx
        simp at hx
      · exact ih m
/-- what a comprehension's scope is -/
structure CompOk (X : Cx) (scope : Scope) : Prop where
  kind : scope.kind = .function
  clos : closureFor scope X.env = pure (clOf scope.names X.env)
  cell : ∀ y ∈ scope.names, y.2 ≠ .cell
  names : ∀ y ∈ scope.names, y.2 = .local → scope.names.lookup y.1 = some .local
  free : ∀ y ∈ scope.names, y.2 = .free → (X.env.cells.lookup y.1).isSome = true
theorem clOf_lookup {X : Cx} {scope : Scope} (ok : CompOk X scope) {x : Str} {c : Addr} (h : (clOf scope.names X.env).lookup x = some c) : X.env.cells.lookup x = some c := by
  unfold clOf at h
  obtain ⟨e, a, m⟩ := lookup_mapV (f := fun n => (X.env.cells.lookup n).getD 0) h
  have m' := List.mem_filter.mp (List.mem_reverse.mp m)
  have fr := ok.free _ m'.1 (by simpa using m'.2)
  cases q : X.env.cells.lookup x with
  | none => rw [q] at fr; cases fr
  | some d => rw [e, q]; rfl
theorem clOf_has {X : Cx} {scope : Scope} {x : Str} (h : (x, NameKind.free) ∈ scope.names) : (clOf scope.names X.env).lookup x = some ((X.env.cells.lookup x).getD 0) := by
  unfold clOf
  exact lookup_mapV_some (f := fun n => (X.env.cells.lookup n).getD 0) (List.mem_reverse.mpr (List.mem_filter.mpr ⟨h, by simp⟩))
/-- the names of the block that stand around it: their slots there -/
inductive FrOk (X : Cx) (scope : Scope) : List Nat → List Str → Prop where
  | nil : FrOk X scope [] []
  | cons {j : Nat} {x : Str} {js : List Nat} {xs : List Str} (h1 : X.N[j]? = some x) (h2 : X.env.kindOf x = some .cell ∨ X.env.kindOf x = some .free) (h3 : scope.names.lookup x = some .free) (r : FrOk X scope js xs) : FrOk X scope (j :: js) (x :: xs)
/-- the block's slots: the targets, then the names around -/
noncomputable def mkC (k : Nat) (js : List Nat) (σ : St) : St := List.replicate k none ++ js.map fun j => (σ[j]?).getD none
theorem mem_of_lookupK {α : Type} {l : List (Str × α)} {x : Str} {a : α} (h : l.lookup x = some a) : (x, a) ∈ l := PySem.mem_of_lookup h
theorem FrOk.len {X : Cx} {scope : Scope} : ∀ {js : List Nat} {xs : List Str}, FrOk X scope js xs → js.length = xs.length
 := fun h => by
  induction h with
  | nil => rfl
  | cons _ _ _ _ ih => exact congrArg Nat.succ ih
theorem FrOk.at {X : Cx} {scope : Scope} : ∀ {js : List Nat} {xs : List Str}, FrOk X scope js xs → ∀ {i : Nat} {x : Str}, xs[i]? = some x → ∃ j, js[i]? = some j ∧ X.N[j]? = some x ∧ (X.env.kindOf x = some .cell ∨ X.env.kindOf x = some .free) ∧ scope.names.lookup x = some .free
 := by
  intro js xs r
  induction r with
  | nil => intro i x h; cases h
  | cons h1 h2 h3 r ih =>
    intro i x h
    cases i with
    | zero => cases h; exact ⟨_, rfl, h1, h2, h3⟩
    | succ i => exact ih (i := i) (x := x) h
/-- the start of the block -/
theorem comp_start {X : Cx} {pins : List (Addr × Obj)} {σ : St} {H2 : Hp} {s₂ : Shared} {scope : Scope} {fp : List Addr} {ts xs : List Str} {js : List Nat} {h₁ : Heap} {C : Addr} {tk : Nat}
    (I : Inv X pins σ H2 s₂) (ok : CompOk X scope) (fr : FrOk X scope js xs) (htl : ∀ x ∈ ts, scope.names.lookup x = some .local) (hfp : ∀ b ∈ fp, FpOk X pins H2 b) (hlt : ∀ b ∈ fp, b < s₂.heap.objs.size)
    (hC : C = s₂.heap.objs.size + 1) (hns : h₁.Ns C (fun _ => none)) (old : ∀ b o, s₂.heap.get? b = some o → h₁.get? b = some o)
    (hD : h₁.get? s₂.heap.objs.size = some { cls := .type "list", data := .seq ([] : List Value).toArray 0 }) :
    Inv (cxC X (ts ++ xs) scope C s₂ H2 fp) [] (mkC ts.length js σ) (upd H2 s₂.heap.objs.size (.lst [])) { s₂ with heap := h₁, toks := tk } := by
  have hf := I.hok.fresh (a := s₂.heap.objs.size) (Nat.le_refl _)
  have hlk : ∀ {x : Str} {k : NameKind}, (compEnvC scope (clOf scope.names X.env) C X.env).kindOf x = some k → ∃ k0, scope.names.lookup x = some k0 ∧ k = if (k0 == .free && X.env.scope.kind == .function && X.env.kindOf x == some .cell) = true then NameKind.cell else k0 := fun {x k} h => by
    have h' : (relabel scope X.env).names.lookup x = some k := h
    rw [relabel_names] at h'
    exact lookup_map_key (f := fun n k => if (k == .free && X.env.scope.kind == .function && X.env.kindOf n == some .cell) = true then NameKind.cell else k) h'
  have freeOf : ∀ {x : Str}, ((compEnvC scope (clOf scope.names X.env) C X.env).kindOf x = some .cell ∨ (compEnvC scope (clOf scope.names X.env) C X.env).kindOf x = some .free) → scope.names.lookup x = some .free := fun {x} h => by
    rcases h with h | h
    · obtain ⟨k0, e, q⟩ := hlk h
      by_cases c : (k0 == .free && X.env.scope.kind == .function && X.env.kindOf x == some .cell) = true
      · rw [Bool.and_eq_true, Bool.and_eq_true] at c
        rw [e, beq_iff_eq.mp c.1.1]
      · rw [if_neg c] at q
        exact absurd q.symm (ok.cell _ (mem_of_lookupK e))
    · obtain ⟨k0, e, q⟩ := hlk h
      by_cases c : (k0 == .free && X.env.scope.kind == .function && X.env.kindOf x == some .cell) = true
      · rw [if_pos c] at q; cases q
      · rw [if_neg c] at q; rw [e, q]
  refine ⟨⟨I.ok.mod, ok.kind, I.ok.glob, I.ok.blt, ?_, fun x y c h1 h2 => I.ok.inj x y c (clOf_lookup ok h1) (clOf_lookup ok h2), fun x hx => ⟨_, clOf_has (mem_of_lookupK (freeOf hx))⟩, fun x c h _ => Bool.noConfusion (show false = true from h),
      I.ok.hd, I.ok.frames, .inl rfl, fun b hb => ⟨?_, fun x c h => (hfp b hb).2.2.2.2.1 x c (clOf_lookup ok h)⟩, I.bs, Nat.le_trans I.ok.bsz I.sz, fun b o e hb => ?_, fun b hb hs => ?_, I.stack, I.stkFree, fun z => ?_⟩,
    rfl, I.bare, Un.laid old (Nat.le_refl _) hf, ⟨_, hns, fun i x v h1 h2 h3 => ?_⟩, fun x c h => ?_, ?_, fun x c h => ?_, fun p hp => absurd (show p ∈ ([] : List (Addr × Obj)) from hp) (by simp), ?_, ?_⟩
  · show s₂.heap.objs.size ≤ C
    rw [hC]
    exact Nat.le_succ _
  · show b ≠ C
    rw [hC]
    exact Nat.ne_of_lt (Nat.lt_succ_of_lt (hlt b hb))
  · have h1 := (hfp b hb).2.2.2.1
    rcases h1 with z | z
    · exact I.ok.noex b o e z
    · exact absurd (Nat.lt_of_lt_of_le (Heap.lt_size e) (Nat.le_trans I.ok.bsz z)) (Nat.lt_irrefl _)
  · rcases List.mem_cons.mp (I.stkSub b hs) with z | z
    · exact (hfp b hb).2.1 z
    · exact (hfp b hb).2.2.1 z
  · obtain ⟨ex, cls, dx, a0, tb, hA, hE⟩ := I.ok.hs z
    exact ⟨ex, cls, dx, a0, tb, hA, I.base.frzs ex _ _ hE⟩
  · -- a name around: its cell
    have hi : ts.length ≤ i := by
      refine Nat.le_of_not_lt fun hi => ?_
      unfold mkC at h2
      rw [List.getElem?_append_left (by simpa using hi), List.getElem?_replicate, if_pos hi] at h2
      cases h2
    have h1' : xs[i - ts.length]? = some x := by
      have h1'' : (ts ++ xs)[i]? = some x := h1
      rw [List.getElem?_append_right hi] at h1''
      exact h1''
    obtain ⟨j, ej, hN, hk, hfree⟩ := fr.at h1'
    have hσ : σ[j]? = some (some v) := by
      unfold mkC at h2
      rw [List.getElem?_append_right (by simpa using hi), List.length_replicate, List.getElem?_map, ej] at h2
      simp only [Option.map_some, Option.some.injEq] at h2
      cases q : σ[j]? with
      | none => rw [q] at h2; cases h2
      | some z => rw [q] at h2; exact congrArg some h2
    obtain ⟨m, hn, hl⟩ := I.loc
    have vis : Vis X.env.scope x := by
      rcases hk with hk | hk
      · exact .inr (.inl hk)
      · exact .inr (.inr hk)
    obtain ⟨u, r, l⟩ := hl j x v hN hσ vis
    refine ⟨u, r, .inr ?_⟩
    rcases l with ⟨k, _⟩ | ⟨_, c, hc, z⟩
    · rcases hk with hk | hk <;> (rw [k] at hk; cases hk)
    · refine ⟨?_, c, ?_, z.keeps old⟩
      · rcases h3 with q | q | q
        · obtain ⟨k0, e, w⟩ := hlk (x := x) (k := .local) q
          rw [hfree] at e
          cases e
          split at w <;> cases w
        · exact .inl q
        · exact .inr q
      · have e := clOf_has (X := X) (mem_of_lookupK hfree)
        rw [hc] at e
        exact e
  · obtain ⟨v, z⟩ := I.cell x c (clOf_lookup ok h)
    exact ⟨v, z.keeps old⟩
  · show (upd H2 s₂.heap.objs.size (.lst [])) C = none
    rw [hC, upd_ne (Nat.ne_of_gt (Nat.lt_succ_self _))]
    exact I.hok.fresh (Nat.le_succ _)
  · obtain ⟨v, z⟩ := I.cell x c (clOf_lookup ok h)
    rw [upd_ne (Nat.ne_of_lt z.lt)]
    exact I.freeC x c (clOf_lookup ok h)
  · exact I.hok.laid old (Nat.le_refl _) ⟨Nat.zero_le _, [], 0, .nil, hD⟩
  · unfold mkC
    show _ = (ts ++ xs).length
    rw [List.length_append, List.length_append, List.length_replicate, List.length_map, fr.len]
end L2

namespace L2
open PySem PySem.Spec PyProof.Rows

/-- (a, b, ..) = a tuple, where an exception is handled around -/
theorem pg_tupS {X : Cx} {pos : Pos} {es : List Expr} {k : Nat} {t : TGs} {n : Nat} (hc : X.suit = true) (h : PGs X es t)
    (hn : (assignEach es X.env).length = n := by rfl) (hst : (assignEach es X.env).findIdx? (·.1) = none := by rfl) : PG X (.Tuple es k pos) (gTup X.K n t) := by
  intro pins s σ H v u Q I r hw
  obtain ⟨a, xs, e1, hq, hl, hw⟩ := hw
  subst e1
  cases r
  obtain ⟨its, rv, ht, hz⟩ := I.tuple hq
  obtain ⟨e, cls, dx, a0, tb, hA, hE⟩ := I.ok.hs hc
  obtain ⟨he, _⟩ := I.hok e _ (I.base.frzs e _ _ hE)
  refine assign_tupS hA he rfl rfl ht (by simp [hn, ← hl, rv.length]) hst fun h' hx => ?_
  have I1 : Inv X pins σ H { s with heap := h' } := I.kept (t' := s.toks) fun b o e => hx b o (Nat.ne_of_lt (Heap.lt_size e)) e
  exact h pins _ σ H xs _ Q I1 (by simpa using rv) hw
/-- the tests of a clause -/
noncomputable def PIf (X : Cx) (ifs : List Expr) (t : TT) : Prop :=
  ∀ (pins : List (Addr × Obj)) (s : Shared) (σ : St) (H : Hp) (Q : Bool → Hp → Prop), Inv X pins σ H s → t σ H Q →
    wpAny (model X.prog X.w) X.A (forIn ifs true fun c r => if r = true then do let ok ← isTrue c X.env (eval c X.env); pure (ForInStep.yield ok) else pure (ForInStep.yield r)) (TP X pins σ Q) X.xe s
noncomputable def tTrue : TT := fun _ H Q => Q true H
theorem pif_nil {X : Cx} : PIf X [] tTrue := fun _ _ _ H _ I h => wpAny_tests_nil ⟨H, I, h⟩
theorem pif_one {X : Cx} {c : Expr} {t : TT} (hc : PT X c t) : PIf X [c] t := fun pins s σ H Q I h => wpAny_tests_one (hc pins s σ H Q I h)

theorem compLoop_any {prog : Program} {w : World} {A : Around} {R : Result → Shared → Prop} {s : Shared} {elt target iter : Expr} {ifs : List Expr} {scope : Scope} {pos : Pos} {it acc : Value} {env : Env} (J : Nat → Shared → Prop)
    (turn : ∀ n s, J n s → wpAny (model prog w) A (pyNext it) (fun r s₁ => match r with
      | none => R (.ok .next) s₁
      | some v => wpAny (model prog w) A (letOwnedTupleGo target it v) (fun _ s₂ => wpAny (model prog w) A (assign target env v) (fun _ s₃ =>
          wpAny (model prog w) A (forIn ifs true fun c r => if r = true then do let ok ← isTrue c env (eval c env); pure (ForInStep.yield ok) else pure (ForInStep.yield r)) (fun ok s₄ =>
            if ok = true then wpAny (model prog w) A (eval elt env) (fun x s₅ =>
              wpAny (model prog w) A (call (.builtin "list.append") [acc, x]) (fun _ s₆ => ∃ m, m < n ∧ J m s₆) (fun _ _ => False) s₅) (fun _ _ => False) s₄
            else ∃ m, m < n ∧ J m s₄) (fun _ _ => False) s₃) (fun _ _ => False) s₂) (fun _ _ => False) s₁) (fun _ _ => False) s)
    (n : Nat) (h : J n s) : codeAny (model prog w) A (.compLoop (.ListComp elt [⟨target, iter, ifs, 0⟩] scope pos) 0 it acc env) R s := by
  refine codeAny_loop rfl J (fun n s hI => ?_) n h
  show wpAny _ A ((compTurn (.ListComp elt [⟨target, iter, ifs, 0⟩] scope pos) 0 it acc env).onRaise (fun x => do noteFrame x env; theTreesLotGoes x)) _ _ s
  refine wpAny_noted (wpAny_noRaise ?_)
  rw [compTurn_list]
  refine wpAny_bind (wpAny_standAt (wpAny_bind (thn (turn n s hI) fun r s₁ h₁ => ?_)))
  cases r with
  | none => exact wpAny_pure h₁
  | some v =>
    refine wpAny_bind (thn h₁ fun _ s₂ h₂ => wpAny_bind (thn h₂ fun _ s₃ h₃ => wpAny_bind (thn h₃ fun ok s₄ h₄ => ?_)))
    cases ok with
    | false => exact wpAny_pure ⟨rfl, h₄⟩
    | true => exact wpAny_bind (wpAny_bind (thn h₄ fun x s₅ h₅ => wpAny_bind (thn h₅ fun _ s₆ h₆ => wpAny_pure (wpAny_pure ⟨rfl, h₆⟩))))

/-- every slot that σ knows, τ knows likewise -/
noncomputable def Sub (σ τ : St) : Prop := ∀ (i : Nat) v, σ[i]? = some (some v) → τ[i]? = some (some v)
theorem Sub.set {σ : St} {i : Nat} {x : Option V} (h : σ[i]? = some none) : Sub σ (σ.set i x) := fun j v e => by
  by_cases hj : i = j
  · subst hj; rw [h] at e; cases e
  · rw [List.getElem?_set_ne hj]; exact e
/-- a list by a comprehension: W by the turn, a measure, the items so far, the heap -/
noncomputable def CompW (J : It) (H1 : Hp) (σ0 : St) (g : TG) (tif : TT) (te : TE) (Q : VK) : Prop := ∀ D, H1 D = none → ∃ W : Nat → Nat → List V → Hp → Prop, (∃ m, W 0 m [] (upd H1 D (.lst []))) ∧
  ∀ i m ys H, W i m ys H → H D = some (.lst ys) ∧ ((J.stop i H ∧ Q (.ref D) H) ∨ (J.go i H ∧ ∀ x H', J.yld i H x H' → g x σ0 H' fun σ2 H2 => Sub σ0 σ2 ∧ tif σ2 H2 fun b H3 =>
    if b = true then te σ2 H3 fun y H4 => H4 D = some (.lst ys) ∧ ys.length < sizeLine ∧ ∃ m', m' < m ∧ W (i + 1) m' (ys ++ [y]) (upd H4 D (.lst (ys ++ [y]))) else ∃ m', m' < m ∧ W (i + 1) m' ys H3))
noncomputable def tComp (mk : St → St) (wi : TI) (g : TG) (tif : TT) (te : TE) : TE := fun σ H Q => wi σ H fun J H1 => CompW J H1 (mk σ) g tif te Q

section
variable {X : Cx} {scope : Scope} {ts xs : List Str} {js : List Nat} {target iter elt : Expr} {ifs : List Expr} {wi : TI} {g : TG} {tif : TT} {te : TE} {pos : Pos}
theorem PIE.mono {pins : List (Addr × Obj)} {σ : St} {tg : Expr} {R R' : It → Hp → Prop} {v : Value} {s : Shared} (h : PIE X pins σ tg R v s) (k : ∀ J H1, R J H1 → R' J H1) : PIE X pins σ tg R' v s := by
  obtain ⟨it, fp, tn, J, H', e, I, T, st, f, r⟩ := h
  exact ⟨it, fp, tn, J, H', e, I, T, st, f, k _ _ r⟩
/-- the block, up to its end -/
theorem comp_run {pins : List (Addr × Obj)} {σ : St} {s₂ : Shared} {Q : VK} {itv : Value} {E : Value → Shared → Prop} {RR : Value → Addr → Result → Shared → Prop} (ok : CompOk X scope) (fr : FrOk X scope js xs) (htl : ∀ x ∈ ts, scope.names.lookup x = some .local)
    (hg : ∀ C s₀ H₀ fp, PG (cxC X (ts ++ xs) scope C s₀ H₀ fp) target g) (hif : ∀ C s₀ H₀ fp, PIf (cxC X (ts ++ xs) scope C s₀ H₀ fp) ifs tif) (he : ∀ C s₀ H₀ fp, PE (cxC X (ts ++ xs) scope C s₀ H₀ fp) elt te)
    (h : PIE X pins σ target (fun J H1 => (X.calm = true ∨ J.sok = true ∧ X.suit = true) ∧ CompW J H1 (mkC ts.length js σ) g tif te Q) itv s₂)
    (hRR : ∀ D C s' H' m', Inv X pins σ H' s' → s'.heap.Ns C m' → FpOk X pins H' C → Q (.ref D) H' → RR (.ref D) C (.ok .next) s') :
    wpAny (model X.prog X.w) X.A (newList []) (fun acc s₃ => wpAny (model X.prog X.w) X.A (newFunctionEnv scope X.env.globals (clOf scope.names X.env) [] X.env.qual none .none (some X.env)) (fun cenv s₄ =>
      codeAny (model X.prog X.w) X.A (.compStart (.ListComp elt [⟨target, iter, ifs, 0⟩] scope pos) 0 itv acc { cenv with scope := relabel scope X.env }) (RR acc cenv.locals) s₄) E s₃) E s₂ := by
  obtain ⟨it, fp, tn, J, H2, e, I2, T, st2, f2, hc, hw⟩ := h
  subst e
  have hlt : ∀ b ∈ fp, b < s₂.heap.objs.size := fun b hb => by
    obtain ⟨o, e, _⟩ := T.obj _ _ st2 b hb
    exact Heap.lt_size e
  refine wpAny_newObj_type (wpAny_newFunctionEnv ok.cell (by intro y hy; simp at hy) (fun h₁ hns₁ hsb₁ => ?_) ok.kind)
  dsimp only at hns₁ hsb₁ ⊢
  have hsz : (s₂.heap.push { cls := .type "list", dict := none, data := .seq ([] : List Value).toArray }).objs.size = s₂.heap.objs.size + 1 := Heap.size_push _ _
  generalize hC : (s₂.heap.push { cls := .type "list", dict := none, data := .seq ([] : List Value).toArray }).objs.size = C at hns₁ hsb₁ hsz ⊢
  have keep1 : ∀ b o, (s₂.heap.push { cls := .type "list", dict := none, data := .seq ([] : List Value).toArray }).get? b = some o → h₁.get? b = some o := fun b o e => by
    have hb : b ≠ C := by
      rw [← hC]
      exact Nat.ne_of_lt (Heap.lt_size e)
    exact (hsb₁.2 b hb).trans (Heap.get?_push_of_some _ e)
  have old : ∀ b o, s₂.heap.get? b = some o → h₁.get? b = some o := fun b o e => keep1 b o (Heap.get?_push_of_some _ e)
  have hD₁ : h₁.get? s₂.heap.objs.size = some { cls := .type "list", data := .seq ([] : List Value).toArray 0 } := keep1 _ _ (Heap.get?_push_size _ rfl)
  have hfD := I2.hok.fresh (a := s₂.heap.objs.size) (Nat.le_refl _)
  obtain ⟨W, ⟨m0, w0⟩, turn⟩ := hw s₂.heap.objs.size hfD
  have IC := comp_start (tk := s₂.toks + ([] : List (Str × Value)).length) I2 ok fr htl f2 hlt hsz hns₁ old hD₁
  have hst₁ : tn 0 h₁ := T.keep _ _ _ st2 fun b hb o e => old b o e
  -- what is asked of the iterator, within
  have stat : ∀ {H' : Hp}, (∀ b ∈ fp, H' b = none) → ∀ b ∈ fp, FpOk (cxC X (ts ++ xs) scope C s₂ H2 fp) [] H' b := fun {H'} hn b hb =>
    ⟨hn b hb, (IC.ok.exf b hb).1, IC.ok.exfs b hb, .inl hb, fun x c e => (IC.ok.exf b hb).2 x c e, fun p hp => absurd (show p ∈ ([] : List (Addr × Obj)) from hp) (by simp)⟩
  have fp0 : ∀ b ∈ fp, (upd H2 s₂.heap.objs.size (.lst [])) b = none := fun b hb => by
    rw [upd_ne (Nat.ne_of_lt (hlt b hb))]
    exact (f2 b hb).1
  have loop : codeAny (model X.prog X.w) X.A (.compLoop (.ListComp elt [⟨target, iter, ifs, 0⟩] scope pos) 0 (.ref it) (.ref s₂.heap.objs.size) (compEnvC scope (clOf scope.names X.env) C X.env))
      (RR (.ref s₂.heap.objs.size) C) { s₂ with heap := h₁, toks := s₂.toks + ([] : List (Str × Value)).length } := by
    refine compLoop_any (fun n s' => ∃ i H' ys, Inv (cxC X (ts ++ xs) scope C s₂ H2 fp) [] (mkC ts.length js σ) H' s' ∧ tn i s'.heap ∧ (∀ b ∈ fp, H' b = none) ∧ W i n ys H') ?_ m0 ⟨0, _, [], IC, hst₁, fp0, w0⟩
    rintro n s3 ⟨i, H3, ys, I3, st3, fr3, w3⟩
    obtain ⟨hDl, alt⟩ := turn i n ys H3 w3
    rcases alt with ⟨stop, qn⟩ | ⟨go, step⟩
    · refine thn (T.done (cxC X (ts ++ xs) scope C s₂ H2 fp) rfl rfl rfl hc i [] s3 _ H3 _ I3 (stat fr3) st3 stop) fun r s4 hh82 => ?_
      obtain ⟨hr, I4⟩ := hh82
      subst hr
      have hCn : H3 C = none := I4.free
      have I5 : Inv X pins σ H3 s4 := I2.call' (ch := fp) (s' := s4) I4.os I4.base I4.hok I4.bare fun b hb => ⟨(f2 b hb).2.2.2.1, (f2 b hb).2.1, (f2 b hb).2.2.2.2.1, (f2 b hb).2.2.2.2.2⟩
      obtain ⟨m', hn', _⟩ := I4.loc
      exact hRR _ _ s4 H3 m' I5 hn' (I2.fpOk (by rw [hsz]; exact Nat.le_succ _) hCn) qn
    · refine thn (T.item (cxC X (ts ++ xs) scope C s₂ H2 fp) rfl rfl rfl hc i [] s3 _ H3 _ I3 (stat fr3) st3 go) fun r s4 hh83 => ?_
      obtain ⟨u, hr, h4⟩ := hh83
      subst hr
      refine thn h4 fun _ s5 hh84 => ?_
      obtain ⟨x, H5, I5, r5, y5, st5, fr5⟩ := hh84
      have I5' := I5.pinned (stat fr5) (T.obj _ _ st5)
      have pinK : ∀ {σ7 : St} {H7 : Hp} {s7 : Shared}, Inv (cxC X (ts ++ xs) scope C s₂ H2 fp) ([] ++ pinsAt fp s5.heap) σ7 H7 s7 → tn (i + 1) s7.heap ∧ ∀ b ∈ fp, H7 b = none := fun {σ7 H7 s7} I7 => by
        refine ⟨T.keep _ _ _ st5 fun b hb o e => (I7.pin (b, o) (List.mem_append_right _ (List.mem_append_right _ (mem_pinsAt hb e)))).1, fun b hb => ?_⟩
        obtain ⟨o, e, d⟩ := T.obj _ _ st5 b hb
        exact (I7.pin (b, o) (List.mem_append_right _ (List.mem_append_right _ (mem_pinsAt hb e)))).2.1
      have back : ∀ {σ7 : St} {H7 : Hp} {s7 : Shared}, Inv (cxC X (ts ++ xs) scope C s₂ H2 fp) ([] ++ pinsAt fp s5.heap) σ7 H7 s7 → Sub (mkC ts.length js σ) σ7 → Inv (cxC X (ts ++ xs) scope C s₂ H2 fp) [] (mkC ts.length js σ) H7 s7 := fun {σ7 H7 s7} I7 sb =>
        I7.unpinned.weak (IC.len.trans I7.len.symm) sb
      refine thn (hg _ _ _ _ _ s5 _ H5 x u _ I5' r5 (step x H5 y5)) fun _ s6 hh85 => ?_
      obtain ⟨σ6, H6, I6, sb6, q6⟩ := hh85
      refine thn (hif _ _ _ _ _ s6 σ6 H6 _ I6 q6) fun okb s7 hh86 => ?_
      obtain ⟨H7, I7, q7⟩ := hh86
      cases okb with
      | false =>
        obtain ⟨m', hm, w7⟩ := (show ∃ m', m' < n ∧ W (i + 1) m' ys H7 from q7)
        obtain ⟨t7, n7⟩ := pinK I7
        exact ⟨m', hm, i + 1, H7, ys, back I7 sb6, t7, n7, w7⟩
      | true =>
        refine thn (he _ _ _ _ _ s7 σ6 H7 _ I7 q7) fun u8 s8 hh87 => ?_
        obtain ⟨y, H8, I8, r8, hD8, hlen, m', hm, w8⟩ := hh87
        refine thn (mt_append (X := cxC X (ts ++ xs) scope C s₂ H2 fp) _ s8 σ6 H8 (.ref s₂.heap.objs.size) [y] (.ref s₂.heap.objs.size) [u8] (fun _ H9 => W (i + 1) m' (ys ++ [y]) H9) I8 rfl (.cons r8 .nil) ⟨_, ys, y, rfl, rfl, hD8, hlen, w8⟩) fun u9 s9 hh88 => ?_
        obtain ⟨_, H9, I9, _, w9⟩ := hh88
        obtain ⟨t9, n9⟩ := pinK I9
        exact ⟨m', hm, i + 1, H9, ys ++ [y], back I9 sb6, t9, n9, w9⟩
  exact codeAny_compStart_list loop (T.self _ 0 _ _ _ hst₁ loop)

theorem pe_comp (hc : X.calm = true) (ok : CompOk X scope) (fr : FrOk X scope js xs) (htl : ∀ x ∈ ts, scope.names.lookup x = some .local) (hi : PI X target iter wi)
    (hg : ∀ C s₀ H₀ fp, PG (cxC X (ts ++ xs) scope C s₀ H₀ fp) target g) (hif : ∀ C s₀ H₀ fp, PIf (cxC X (ts ++ xs) scope C s₀ H₀ fp) ifs tif) (he : ∀ C s₀ H₀ fp, PE (cxC X (ts ++ xs) scope C s₀ H₀ fp) elt te)
    (hs : ∀ x, foldedSetIterable iter X.env x = pure x := by intro _; rfl) : PE X (.ListComp elt [⟨target, iter, ifs, 0⟩] scope pos) (tComp (mkC ts.length js) wi g tif te) := by
  intro pins s σ H Q I h
  rw [eval_ListComp]
  refine wpAny_comprehension_free (use := none) rfl hs ok.clos ok.kind ok.names (thn (hi pins s σ H _ I h) fun v s1 h1 => thn h1 fun itv s2 h2 => ?_)
  refine comp_run (Q := Q) ok fr htl hg hif he (PIE.mono h2 fun J H1 z => ⟨.inl hc, z⟩) fun D C s' H' m' I' hn fpC q => ?_
  refine ⟨m', hn, fun h' hs' => ?_⟩
  obtain ⟨f0, f1, f2, f3, f4, f5⟩ := fpC
  exact ⟨.ref D, H', I'.turned (t' := s'.toks) (fun b o hb e => (hs'.2 b hb).trans e) f0 f1 f3 f4 f5, rfl, q⟩
/-- y = [..] : the store stands ahead of the end of the block's own names -/
theorem ps_setComp {y : Str} {py spos : Pos} {i : Nat} (hc : X.calm = true) (ok : CompOk X scope) (fr : FrOk X scope js xs) (htl : ∀ x ∈ ts, scope.names.lookup x = some .local) (hi : PI X target iter wi)
    (hg : ∀ C s₀ H₀ fp, PG (cxC X (ts ++ xs) scope C s₀ H₀ fp) target g) (hif : ∀ C s₀ H₀ fp, PIf (cxC X (ts ++ xs) scope C s₀ H₀ fp) ifs tif) (he : ∀ C s₀ H₀ fp, PE (cxC X (ts ++ xs) scope C s₀ H₀ fp) elt te)
    (hN : X.N.Nodup) (hy : X.N[i]? = some y) (hx : Loc X.env.scope y)
    (hsw : swapsWith (.ListComp elt [⟨target, iter, ifs, 0⟩] scope pos) (some (.Name y py)) spos.line X.env = pure true)
    (hs : ∀ x, foldedSetIterable iter X.env x = pure x := by intro _; rfl) (hf : X.fn y = true ∨ X.env.scope.names.lookup y = some .local := by first | exact .inl rfl | exact .inr rfl | assumption) :
    PS X (.Assign [.Name y py] (.ListComp elt [⟨target, iter, ifs, 0⟩] scope pos) spos) (tAsg (tComp (mkC ts.length js) wi g tif te) (gName i)) := by
  intro pins s σ H D I h
  rw [exec_Assign_Name_used _ _ _ _ hsw]
  refine wpAny_bind (wpAny_standAt (wpAny_bind ?_))
  show wpAny _ X.A (do let _ ← comprehension (.ListComp elt [⟨target, iter, ifs, 0⟩] scope pos) scope X.env _ (newList []) false (eval iter X.env) (some (assign (.Name y py) X.env))) _ _ s
  refine wpAny_bind (thn (wpAny_comprehension_free (use := some (assign (.Name y py) X.env)) (Q := fun _ s' => SP X pins D .next s') rfl hs ok.clos ok.kind ok.names (thn (hi pins s σ H _ I h) fun v s1 h1 => thn h1 fun itv s2 h2 => ?_)) fun _ s' hq => wpAny_pure (wpAny_pure hq))
  refine comp_run (Q := fun x H1 => gName i x σ H1 D.nx) ok fr htl hg hif he (PIE.mono h2 fun J H1 z => ⟨.inl hc, z⟩) fun Dl C s' H' m' I' hn fpC q => ?_
  show wpAny _ X.A (assign (.Name y py) X.env (.ref Dl)) _ _ _
  obtain ⟨f0, f1, f2, f3, f4, f5⟩ := fpC
  refine wpAny_assign_Name (store_ok2 (v := .ref Dl) I' hN hy hx rfl (fun s2 I2 hh89 => ?_) hf)
  obtain ⟨a, sb, ha⟩ := hh89
  have neC : C ≠ a := by
    rcases ha with z | z
    · rw [z]; exact f1
    · exact fun e => f4 y a z e.symm
  refine ⟨m', hn.sameBut sb neC, fun h' hs' => ?_⟩
  exact ⟨_, H', I2.turned (t' := s2.toks) (fun b o hb e => (hs'.2 b hb).trans e) f0 f1 f3 f4 f5, q⟩
end

/-- .. of a list, where an exception is handled around -/
noncomputable def tCompS (mk : St → St) (wi : TI) (g : TG) (tif : TT) (te : TE) : TE := fun σ H Q => wi σ H fun J H1 => J.sok = true ∧ CompW J H1 (mk σ) g tif te Q
theorem ps_setCompS {X : Cx} {scope : Scope} {ts xs : List Str} {js : List Nat} {target iter elt : Expr} {ifs : List Expr} {wi : TI} {g : TG} {tif : TT} {te : TE} {pos : Pos} {y : Str} {py spos : Pos} {i : Nat} (hc : X.suit = true) (ok : CompOk X scope) (fr : FrOk X scope js xs) (htl : ∀ x ∈ ts, scope.names.lookup x = some .local) (hi : PI X target iter wi)
    (hg : ∀ C s₀ H₀ fp, PG (cxC X (ts ++ xs) scope C s₀ H₀ fp) target g) (hif : ∀ C s₀ H₀ fp, PIf (cxC X (ts ++ xs) scope C s₀ H₀ fp) ifs tif) (he : ∀ C s₀ H₀ fp, PE (cxC X (ts ++ xs) scope C s₀ H₀ fp) elt te)
    (hN : X.N.Nodup) (hy : X.N[i]? = some y) (hx : Loc X.env.scope y)
    (hsw : swapsWith (.ListComp elt [⟨target, iter, ifs, 0⟩] scope pos) (some (.Name y py)) spos.line X.env = pure true)
    (hs : ∀ x, foldedSetIterable iter X.env x = pure x := by intro _; rfl) (hf : X.fn y = true ∨ X.env.scope.names.lookup y = some .local := by first | exact .inl rfl | exact .inr rfl | assumption) :
    PS X (.Assign [.Name y py] (.ListComp elt [⟨target, iter, ifs, 0⟩] scope pos) spos) (tAsg (tCompS (mkC ts.length js) wi g tif te) (gName i)) := by
  intro pins s σ H D I h
  rw [exec_Assign_Name_used _ _ _ _ hsw]
  refine wpAny_bind (wpAny_standAt (wpAny_bind ?_))
  show wpAny _ X.A (do let _ ← comprehension (.ListComp elt [⟨target, iter, ifs, 0⟩] scope pos) scope X.env _ (newList []) false (eval iter X.env) (some (assign (.Name y py) X.env))) _ _ s
  refine wpAny_bind (thn (wpAny_comprehension_free (use := some (assign (.Name y py) X.env)) (Q := fun _ s' => SP X pins D .next s') rfl hs ok.clos ok.kind ok.names (thn (hi pins s σ H _ I h) fun v s1 h1 => thn h1 fun itv s2 h2 => ?_)) fun _ s' hq => wpAny_pure (wpAny_pure hq))
  refine comp_run (Q := fun x H1 => gName i x σ H1 D.nx) ok fr htl hg hif he (PIE.mono h2 fun J H1 z => ⟨.inr ⟨z.1, hc⟩, z.2⟩) fun Dl C s' H' m' I' hn fpC q => ?_
  show wpAny _ X.A (assign (.Name y py) X.env (.ref Dl)) _ _ _
  obtain ⟨f0, f1, f2, f3, f4, f5⟩ := fpC
  refine wpAny_assign_Name (store_ok2 (v := .ref Dl) I' hN hy hx rfl (fun s2 I2 hh90 => ?_) hf)
  obtain ⟨a, sb, ha⟩ := hh90
  have neC : C ≠ a := by
    rcases ha with z | z
    · rw [z]; exact f1
    · exact fun e => f4 y a z e.symm
  refine ⟨m', hn.sameBut sb neC, fun h' hs' => ?_⟩
  exact ⟨_, H', I2.turned (t' := s2.toks) (fun b o hb e => (hs'.2 b hb).trans e) f0 f1 f3 f4 f5, q⟩

/-! ### the forms one uses -/
/-- items of a range, each by itself, the heap as it is but for the list -/
theorem comp_range {lo : Int} {n : Nat} {σ0 : St} {g : TG} {te : TE} {Q : VK} {H1 : Hp} (f : Nat → V) (hn : n ≤ sizeLine)
    (hs : ∀ i, i < n → ∀ (H : Hp) (R : VK), R (f i) H → g (.int (lo + i)) σ0 H fun σ2 H2 => Sub σ0 σ2 ∧ te σ2 H2 R)
    (hd : ∀ D, H1 D = none → Q (.ref D) (upd H1 D (.lst ((List.range n).map f)))) : CompW (Itr lo n) H1 σ0 g tTrue te Q := by
  intro D hD
  refine ⟨fun i m ys H => m = n - i ∧ i ≤ n ∧ ys = (List.range i).map f ∧ H = upd H1 D (.lst ys), ⟨n, by simp, Nat.zero_le _, rfl, rfl⟩, ?_⟩
  rintro i m ys H ⟨rfl, hi, rfl, rfl⟩
  refine ⟨upd_same, ?_⟩
  by_cases hlt : i < n
  · refine .inr ⟨hlt, fun x H' y => ?_⟩
    obtain ⟨e, y⟩ := y
    subst e y
    refine hs i hlt _ _ ?_
    refine ⟨upd_same, ?_, n - (i + 1), Nat.sub_succ_lt_self _ _ hlt, rfl, hlt, ?_, ?_⟩
    · rw [List.length_map, List.length_range]; (first | lia | omega)
    · rw [List.range_succ, List.map_append]; rfl
    · rw [upd_upd]
  · have e : i = n := by (first | lia | omega)
    subst e
    exact .inl ⟨Nat.le_refl _, hd D hD⟩
end L2

set_option genSizeOf false
/-! EXT 2: exceptions: how one flies, leaves a def, passes a caller, is caught. -/
namespace L2
open PySem PySem.Spec PyProof.Rows

/-- in flight over the frames l: B is all that stays -/
structure Fly (B : Heap) (l : List Env) (e : Addr) (cls : Value) (dx : Option Addr) (fl : Value) (h : Heap) : Prop where
  st : B.StaysIn h
  ne : B.get? e = none
  fr : h.FunFrames B l
  ob : ∃ a0 T oT ts, h.get? e = some (xObj cls dx a0 (.ref T)) ∧ B.get? T = none ∧ T ≠ e ∧ h.get? T = some oT ∧ oT.data = .fields ts ∧ ts[3]? = some fl
theorem Fly.drop {B : Heap} {env : Env} {l : List Env} {e : Addr} {cls fl : Value} {dx : Option Addr} {h : Heap} (F : Fly B (env :: l) e cls dx fl h) : Fly B l e cls dx fl h := ⟨F.st, F.ne, F.fr.2.2, F.ob⟩

section
variable {M : Model} {A : Around} {E : Value → Shared → Prop} {s : Shared} {B : Heap} {env : Env} {outer : List Env} {L e : Addr} {cls fl a0 head : Value} {dx : Option Addr} {Q : Unit → Shared → Prop}
/-- a new entry of the trace -/
theorem fly_entry {hadNext : Bool} (hfr : A.frames = some (env :: outer)) (hl : s.heap.FunFrames B (env :: outer)) (hf : env.frame = some L) (he : s.heap.get? e = some (xObj cls dx a0 head)) (st : B.StaysIn s.heap) (ne : B.get? e = none)
    (k : ∀ h', Fly B (env :: outer) e cls dx (rawInt L) h' → s.heap.UpToSlots h' → Q () { s with heap := h' }) :
    wpAny M A (do let a ← frameOf env; let pl ← entryPlaceOf L hadNext; let b ← EntryCells.newEntry head a .none (rawInt L) .none pl; setField (.ref e) 1 b) Q E s := by
  have nofr : e ∉ (env :: outer).filterMap (·.frame) := fun hm => by
    obtain ⟨_, o, ho, nf⟩ := hl.mem hm
    rw [he] at ho
    cases ho
    exact nf _ rfl
  refine wpAny_bind (wpAny_frameOf_fun hfr hl hf fun h1 so => ?_)
  refine wpAny_bind (wpAny_entryPlaceOf fun pl hpl => ?_)
  unfold EntryCells.newEntry newFields
  refine wpAny_bind (wpAny_newObj_type ?_ (hpl.sizeOk5 _ _ _ _ _))
  generalize hE : ([head, .ref L, .none, rawInt L, .none] ++ (if pl.isEmpty then List.replicate 6 Value.none else pl)).toArray = flds
  have f3 : flds[3]? = some (rawInt L) := by
    rw [← hE]
    first | (simp; done) | (rcases hpl with rfl | ⟨_, _, _, _, _, _, _, rfl⟩ <;> simp)
  have e1 : h1.get? e = some (xObj cls dx a0 head) := (so.2.1 e nofr).trans he
  have st1 : B.StaysIn h1 := fun b o q => (so.2.1 b fun hm => by rw [(hl.mem hm).1] at q; cases q).trans (st b o q)
  have e2 := Heap.get?_push_of_some (h := h1) { cls := .type "traceback", dict := none, data := .fields flds } e1
  have neT : h1.objs.size ≠ e := Nat.ne_of_gt (Heap.lt_size e1)
  have keep : ∀ b o, b ≠ e → h1.get? b = some o → ((h1.push { cls := .type "traceback", dict := none, data := .fields flds }).update e (Obj.mapFields (·.setIfInBounds 1 (Value.ref h1.objs.size)))).get? b = some o := fun b o hb q => by
    rw [Heap.get?_update_other _ _ (Ne.symm hb)]
    exact Heap.get?_push_of_some _ q
  have norec : ∀ b o, s.heap.get? b = some o → (∀ vs, o.data ≠ .fields vs) → b ≠ e := fun b o q nf z => by
    rw [z, he] at q
    cases q
    exact nf _ rfl
  refine wpAny_setField e2 rfl (by show 1 < 6; decide) (k _ ?_ ?_)
  · refine ⟨fun b o q => keep b o (fun z => by rw [z, ne] at q; cases q) (st1 b o q), ne, hl.of_keeps fun b o q nf => ?_, a0, h1.objs.size, { cls := .type "traceback", dict := none, data := .fields flds }, flds, ?_, st1.fresh, neT, ?_, rfl, f3⟩
    · obtain ⟨sl, q1⟩ := so.2.2 b o q
      exact ⟨_, keep b _ (norec b o q nf) q1, rfl⟩
    · rw [Heap.get?_update_self _ e2 rfl]
      rfl
    · rw [Heap.get?_update_other _ _ (Ne.symm neT)]
      exact Heap.get?_push_size h1 rfl
  · intro b o q nf
    obtain ⟨sl, q1⟩ := so.2.2 b o q
    exact ⟨sl, keep b _ (norec b o q nf) q1⟩
theorem fly_new (hfr : A.frames = some (env :: outer)) (hl : s.heap.FunFrames B (env :: outer)) (hf : env.frame = some L) (he : s.heap.get? e = some (xObj cls dx a0 .none)) (st : B.StaysIn s.heap) (ne : B.get? e = none)
    (k : ∀ h', Fly B (env :: outer) e cls dx (rawInt L) h' → s.heap.UpToSlots h' → Q () { s with heap := h' }) : wpAny M A (noteFrame (.ref e) env) Q E s := by
  unfold noteFrame
  simp only [hf]
  refine wpAny_bind (wpAny_field he rfl (x := .none) rfl ?_)
  rw [if_neg (by decide)]
  exact fly_entry hfr hl hf he st ne k
theorem fly_on (hfr : A.frames = some (env :: outer)) (hf : env.frame = some L) (F : Fly B (env :: outer) e cls dx .none s.heap)
    (k : ∀ h', Fly B (env :: outer) e cls dx (rawInt L) h' → s.heap.UpToSlots h' → Q () { s with heap := h' }) : wpAny M A (noteFrame (.ref e) env) Q E s := by
  obtain ⟨st, ne, fr, a0, T, oT, ts, he, nT, hTe, hT, dT, t3⟩ := F
  unfold noteFrame
  simp only [hf]
  refine wpAny_bind (wpAny_field he rfl (x := .ref T) rfl ?_)
  rw [if_pos (show (Value.ref T != Value.none) = true from by simp)]
  refine wpAny_bind (wpAny_field hT dT t3 ?_)
  rw [if_neg (show ¬ ((Value.none == rawInt L) = true) from by simp [rawInt])]
  refine wpAny_bind (wpAny_setField hT dT (Array.getElem?_eq_some_iff.mp t3).1 ?_)
  have other : ∀ b, b ≠ T → (s.heap.update T (Obj.mapFields (·.setIfInBounds 3 Value.none))).get? b = s.heap.get? b := fun b hb => Heap.get?_update_other _ _ (Ne.symm hb)
  have norec : ∀ b o, s.heap.get? b = some o → (∀ vs, o.data ≠ .fields vs) → b ≠ T := fun b o q nf z => by
    rw [z, hT] at q
    cases q
    exact nf ts dT
  refine fly_entry hfr (fr.of_keeps fun b o q nf => ⟨o, (other b (norec b o q nf)).trans q, rfl⟩) hf ((other e (Ne.symm hTe)).trans he) (fun b o q => (other b fun z => by rw [z, nT] at q; cases q).trans (st b o q)) ne fun h' F' up => k h' F' fun b o q nf => ?_
  exact up b o ((other b (norec b o q nf)).trans q) nf
theorem fly_land {l : List Env} (F : Fly B l e cls dx fl s.heap) (k : ∀ h', Fly B l e cls dx .none h' → s.heap.UpToSlots h' → Q () { s with heap := h' }) : wpAny M A (setFlight (.ref e) none) Q E s := by
  obtain ⟨st, ne, fr, a0, T, oT, ts, he, nT, hTe, hT, dT, t3⟩ := F
  have h3 : 3 < ts.size := (Array.getElem?_eq_some_iff.mp t3).1
  have other : ∀ b, b ≠ T → (s.heap.update T (Obj.mapFields (·.setIfInBounds 3 Value.none))).get? b = s.heap.get? b := fun b hb => Heap.get?_update_other _ _ (Ne.symm hb)
  have norec : ∀ b o, s.heap.get? b = some o → (∀ vs, o.data ≠ .fields vs) → b ≠ T := fun b o q nf z => by
    rw [z, hT] at q
    cases q
    exact nf ts dT
  have dT' := Obj.data_mapFields dT (·.setIfInBounds 3 Value.none)
  unfold setFlight
  refine wpAny_bind (wpAny_field he rfl (x := .ref T) rfl ?_)
  rw [if_pos (show (Value.ref T != Value.none) = true from by simp)]
  refine wpAny_setField hT dT h3 (k _ ⟨fun b o q => (other b fun z => by rw [z, nT] at q; cases q).trans (st b o q), ne, fr.of_keeps fun b o q nf => ⟨o, (other b (norec b o q nf)).trans q, rfl⟩, a0, T, _, _, (other e (Ne.symm hTe)).trans he, nT, hTe, Heap.get?_update_self _ hT (Obj.isFreed_of_fields dT'), dT', by simp [h3]⟩ fun b o q nf => ⟨o.slots, (other b (norec b o q nf)).trans q⟩)
end

/-! ### what stays while one flies -/
structure Kept (fs : List Addr) (H H' : Hp) (h B : Heap) : Prop where
  k1 : ∀ b o, h.get? b = some o → H b = none → b ∉ fs → B.get? b = some o
  k2 : ∀ b o, h.get? b = some o → b ∉ fs → ∃ o', B.get? b = some o'
  tk : ∀ b, H' b ≠ none → ∃ u, B.get? b = some u
section
variable {P : Program} {w : World} {H H' : Hp} {h h' h2 B : Heap} {l l2 : List Env} {e : Addr} {cls fl fl2 : Value} {dx : Option Addr}
theorem ObjOk.some_of {a : Addr} {o : HO} (x : ObjOk P w H h a o) : ∃ u, h.get? a = some u := by
  cases o with
  | lst xs => obtain ⟨_, _, _, _, e⟩ := x; exact ⟨_, e⟩
  | tup xs => obtain ⟨_, _, _, o, e, _⟩ := x; exact ⟨_, e⟩
  | dK kvs => obtain ⟨_, _, _, _, o, _, _, e, _⟩ := x; exact ⟨_, e⟩
  | dT kvs => obtain ⟨_, _, _, _, o, _, _, e, _⟩ := x; exact ⟨_, e⟩
  | set S n => obtain ⟨o, _, _, _, e, _⟩ := x; exact ⟨_, e⟩
  | ins C dx fs => obtain ⟨_, _, _, e, _⟩ := x; exact ⟨_, e⟩
  | own y => exact x
  | xd fs => obtain ⟨_, ⟨o, _, _, e, _⟩, _⟩ := x; exact ⟨_, e⟩
  | rng lo hi => obtain ⟨_, _, _, e⟩ := x; exact ⟨_, e⟩
  | frz ob u => obtain ⟨e, _⟩ := x; exact ⟨_, e⟩
  | tbl ps => exact ⟨_, (show h.get? a = some _ from x)⟩
  | met f y => exact ⟨_, (show h.get? a = some _ from x)⟩
  | ext φ => obtain ⟨_, e, _⟩ := x; exact e
theorem HOk.flown (ok : HOk P w H' h') (tk : ∀ b, H' b ≠ none → ∃ u, B.get? b = some u) (s1 : B.StaysIn h') (s2 : B.StaysIn h2) : HOk P w H' h2 := fun a o q => by
  have same : ∀ b u, H' b ≠ none → h'.get? b = some u → h2.get? b = some u := fun b u n z => by
    obtain ⟨u', e'⟩ := tk b n
    have := s1 b u' e'
    rw [z] at this
    cases this
    exact s2 b _ e'
  refine (ok a o q).stay (fun b u hb z => same b u ?_ z) (fun _ z => z) fun _ _ z => z
  rcases hb with rfl | hb
  · rw [q]; simp
  · rw [hb]; simp
/-- from the state of a call over a flight -/
theorem Un.flown (u : Un (frs l) [] H H' h h') (k : Kept (frs l) H H' h B) (hfs : ∀ b ∈ frs l, H b = none) (F : Fly B l e cls dx fl h') (up : h'.UpToSlots h2) (s2 : B.StaysIn h2) : Un (frs l) [] H H' h h2 where
  keep := fun b o q n hb _ => s2 b o (k.k1 b o q n hb)
  slot := fun b o q n hb hx => by
    obtain ⟨sl, q1⟩ := u.slot b o q n hb hx
    obtain ⟨_, o', q2, nf⟩ := F.fr.mem hb
    rw [q1] at q2
    cases q2
    obtain ⟨sl', q3⟩ := up b _ q1 nf
    exact ⟨sl', q3⟩
  free := u.free
  there := fun b o q hx => by
    by_cases hb : b ∈ frs l
    · obtain ⟨sl, q1⟩ := u.slot b o q (hfs b hb) hb hx
      obtain ⟨_, o', q2, nf⟩ := F.fr.mem hb
      rw [q1] at q2
      cases q2
      obtain ⟨sl', q3⟩ := up b _ q1 nf
      exact ⟨_, q3⟩
    · obtain ⟨o', q'⟩ := k.k2 b o q hb
      exact ⟨o', s2 b o' q'⟩
  tups := u.tups
  frzs := u.frzs
  tbls := u.tbls
end

theorem frames_hide {base h : Heap} {as : List Addr} : ∀ {l : List Env}, h.FunFrames base l → (∀ env ∈ l, ∀ a, env.frame = some a → a ∈ as) → h.FunFrames (PySem.W.hideAll h as) l
  | [], _, _ => trivial
  | env :: r, x, k => by
    obtain ⟨x1, ⟨L, o, x2, _, x3, x4⟩, x5⟩ := x
    exact ⟨x1, ⟨L, o, x2, PySem.W.hideAll_none _ (k env List.mem_cons_self L x2), x3, x4⟩, frames_hide x5 fun e he => k e (List.mem_cons_of_mem _ he)⟩

/-! ### how one lies behind a call -/
noncomputable def XCx (P : Program) (w : World) (outer : List Env) (H : Hp) (s : Shared) (E : XK) (e : Value) (s' : Shared) : Prop :=
  ∃ (ea : Addr) (cls : Value) (dx : Option Addr) (H' : Hp) (B : Heap), e = .ref ea ∧ s'.os = s.os ∧ AllBare s'.gens ∧ Un (frs outer) [] H H' s.heap s'.heap ∧ HOk P w H' s'.heap ∧ Fly B outer ea cls dx .none s'.heap ∧ H' ea = none ∧ s.heap.get? ea = none ∧
    Kept (frs outer) H H' s.heap B ∧ E cls dx H'
noncomputable abbrev XC (P : Program) (w : World) (cm : Bool) : CXT := ⟨cm, false, XCx P w⟩
section
variable {cm : Bool} {P : Program} {w : World} {K : PySem.W.Frag} {mg : Str → Option Value} {base : Heap} {N : List Str} {qual : Str} {scope : Scope} {f : Addr} {cd : Value} {A : Around} {outer : List Env} {s : Shared} {H : Hp} {E : XK}
/-- what stays at the very raise -/
theorem Inv.kept_at {pins : List (Addr × Obj)} {σ : St} {Hr : Hp} {sr : Shared} (I : Inv (cxOf (XC P w cm) P w K mg base N qual scope f cd A outer s H E) pins σ Hr sr) :
    (∀ b o, (PySem.W.hideAll sr.heap (frs (envOfC qual scope s.heap.objs.size f cd :: outer))).get? b = some o → sr.heap.get? b = some o) ∧ Kept (frs outer) H Hr s.heap (PySem.W.hideAll sr.heap (frs (envOfC qual scope s.heap.objs.size f cd :: outer))) := by
  have nin : ∀ b o, s.heap.get? b = some o → b ∉ frs outer → b ∉ frs (envOfC qual scope s.heap.objs.size f cd :: outer) := fun b o q hb z => by
    have z' : b ∈ s.heap.objs.size :: frs outer := z
    rcases List.mem_cons.mp z' with e | e
    · exact absurd (Heap.lt_size q) (by rw [e]; exact Nat.lt_irrefl _)
    · exact hb e
  refine ⟨fun b o q => PySem.W.of_hideAll _ q, fun b o q n hb => ?_, fun b o q hb => ?_, fun b n => ?_⟩
  · exact PySem.W.hideAll_get _ (I.base.keep b o q n hb (fun z => absurd (show b ∈ ([] : List Addr) from z) (by simp))) (nin b o q hb)
  · obtain ⟨o', q'⟩ := I.base.there b o q (fun z => absurd (show b ∈ ([] : List Addr) from z) (by simp))
    exact ⟨o', PySem.W.hideAll_get _ q' (nin b o q hb)⟩
  · cases q : Hr b with
    | none => exact absurd q n
    | some x =>
      obtain ⟨u, hu⟩ := (I.hok b x q).some_of
      refine ⟨u, PySem.W.hideAll_get _ hu fun z => ?_⟩
      have := I.stkFree b z
      rw [q] at this
      cases this
/-- raised in a def's own body: the object is new -/
theorem raised_fn {pins : List (Addr × Obj)} {σ : St} {Hr : Hp} {sr : Shared} {h' : Heap} {e : Addr} {cls : Value} {args : List Value} (I : Inv (cxOf (XC P w cm) P w K mg base N qual scope f cd A outer s H E) pins σ Hr sr)
    (m : Heap.MadeExcOf sr.heap h' e cls args) (q : E cls none Hr) : (cxOf (XC P w cm) P w K mg base N qual scope f cd A outer s H E).xe (.ref e) { sr with heap := h' } := by
  obtain ⟨t, he, _, _⟩ := m.there
  obtain ⟨sub, kp⟩ := I.kept_at
  have hen : (PySem.W.hideAll sr.heap (frs (envOfC qual scope s.heap.objs.size f cd :: outer))).get? e = none := by
    cases z : (PySem.W.hideAll sr.heap (frs (envOfC qual scope s.heap.objs.size f cd :: outer))).get? e with
    | none => rfl
    | some o => have := sub e o z; rw [m.new] at this; cases this
  have fr0 : sr.heap.FunFrames base (envOfC qual scope s.heap.objs.size f cd :: outer) := I.stack
  have fr1 : sr.heap.FunFrames (PySem.W.hideAll sr.heap (frs (envOfC qual scope s.heap.objs.size f cd :: outer))) (envOfC qual scope s.heap.objs.size f cd :: outer) :=
    frames_hide fr0 fun env he b hb => List.mem_filterMap.mpr ⟨env, he, hb⟩
  show wpAny (model P w) (A.deeper (envOfC qual scope s.heap.objs.size f cd)) (leaving (envOfC qual scope s.heap.objs.size f cd) (.ref e)) _ _ _
  unfold leaving
  refine wpAny_bind (fly_new (B := PySem.W.hideAll sr.heap (frs (envOfC qual scope s.heap.objs.size f cd :: outer))) I.ok.frames (fr1.of_keeps fun b o z _ => ⟨o, m.keeps b o z, rfl⟩) rfl he (fun b o z => m.keeps b o (sub b o z)) hen fun h1 F1 up1 => ?_)
  refine fly_land F1 fun h2 F2 up2 => ?_
  have un1 : Un (frs outer) [] H Hr s.heap h' := I.base.trans (Un.kept m.keeps)
  have hok1 : HOk P w Hr h' := I.hok.kept m.keeps
  have kpo : Kept (frs outer) H Hr s.heap _ := kp
  have upAll : h'.UpToSlots h2 := up1.trans up2
  have hfs : ∀ b ∈ frs outer, H b = none := I.ok.frf
  have st1 : (PySem.W.hideAll sr.heap (frs (envOfC qual scope s.heap.objs.size f cd :: outer))).StaysIn h' := fun b o z => m.keeps b o (sub b o z)
  have F0 : ∀ b ∈ frs outer, ∃ o, h'.get? b = some o ∧ ∀ vs, o.data ≠ .fields vs := fun b hb => by
    obtain ⟨_, o, q1, nf⟩ := fr1.2.2.mem hb
    exact ⟨o, m.keeps b o q1, nf⟩
  refine ⟨e, cls, none, Hr, _, rfl, I.os, I.bare, ?_, hok1.flown kp.tk st1 F2.st, F2.drop, ?_, ?_, kp, q⟩
  · refine ⟨fun b o q1 n hb _ => F2.st b o (kp.k1 b o q1 n hb), fun b o q1 n hb hx => ?_, un1.free, fun b o q1 hx => ?_, un1.tups, un1.frzs, un1.tbls⟩
    · obtain ⟨sl, q2⟩ := un1.slot b o q1 n hb hx
      obtain ⟨o', q3, nf⟩ := F0 b hb
      rw [q2] at q3
      cases q3
      obtain ⟨sl', q4⟩ := upAll b _ q2 nf
      exact ⟨sl', q4⟩
    · by_cases hb : b ∈ frs outer
      · obtain ⟨o', q3, nf⟩ := F0 b hb
        obtain ⟨sl', q4⟩ := upAll b _ q3 nf
        exact ⟨_, q4⟩
      · obtain ⟨o', q'⟩ := kp.k2 b o q1 hb
        exact ⟨o', F2.st b o' q'⟩
  · cases z : Hr e with
    | none => rfl
    | some x =>
      obtain ⟨u, hu⟩ := (I.hok e x z).some_of
      rw [m.new] at hu
      cases hu
  · cases z : s.heap.get? e with
    | none => rfl
    | some o =>
      obtain ⟨o', q'⟩ := I.base.there e o z (fun z => absurd (show e ∈ ([] : List Addr) from z) (by simp))
      rw [m.new] at q'
      cases q'
/-- an exception of a callee goes on through a def's frame -/
theorem pass_fn {cm' : Bool} (hcm : cm' = true → cm = true) : Passes (XC P w cm') (cxOf (XC P w cm) P w K mg base N qual scope f cd A outer s H E) E := by
  refine ⟨hcm, rfl, fun pins σ H1 s1 e s' I hx => ?_⟩
  obtain ⟨ea, cls, dx, H', B, rfl, os, bare, un, hok, F, hn, hfr, kp, q⟩ := (show XCx P w (envOfC qual scope s.heap.objs.size f cd :: outer) H1 s1 E e s' from hx)
  show wpAny (model P w) (A.deeper (envOfC qual scope s.heap.objs.size f cd)) (leaving (envOfC qual scope s.heap.objs.size f cd) (.ref ea)) _ _ _
  unfold leaving
  refine wpAny_bind (fly_on I.ok.frames rfl F fun h1 F1 up1 => ?_)
  refine fly_land F1 fun h2 F2 up2 => ?_
  have hst : ∀ b ∈ frs (envOfC qual scope s.heap.objs.size f cd :: outer), H1 b = none := I.stkFree
  have un2 : Un (frs (envOfC qual scope s.heap.objs.size f cd :: outer)) [] H1 H' s1.heap h2 := un.flown kp hst F (up1.trans up2) F2.st
  have hok2 : HOk P w H' h2 := hok.flown kp.tk F.st F2.st
  have I2 : Inv (cxOf (XC P w cm) P w K mg base N qual scope f cd A outer s H E) pins σ H' { s' with heap := h2 } := I.call' (ch := []) (s' := { s' with heap := h2 }) os un2 hok2 bare (fun b z => absurd z (by simp))
  have nin : ∀ b o, s.heap.get? b = some o → b ∉ frs outer → b ∉ frs (envOfC qual scope s.heap.objs.size f cd :: outer) := fun b o q hb z => by
    have z' : b ∈ s.heap.objs.size :: frs outer := z
    rcases List.mem_cons.mp z' with e | e
    · exact absurd (Heap.lt_size q) (by rw [e]; exact Nat.lt_irrefl _)
    · exact hb e
  have noE : ∀ b, b ∉ ([] : List Addr) := fun b z => absurd z (by simp)
  refine ⟨ea, cls, dx, H', B, rfl, I2.os, bare, I2.base, hok2, F2.drop, hn, ?_, ⟨fun b o z n hb => ?_, fun b o z hb => ?_, kp.tk⟩, q⟩
  · cases z : s.heap.get? ea with
    | none => rfl
    | some o =>
      obtain ⟨o', q'⟩ := I.base.there ea o z (noE ea)
      rw [hfr] at q'
      cases q'
  · exact kp.k1 b o (I.base.keep b o z n hb (noE b)) (I.base.free b o z n (noE b)) (nin b o z hb)
  · obtain ⟨o', q'⟩ := I.base.there b o z (noE b)
    exact kp.k2 b o' q' (nin b o z hb)
end
end L2

set_option genSizeOf false
/-! EXT 3: raise, try. -/
namespace L2
open PySem PySem.Spec PyProof.Rows

/-! ### raise C(..), C an own class of exceptions without __init__ -/
theorem exc_m6 {o : Option Obj} {f : Option Addr → ClassData → Array (Option Value) → Bool} (t : PySem.W.excIn.match_6 (fun _ => Bool) o f (fun _ => false) = true) : ∃ dd cd sl, o = some ⟨.type "type", dd, .cls cd, sl⟩ ∧ f dd cd sl = true := by
  cases o with
  | none => exact Bool.noConfusion t
  | some o =>
    obtain ⟨cls, dd, data, sl⟩ := o
    cases cls with
    | type s =>
      by_cases hs : s = "type"
      · subst hs
        cases data with
        | cls cd => exact ⟨dd, cd, sl, rfl, t⟩
        | _ => exact Bool.noConfusion t
      · have e : PySem.W.excIn.match_6 (fun _ => Bool) (some ⟨.type s, dd, data, sl⟩) f (fun _ => false) = false := by delta PySem.W.excIn.match_6; exact dif_neg hs
        exact Bool.noConfusion (e.symm.trans t)
    | _ => exact Bool.noConfusion t
theorem exc_m1 {l : List (Option Value)} {mro : List Value} {g : Addr → List Value → String → Bool} (t : PySem.W.excIn.match_1 (fun _ _ => Bool) mro l (fun c b _ _ _ _ n _ => g c b n) (fun _ _ => false) = true) :
    ∃ C bm k0 k1 k2 k3 n k5, mro = .ref C :: bm ∧ l = [k0, k1, k2, k3, some (.builtin n), k5] ∧ g C bm n = true := by
  cases mro with
  | nil => exact Bool.noConfusion t
  | cons v bm =>
    cases v with
    | ref C' =>
      rcases l with _ | ⟨k0, _ | ⟨k1, _ | ⟨k2, _ | ⟨k3, _ | ⟨k4, l⟩⟩⟩⟩⟩
      iterate 5 exact Bool.noConfusion t
      cases k4 with
      | none => exact Bool.noConfusion t
      | some v =>
        cases v with
        | builtin n =>
          rcases l with _ | ⟨k5, _ | ⟨k6, l⟩⟩
          · exact Bool.noConfusion t
          · exact ⟨C', bm, k0, k1, k2, k3, n, k5, rfl, rfl, t⟩
          · exact Bool.noConfusion t
        | _ => exact Bool.noConfusion t
    | _ => exact Bool.noConfusion t
theorem exc_of_in {K : PySem.W.Frag} {h : Heap} {C : Addr} {bmB : List Value} {newId : String} (kin : K.In h) (t : PySem.W.excIn K C bmB newId = true) :
    ∃ bm N nm qn bs hd sn sub ab col dd k0 k1 k2 k3 k5 mN, h.get? C = some (excClassObj nm qn C N bs bm hd sn sub ab col dd k0 k1 k2 k3 k5 newId) ∧ h.Ns N mN ∧ mN "__init__" = none ∧ OwnTail h bmB bm := by
  obtain ⟨dd, cd, sl, lk, t⟩ := exc_m6 t
  obtain ⟨nm, bs, mro, ns, qn, hd, sn, sub, ab, col, del⟩ := cd
  obtain ⟨l⟩ := sl
  obtain ⟨C', bm, k0, k1, k2, k3, n, k5, hm, hl, t⟩ := exc_m1 (l := l) (mro := mro) (g := fun C' bm n => C' == C && n == newId && !del && PySem.W.tailIn K bmB bm && PySem.W.nsOkIn K ns && PySem.W.nsIn K ns "__init__" == some none) t
  have t := Bool.and_eq_true_iff.mp t
  have u := Bool.and_eq_true_iff.mp t.1
  have v := Bool.and_eq_true_iff.mp u.1
  have x := Bool.and_eq_true_iff.mp v.1
  have y := Bool.and_eq_true_iff.mp x.1
  rw [beq_iff_eq.mp y.1] at hm
  rw [beq_iff_eq.mp y.2] at hl
  rw [hm, hl, (Bool.not_eq_true' del).mp x.2] at lk
  exact ⟨bm, ns, nm, qn, bs, hd, sn, sub, ab, col, dd, k0, k1, k2, k3, k5, _, kin _ _ lk, .of_isNs (PySem.W.isNs_of_in kin u.2), PySem.W.nsMap_none_of_in kin u.2 (beq_iff_eq.mp t.2), PySem.W.tail_of_in kin v.2⟩
/-- an exception that is made here reaches what this code wants of exceptions -/
noncomputable def Raises (X : Cx) (cls : Value) (E : XK) : Prop := ∀ (pins : List (Addr × Obj)) (σ : St) (H : Hp) (s : Shared) (h' : Heap) (e : Addr) (args : List Value), Inv X pins σ H s → Heap.MadeExcOf s.heap h' e cls args → E cls none H → X.xe (.ref e) { s with heap := h' }
noncomputable def tRaise (C : Addr) (E : XK) (ta : TA) : TS := fun _ σ H => ta σ H fun vs H1 => vs.length ≤ sizeLine ∧ E (.ref C) none H1
theorem ps_raise {X : Cx} {x : Str} {C : Addr} {E : XK} {bmB : List Value} {newId initId B : String} {np cpos pos : Pos} {e : Expr} {es : List Expr} {ta : TA} (hc : X.calm = true) (hg : Gl X x) (hm : X.mg x = some (.ref C))
    (t : PySem.W.excIn X.K C bmB newId = true) (F : ExcBaseFacts B newId initId bmB) (hb : bmB.contains (.type "BaseException") = true) (hR : Raises X (.ref C) E) (ha : PA X (e :: es) ta)
    (hdb : (x == ("__debug__" : Str)) = false := by decide) (he : starEach (e :: es) X.env = (false, eval e X.env) :: starEach es X.env := by rfl) (hpl : (backTo cpos (starEach es X.env)).any (·.1) = false := by rfl) :
    PS X (.Raise (some (.Call (.Name x np) (e :: es) [] cpos)) none pos) (tRaise C E ta) := by
  intro pins s σ H D I h
  obtain ⟨bm, N, nm, qn, bs, hd, sn, sub, ab, col, dd, k0, k1, k2, k3, k5, mN, hC, hN, hni, TL⟩ := exc_of_in I.ok.mod.kin t
  have hplain : (backTo cpos (starEach (e :: es) X.env)).any (·.1) = false := by
    rw [he]
    show (false || (backTo cpos (starEach es X.env)).any (·.1)) = false
    rw [hpl]
    rfl
  refine wpAny_Raise_call_subT (C := C) (nm := nm) (q := qn) (N := N) (bs := bs) (bm := bm) (hdct := hd) (sn := sn) (sub := sub) (ab := ab) (col := col) (dd := dd) (k0 := k0) (k1 := k1) (k2 := k2) (k3 := k3) (k5 := k5) F (TL.hasType hb) (I.ok.hd hc) hplain hni (ld_glob I hg hm ⟨rfl, ?_⟩ hdb)
  have hs := ha cpos pins s σ H _ I h
  rw [he] at hs ⊢
  refine Calls.evalArgs_plain (thn hs fun us s2 hh91 => ?_)
  obtain ⟨vs, H1, I1, r, hz, q⟩ := hh91
  refine ⟨rfl, ?_, I1.bk _ _ hC, hN.keeps I1.bk, TL.keeps I1.bk, fun h' e' m => hR pins σ H1 s2 h' e' us I1 m q⟩
  rw [← r.length]
  exact hz
theorem raises_fn {cm : Bool} {P : Program} {w : World} {K : PySem.W.Frag} {mg : Str → Option Value} {base : Heap} {N : List Str} {qual : Str} {scope : Scope} {f : Addr} {cd : Value} {A : Around} {outer : List Env} {s : Shared} {H : Hp} {E : XK} {cls : Value} :
    Raises (cxOf (XC P w cm) P w K mg base N qual scope f cd A outer s H E) cls E := fun _ _ _ _ _ _ _ I m q => raised_fn I m q

/-! ### a call that may raise, amid a try -/
noncomputable def PEX (X : Cx) (E : XK) (e0 : Expr) (t : TE) : Prop :=
  ∀ (pins : List (Addr × Obj)) (s : Shared) (σ : St) (H : Hp) (Q : VK), Inv X pins σ H s → t σ H Q →
    wpAny (model X.prog X.w) X.A (eval e0 X.env) (EP X pins σ Q) (fun e s' => ∃ H1 s1, Inv X pins σ H1 s1 ∧ XCx X.prog X.w X.stack H1 s1 E e s') s
theorem pex_call {X : Cx} {cm : Bool} {k : Nat} {f : Addr} {fd : FuncData} {ps : List Str} {sp : Sp} {dvs : List V} {ds : List Value} {E : XK} {x : Str} {p pos : Pos} {e : Expr} {es : List Expr} {t : TA}
    (F : FnOk X.prog X.w X.K X.mg X.base (XC X.prog X.w cm) k f fd ps sp) (hr : Room k X.A) (hg : Gl X x) (hm : X.mg x = some (.ref f)) (hk : PySem.W.keepIn X.K (.ref f) = true) (hb : Binds X.K fd ps ds) (hd : Vals dvs ds) (hcm : cm = true → X.calm = true)
    (ha : PA X.nox (e :: es) t) (hdb : (x == ("__debug__" : Str)) = false := by decide) (he : starEach (e :: es) X.env = (false, eval e X.env) :: starEach es X.env := by rfl) (hpl : (backTo pos (starEach es X.env)).any (·.1) = false := by rfl) :
    PEX X E (.Call (.Name x p) (e :: es) [] pos) (tCall sp dvs E t) := by
  intro pins s σ H Q I h
  refine wpAny_Call_Name_kw (ld_glob I hg hm ?_ hdb)
  refine PySem.W.callWith_K (h₀ := X.base) I.ok.mod.kin hk (wpAny_mono (ha pos pins s σ H _ (I.wish _) h) (fun us s1 hh92 => ?_) fun _ _ z => False.elim z) he hpl
  obtain ⟨vs, H1, I1, r, q⟩ := hh92
  refine ⟨I1.unwish.kIn, ?_⟩
  have r2 : Vals (vs ++ dvs) (us ++ ds) := r.append hd
  have hl : (us ++ ds).length = ps.length := by rw [← r2.length]; exact F.len _ _ _ _ q
  have J := I1.unwish
  refine wpAny_call (codeAny_mono (F.run X.A X.stack s1 H1 ⟨us, []⟩ (us ++ ds) (vs ++ dvs) Q E hr (fun z => J.ok.hd (hcm z)) (fun z => Bool.noConfusion z) J.env0 (hb s1 us J.kIn hl) r2 q) fun r s' hq => ?_)
  cases r with
  | error e => exact ⟨H1, s1, J, hq⟩
  | ok fl =>
    cases fl with
    | ret u => exact J.after hq
    | next => exact False.elim hq
    | brk => exact False.elim hq
    | cont => exact False.elim hq

/-! ### within an except suite -/
noncomputable abbrev cxS (X : Cx) (e : Addr) : Cx := { X with A := X.A.mark (some (.ref e)), calm := false, suit := false, xe := fun _ _ => False }
theorem Inv.suite {X : Cx} {pins : List (Addr × Obj)} {σ : St} {H : Hp} {s : Shared} (I : Inv X pins σ H s) (e : Addr) : Inv (cxS X e) pins σ H s :=
  ⟨⟨I.ok.mod, I.ok.kind, I.ok.glob, I.ok.blt, I.ok.above, I.ok.inj, I.ok.has, I.ok.cab, fun z => Bool.noConfusion z, I.ok.frames, I.ok.stk, I.ok.exf, I.ok.bs, I.ok.bsz, I.ok.noex, I.ok.exfs, I.ok.funs, I.ok.frf, fun z => Bool.noConfusion z⟩, I.os, I.bare, I.base, I.loc, I.cell, I.free, I.freeC, I.pin, I.hok, I.len⟩
/-- all names forgotten: the frame's own map has changed -/
theorem Inv.forget {X : Cx} {pins : List (Addr × Obj)} {σ : St} {H : Hp} {s : Shared} {h' : Heap} {m' : Str → Option Value} {t' : Nat} (I : Inv X pins σ H s) (hn : h'.Ns X.env.locals m') (sb : Heap.SameBut X.env.locals s.heap h') :
    Inv X pins (List.replicate X.N.length none) H { s with heap := h', toks := t' } := by
  have neL : ∀ b o, X.s₀.heap.get? b = some o → b ≠ X.env.locals := fun b o e => Nat.ne_of_lt (Nat.lt_of_lt_of_le (Heap.lt_size e) I.ok.above)
  have kp : ∀ b o, b ≠ X.env.locals → s.heap.get? b = some o → h'.get? b = some o := fun b o hb e => (sb.2 b hb).trans e
  refine ⟨I.ok, I.os, I.bare, ⟨fun b o e n hb hx => kp b o (neL b o e) (I.base.keep b o e n hb hx), fun b o e n hb hx => ?_, I.base.free, fun b o e hx => ?_, I.base.tups, I.base.frzs, I.base.tbls⟩, ⟨m', hn, fun i x v e1 e2 _ => ?_⟩, fun x c e => ?_, I.free, I.freeC, fun p hp => ?_, fun b o e => ?_, by simp⟩
  · obtain ⟨sl, q⟩ := I.base.slot b o e n hb hx
    exact ⟨sl, kp b _ (neL b o e) q⟩
  · obtain ⟨o', q⟩ := I.base.there b o e hx
    exact ⟨o', kp b o' (neL b o e) q⟩
  · rw [List.getElem?_replicate] at e2
    split at e2 <;> cases e2
  · obtain ⟨v, z⟩ := I.cell x c e
    exact ⟨v, z.sameBut sb (I.cne x c e)⟩
  · obtain ⟨e, n, ne, nf, d⟩ := I.pin p hp
    exact ⟨kp p.1 p.2 ne e, n, ne, nf, d⟩
  · refine (I.hok b o e).stay (fun c u hc q => kp c u ?_ q) (fun _ q => q) fun _ _ q => q
    rintro rfl
    rcases hc with z | z
    · rw [← z, I.free] at e; cases e
    · rw [I.free] at z; cases z
/-- an untracked thing is tracked -/
theorem HOk.track {P : Program} {w : World} {H : Hp} {h : Heap} {a : Addr} {o : HO} (x : HOk P w H h) (hn : H a = none) (new : ObjOk P w (upd H a o) h a o) : HOk P w (upd H a o) h := fun b u e => by
  by_cases hb : b = a
  · subst hb; rw [upd_same] at e; cases e; exact new
  · rw [upd_ne hb] at e
    exact (x b u e).stay (fun _ _ _ q => q) (fun c q => by rw [upd_ne (ne_of_none q hn)]; exact q) fun c xs q => by rw [upd_ne (ne_of_none q hn)]; exact q
theorem Un.track {fs : List Addr} {H H' : Hp} {h h' : Heap} {a : Addr} {o : HO} (u : Un fs [] H H' h h') (ha : h.get? a = none) (hn : H' a = none) : Un fs [] H (upd H' a o) h h' where
  keep := u.keep
  slot := u.slot
  free := fun b ob e n hx => by
    rw [upd_ne (by rintro rfl; rw [ha] at e; cases e)]
    exact u.free b ob e n hx
  there := u.there
  tups := fun b xs e => by
    have := u.tups b xs e
    rw [upd_ne (ne_of_none this hn)]
    exact this
  frzs := fun b ob z e => by
    have := u.frzs b ob z e
    rw [upd_ne (ne_of_none this hn)]
    exact this
  tbls := fun b ps e => by
    obtain ⟨m, q⟩ := u.tbls b ps e
    exact ⟨m, by rw [upd_ne (ne_of_none q hn)]; exact q⟩
theorem xHO_ok {P : Program} {w : World} {H : Hp} {h : Heap} {e : Addr} {ob : Obj} (q : h.get? e = some ob) : ObjOk P w H h e (xHO e ob) :=
  ⟨q, q, ⟨ob, q⟩, fun h1 h2 a k => k ob a⟩

/-! ### try: call, except C as n: suite that returns -/
/-- wants: the call's own end; of an exception: it is caught, and the suite, over the heap with the exception in it, returns -/
noncomputable def xTry (K : PySem.W.Frag) (c : Value) (i : Nat) (ts : Addr → TS) (D : Ends) (σ : St) : XK := fun cls dx H' => PySem.W.exmOne K cls c = some true ∧
  ∀ e a0 tb, H' e = none → ts e { D with nx := fun _ _ => False, bk := fun _ _ => False, ct := fun _ _ => False } (σ.set i (some (.ref e))) (upd H' e (xHO e (xObj cls dx a0 tb)))
section
variable {X : Cx} {x n : Str} {np hpos pos p1 : Pos} {c0 : Expr} {b₀ : Stmt} {suite : List Stmt} {i : Nat} {ts : Addr → TS} {tc : XK → TE} {c : Value} {v0 : V}
/-- from the place where it came up -/
theorem handle {pins : List (Addr × Obj)} {σ : St} {H1 : Hp} {s1 s' : Shared} {D : Ends} {e : Value} (hst : X.stack = X.env :: X.outer) (hf : X.env.frame = some X.env.locals) (hg : Gl X x) (hm : X.mg x = some c) (rc : RelV v0 c)
    (hs : ∀ e, PSs (cxS X e) (b₀ :: suite) (ts e)) (hN : X.N.Nodup) (hi : X.N[i]? = some n) (hl : X.env.scope.names.lookup n = some .local) (I : Inv X pins σ H1 s1) (hx : XCx X.prog X.w X.stack H1 s1 (xTry X.K c i ts D σ) e s')
    (hdb : (x == ("__debug__" : Str)) = false := by decide) :
    wpAny (model X.prog X.w) X.A (noteFrame e X.env) (fun _ s₂ => wpAny (model X.prog X.w) X.A (setFlight e none) (fun _ s₃ => wpAny (model X.prog X.w) X.A (handleBy e X.env [.ExceptHandler (some (.Name x np)) (some n) (b₀ :: suite) hpos]) (SP X pins D) X.xe s₃) X.xe s₂) X.xe s' := by
  obtain ⟨ea, cls, dx, H', B, rfl, os, bare, un, hok, F, hn, hfr, kp, hm1, hq⟩ := hx
  have hframes : X.A.frames = some (X.env :: X.outer) := by rw [← hst]; exact I.ok.frames
  have F0 : Fly B (X.env :: X.outer) ea cls dx .none s'.heap := by rw [← hst]; exact F
  refine fly_on hframes hf F0 fun h4 F4 up4 => ?_
  refine fly_land F4 fun h5 F5 up5 => ?_
  -- the state as it stands at any landing
  have land : ∀ {h6 : Heap} {fl : Value}, Fly B (X.env :: X.outer) ea cls dx fl h6 → s'.heap.UpToSlots h6 → Un (frs X.stack) [] H1 H' s1.heap h6 ∧ HOk X.prog X.w H' h6 := fun {h6 fl} F6 up => by
    refine ⟨un.flown kp I.stkFree F up F6.st, hok.flown kp.tk F.st F6.st⟩
  obtain ⟨un5, hok5⟩ := land F5 (up4.trans up5)
  have I5 : Inv X pins σ H' { s' with heap := h5 } := I.call' (ch := []) (s' := { s' with heap := h5 }) os un5 hok5 bare (fun b z => absurd z (by simp))
  obtain ⟨a0, T, oT, tss, he5, _⟩ := F5.ob
  have LT : PySem.W.Looks (model X.prog X.w) h5 (typeOf (.ref ea)) cls := (PySem.W.Looks.ld he5).andThen .now
  refine wpAny_handleBy_cons (codeAny_handlers_test (ld_glob (X := cxS X ea) (I5.suite ea) hg hm ?_ hdb)) (by intro z; cases z)
  refine (PySem.W.exm_one I5.kIn LT hm1).here ?_
  refine codeAny_handlers_suite_as (wpAny_noRaise ?_)
  refine fly_land F5 fun h6 F6 up6 => ?_
  obtain ⟨un6, hok6⟩ := land F6 ((up4.trans up5).trans up6)
  obtain ⟨a6, T6, oT6, ts6, he6, _⟩ := F6.ob
  have hokT : HOk X.prog X.w (upd H' ea (xHO ea (xObj cls dx a6 (.ref T6)))) h6 := hok6.track hn (xHO_ok he6)
  have I6 : Inv X pins σ (upd H' ea (xHO ea (xObj cls dx a6 (.ref T6)))) { s' with heap := h6 } := I.call' (ch := []) (s' := { s' with heap := h6 }) os (un6.track hfr hn) hokT bare (fun b z => absurd z (by simp))
  refine store_ok (X := cxS X ea) (i := i) (v := .ref ea) (I6.suite ea) hN hi (.inl hl) rfl (fun s7 I7 => ?_) (.inr hl)
  refine wpAny_mono (hs ea pins s7 _ _ _ I7 (hq ea a6 (.ref T6) hn)) (fun fl s8 q8 => ?_) fun _ _ z => False.elim z
  -- behind the suite: the name goes
  show wpAny (model X.prog X.w) X.A (do bindName X.env n .none; unbindBehindTheSuite X.env n hpos) (fun _ s9 => SP X pins D fl s9) X.xe s8
  cases fl with
  | next => obtain ⟨_, _, _, z⟩ := q8; exact False.elim z
  | brk => obtain ⟨_, _, _, z⟩ := q8; exact False.elim z
  | cont => obtain ⟨_, _, _, z⟩ := q8; exact False.elim z
  | ret u =>
    obtain ⟨v, σ8, H8, I8, r8, z8⟩ := q8
    have J8 : Inv X pins σ8 H8 s8 := ⟨I.ok, I8.os, I8.bare, I8.base, I8.loc, I8.cell, I8.free, I8.freeC, I8.pin, I8.hok, I8.len⟩
    obtain ⟨m, hm8, _⟩ := J8.loc
    exact wpAny_nameGoes hl hm8 (by rw [I.ok.kind]; rfl) fun h9 m9 hn9 sb9 => ⟨v, _, H8, J8.forget hn9 sb9, r8, z8⟩
end
end L2

set_option genSizeOf false
namespace L2
open PySem PySem.Spec PyProof.Rows
section
variable {K : PySem.W.Frag}
/-- what an own class of exceptions must tell for its attributes -/
structure XCls (K : PySem.W.Frag) (C : Addr) : Prop where
  hd : PySem.W.hasDictIn K C = true
  ga : PySem.W.findIn K (.ref C) "__getattribute__" = some (some (.builtin "BaseException.__getattribute__"))
  gx : PySem.W.findIn K (.ref C) "__getattr__" = some none
  ca : PySem.W.findIn K (.ref C) "__class__" = some (some (.builtin "object.__class__"))
  gs : PySem.W.specialIn K (.builtin "object.__class__") "__get__" = some (some (.builtin "getset_descriptor.__get__"))
  ts : PySem.W.takesIn K (.builtin "object.__class__") = some true
  mo : PySem.W.mroIn K C (.type "object") = some true
  mb : PySem.W.mroIn K C (.type "BaseException") = some true
variable {prog : Program} {w : World} {A : Around} {E : Value → Shared → Prop} {s : Shared} {e C : Addr} {oe : Obj} {od : Option Obj} {name : Str}
theorem bexc_kind : builtinKind "BaseException.__getattribute__" = some .slot := by decide +kernel
theorem bexc_split : splitId "BaseException.__getattribute__" = some ("BaseException", "__getattribute__") := by decide +kernel
theorem bexc_plain : plainId "BaseException.__getattribute__" = true := by decide +kernel
theorem bexc_check {M : Model} {A : Around} {E : Value → Shared → Prop} {s : Shared} {e : Addr} {v : Value} {Q : Unit → Shared → Prop} (L : PySem.W.Looks M s.heap (isInstance (.ref e) (.type "BaseException")) true) (q : Q () s) :
    wpAny M A (checkBuiltinCall "BaseException.__getattribute__" ⟨[.ref e, v], []⟩) Q E s :=
  PySem.W.check_slot (i := "BaseException.__getattribute__") (owner := "BaseException") (n := "__getattribute__") (self := .ref e) (rest := [v]) (kw := []) bexc_kind bexc_split L (F.args_bexc_ga _ _) q
theorem xexc {M : Model} (Z : XCls K C) (X : K.In s.heap) (I : PySem.W.InstAt s.heap e oe C od) : PySem.W.Looks M s.heap (isInstance (.ref e) (.type "BaseException")) true := by
  unfold isInstance
  exact PySem.W.Looks.andThen I.type (PySem.W.looks_mroIn X Z.mb)
theorem xattr {tk : Tok} {expr fill : Bool} {Q : Value → Shared → Prop} (Z : XCls K C) (X : K.In s.heap) (I : PySem.W.InstAt s.heap e oe C od)
    (h : codeAny (model prog w) A (.call (.builtin "BaseException.__getattribute__") ⟨[.ref e, .str name tk], []⟩) (fun r s' => match r with | .ok (.ret v) => wpAny (model prog w) A (handedOut v) Q E s' | _ => False) s) :
    wpAny (model prog w) A (getAttrBy (.ref e) (.str name tk) fill expr) Q E s := by
  obtain ⟨hh, g, d, t, os⟩ := s
  have L0 := I.type (M := model prog w)
  have L1 := PySem.W.looks_findIn (M := model prog w) X Z.ga
  unfold getAttrBy
  refine wpAny_holding (wpAny_bind (L0.at (wpAny_bind (L1.at ?_))))
  dsimp only
  have hne : (Value.builtin "BaseException.__getattribute__" == Value.builtin "object.__getattribute__") = false := by decide +kernel
  rw [if_neg (by rw [hne, Bool.and_false]; exact Bool.false_ne_true)]
  unfold getAttrByItsOwn
  refine wpAny_bind ((PySem.W.looks_hook (M := model prog w) X (mc := .ref C) (r := none) (by show (if true = true then _ else _) = _; rw [if_pos rfl]; exact Z.gx)).at ?_)
  unfold callGetattribute
  rw [if_neg (by show ¬ ((expr && false) = true); rw [Bool.and_false]; exact Bool.false_ne_true)]
  unfold boundAndCalled
  refine wpAny_bind (wpAny_attempt (wpAny_holding (wpAny_bind (wpAny_of_eq (F.excAttr_ValueError.ga.bind (.ref e)) ?_))))
  dsimp only
  refine wpAny_call (codeAny_mono h fun r s' hr => ?_)
  cases r with
  | error x => exact False.elim hr
  | ok f =>
    cases f with
    | ret v => exact hr
    | next => exact False.elim hr
    | brk => exact False.elim hr
    | cont => exact False.elim hr
theorem xcls_attr {Q : Option Value → Shared → Prop} (Z : XCls K C) (X : K.In s.heap) (I : PySem.W.InstAt s.heap e oe C od) (h : Q (some (.ref C)) { s with toks := s.toks + 1 }) : wpAny (model prog w) A (getAttr? (.ref e) "__class__") Q E s := by
  obtain ⟨hh, g, d, t, os⟩ := s
  have L0 := I.type (M := model prog w)
  have hf : PySem.W.findObj K C od "__class__" = some (.bind (.builtin "getset_descriptor.__get__") (.builtin "object.__class__")) := by
    obtain ⟨cd, hc, _⟩ := PySem.W.any_some Z.hd
    unfold PySem.W.findObj
    rw [hc, Option.bind_some, Z.ca, Option.bind_some]
    simp [Z.gs, Z.ts]
  have L1 := PySem.W.looks_find (M := model prog w) X I hf
  unfold getAttr? getAttrBy?
  refine wpAny_bind (wpAny_mkText (wpAny_bind (wpAny_attempt (xattr Z X I (codeAny_call_builtin bexc_plain F.entry_bexc_ga (bexc_check (xexc Z X I) ?_))))))
  unfold Builtin.«object.__getattribute__»
  refine wpAny_bind (wpAny_pure ?_)
  dsimp only
  refine wpAny_bind (wpAny_pure (wpAny_bind (L0.at (wpAny_bind (L1.at ?_)))))
  dsimp only
  unfold Builtin.ObjectAttr.bindTo
  dsimp only
  refine wpAny_bind (wpAny_holding (wpAny_call (PySem.W.class_get (od := od) X I Z.mo ?_)))
  refine wpAny_pure ?_
  show wpAny _ _ (handedOut (.ref C)) _ _ _
  rw [PySem.W.handedOut_of rfl]
  exact wpAny_pure (wpAny_pure h)
theorem kitx_exc {K : PySem.W.Frag} {C e : Addr} {oe : Obj} {od : Option Obj} (Z : XCls K C) : PySem.W.KitX K (.ref e) (.ref C) (fun h => PySem.W.InstAt h e oe C od) where
  ty := fun _ _ _ I => I.type
  it := fun _ _ X _ => by
    obtain ⟨cdD, hcD, _⟩ := PySem.W.any_some Z.hd
    unfold PySem.W.clsIn at hcD
    split at hcD
    · rename_i c' d' cd' sl' ho
      intro A' Q' E' s' k q
      unfold isType loadHead
      exact wpAny_bind (wpAny_loadPart (k _ _ (X _ _ ho)) (wpAny_pure q))
    · cases hcD
  ne := fun h tp dd its n sl X htp => by
    obtain ⟨cdD, hcD, _⟩ := PySem.W.any_some Z.hd
    refine Bool.eq_false_iff.mpr fun q => ?_
    have e : C = tp := Value.ref.inj (beq_iff_eq.mp q)
    subst e
    unfold PySem.W.clsIn at hcD
    split at hcD
    · rename_i c' d' cd' sl' ho
      have := X _ _ ho
      rw [htp] at this
      cases this
    · cases hcD
  ca := fun X I q => xcls_attr Z X I q
/-- isinstance(e, c), e an exception that is held -/
theorem call_isinstX {X : Cx} : CallR X (.builtin "isinstance") (fun xs H Q => ∃ e C dx a0 tb c cv b, xs = [.ref e, c] ∧ H e = some (xHO e (xObj (.ref C) dx a0 tb)) ∧ XCls X.K C ∧ (dx = none ∨ ∃ d fs, dx = some d ∧ H d = some (.xd fs)) ∧ ((∃ a, c = .ref a ∧ cv = .ref a) ∨ ∃ T, c = .ty T ∧ cv = .type T) ∧ PySem.W.kitOne X.K (.ref C) cv = some b ∧ Q (.bl b) H) := by
  intro pins s σ H xs us Q I r h
  obtain ⟨e, C, dx, a0, tb, c, cv, b, rfl, hE, Z, hdx, hcv, hk, q⟩ := h
  obtain ⟨u, w', rfl, rx, rc'⟩ := vals2 r
  cases (show u = Value.ref e from rx)
  obtain ⟨he, _⟩ := I.hok e _ hE
  have ec : w' = cv := by
    rcases hcv with ⟨a, rfl, rfl⟩ | ⟨T, rfl, rfl⟩
    · exact rc'
    · exact rc'
  subst ec
  have IA : ∃ od, PySem.W.InstAt s.heap e (xObj (.ref C) dx a0 tb) C od := by
    rcases hdx with rfl | ⟨d, fs, rfl, hd⟩
    · exact ⟨none, he, rfl, rfl, trivial⟩
    · obtain ⟨o, eo⟩ := (I.hok d _ hd).some_of
      exact ⟨some o, he, rfl, rfl, eo⟩
  obtain ⟨od, IA⟩ := IA
  exact PySem.W.kia_one (kitx_exc Z) I.kIn IA hk (fun z => nomatch z) fun tk => ⟨.bl b, H, I.tok tk, rfl, q⟩
end
end L2

namespace L2
open PySem PySem.Spec PyProof.Rows
section
variable {X : Cx} {pins : List (Addr × Obj)} {σ : St} {H : Hp} {s : Shared}
theorem Inv.big (I : Inv X pins σ H s) : sysModules < s.heap.objs.size := by
  have h : mainGlobals < s.heap.objs.size := (I.mod.glob.keeps I.bk).lt
  exact Nat.lt_trans (by decide) h

theorem dk_empty {P : Program} {w : World} {H : Hp} (h : Heap) (hb : sysModules < h.objs.size) : ObjOk P w H (h.push { cls := .type "dict", data := .dict #[] }) h.objs.size (.dK []) :=
  ⟨Nat.zero_le _, beq_eq_false_iff_ne.mpr (Ne.symm (Nat.ne_of_lt hb)), [], .nil, Heap.DictOf.new h⟩
noncomputable def tDNewK : TE := fun _ H Q => ∀ p, H p = none → Q (.ref p) (upd H p (.dK []))
theorem pe_dnewK {pos : Pos} : PE X (.Dict [] [] pos) tDNewK := fun pins s σ H Q I h =>
  wpAny_Dict_empty ⟨.ref s.heap.objs.size, _, I.laid (a := s.heap.objs.size) (o := .dK []) (t' := s.toks) (fun _ _ q => Heap.get?_push_of_some _ q) (Nat.le_refl _) (dk_empty s.heap I.big), rfl, h _ (I.hok.fresh (Nat.le_refl _))⟩
/-- a call of a def that stands within an except suite alone -/
noncomputable def tCallS (X : Cx) (sp : Sp) (t : TA) : TE := fun σ H Q => t σ H fun vs H1 => Hd X.A H1 ∧ sp vs H1 Q E0
theorem pe_callS {k : Nat} {f : Addr} {fd : FuncData} {ps : List Str} {sp : Sp} {x : Str} {p pos : Pos} {e : Expr} {es : List Expr} {t : TA}
    (F : FnOk X.prog X.w X.K X.mg X.base CXS k f fd ps sp) (hr : Room k X.A) (hg : Gl X x) (hm : X.mg x = some (.ref f)) (hk : PySem.W.keepIn X.K (.ref f) = true) (hb : Binds X.K fd ps [])
    (ha : PA X (e :: es) t) (hdb : (x == ("__debug__" : Str)) = false := by decide) (he : starEach (e :: es) X.env = (false, eval e X.env) :: starEach es X.env := by rfl) (hpl : (backTo pos (starEach es X.env)).any (·.1) = false := by rfl) :
    PE X (.Call (.Name x p) (e :: es) [] pos) (tCallS X sp t) := by
  intro pins s σ H Q I h
  refine wpAny_Call_Name_kw (ld_glob I hg hm ?_ hdb)
  refine PySem.W.callWith_K (h₀ := X.base) I.ok.mod.kin hk (thn (ha pos pins s σ H _ I h) fun us s1 hh97 => ?_) he hpl
  obtain ⟨vs, H1, I1, r, hd, q⟩ := hh97
  refine ⟨I1.kIn, ?_⟩
  have hl : us.length = ps.length := by rw [← r.length]; exact F.len _ _ _ _ q
  refine wpAny_call (codeAny_mono (F.run X.A X.stack s1 H1 ⟨us, []⟩ us vs Q E0 hr (fun z => Bool.noConfusion z) (fun _ => hd) I1.env0 (by have z := hb s1 us I1.kIn (by rw [List.append_nil]; exact hl); rw [List.append_nil] at z; exact z) r q) fun r s' hq => ?_)
  cases r with
  | error e => exact False.elim hq
  | ok fl =>
    cases fl with
    | ret u => exact I1.after hq
    | next => exact False.elim hq
    | brk => exact False.elim hq
    | cont => exact False.elim hq
end
end L2

set_option genSizeOf false
/-! EXT 5: f-strings; exceptions with an __init__ and fields of their own. -/
namespace L2
open PySem PySem.Spec PyProof.Rows

/-! ### f-strings -/
section
variable {X : Cx}
noncomputable def PJ (X : Cx) (es : List Expr) (t : Str → TE) : Prop :=
  ∀ (pins : List (Addr × Obj)) (s : Shared) (σ : St) (H : Hp) (Q : VK) (acc : Str), Inv X pins σ H s → t acc σ H Q → wpAny (model X.prog X.w) X.A (joinParts acc (evalEach es X.env)) (EP X pins σ Q) X.xe s
noncomputable def jNil : Str → TE := fun acc _ H Q => acc.length ≤ sizeLine ∧ Q (.str acc) H
noncomputable def jCons (t : TE) (u : Str → TE) : Str → TE := fun acc σ H Q => t σ H fun x H1 => ∃ y, x = .str y ∧ (acc ++ y).length ≤ sizeLine ∧ u (acc ++ y) σ H1 Q
theorem pj_nil : PJ X [] jNil := fun pins s σ H Q acc I h => joinParts_nil (show EP X pins σ Q _ _ from ⟨.str acc, H, I.tok _, ⟨_, rfl⟩, h.2⟩) h.1
theorem pj_cons {e : Expr} {es : List Expr} {t : TE} {u : Str → TE} (he : PE X e t) (hr : PJ X es u) : PJ X (e :: es) (jCons t u) := fun pins s σ H Q acc I h => by
  show wpAny _ _ (joinParts acc (eval e X.env :: evalEach es X.env)) _ _ _
  refine joinParts_cons (thn (he pins s σ H _ I h) fun v s1 hh98 => ?_)
  obtain ⟨x, H1, I1, r, y, ex, hz, q⟩ := hh98
  subst ex
  obtain ⟨t, rfl⟩ := r
  exact ⟨hz, hr pins s1 σ H1 Q (acc ++ y) I1 q⟩
theorem pe_joined {v₁ v₂ : Expr} {rest : List Expr} {pos : Pos} {t : Str → TE} (h : PJ X (v₁ :: v₂ :: rest) t) : PE X (.JoinedStr (v₁ :: v₂ :: rest) pos) (t Str.empty) := fun pins s σ H Q I q =>
  JoinedStr_many (h pins s σ H Q Str.empty I q)
noncomputable def tFmt (t : TE) : TE := fun σ H Q => t σ H fun x H1 => (∃ y, x = .str y ∧ y.length ≤ sizeLine ∧ Q (.str y) H1) ∨ ∃ i, x = .int i ∧ i.natAbs.log2 < 1920 ∧ Q (.str (toString i)) H1
theorem pe_fmt {e : Expr} {pos : Pos} {t : TE} (he : PE X e t) : PE X (.FormattedValue e (-1) none pos) (tFmt t) := fun pins s σ H Q I h => by
  refine FormattedValue_plain (thn (he pins s σ H _ I h) fun v s1 hh99 => ?_)
  obtain ⟨x, H1, I1, r, q⟩ := hh99
  rcases q with ⟨y, ex, hz, q⟩ | ⟨i, ex, hl, q⟩
  · subst ex
    obtain ⟨t, rfl⟩ := r
    exact formatField_str (fun t' tk => (show EP X pins σ Q _ _ from ⟨.str y, H1, I1.tok tk, ⟨_, rfl⟩, q⟩)) hz
  · subst ex
    obtain ⟨t, rfl⟩ := r
    exact PySem.wpAny_formatField_int hl (show EP X pins σ Q _ _ from ⟨.str (toString i), H1, I1.tok _, ⟨_, rfl⟩, q⟩)
end

/-! ### an exception that is being made -/
noncomputable def xcO (e C : Addr) (dx : Option Addr) : HO := .ext fun h => ∃ a0, h.get? e = some (xObj (.ref C) dx a0 .none)
theorem xcO_ok {P : Program} {w : World} {H : Hp} {h : Heap} {e C : Addr} {dx : Option Addr} {a0 : Value} (q : h.get? e = some (xObj (.ref C) dx a0 .none)) : ObjOk P w H h e (xcO e C dx) :=
  ⟨⟨a0, q⟩, ⟨_, q⟩, fun _ _ hh100 k => (by obtain ⟨a, e1⟩ := hh100; exact ⟨a, k _ e1⟩)⟩
theorem xcO_get {P : Program} {w : World} {H : Hp} {h : Heap} {e C : Addr} {dx : Option Addr} (ok : HOk P w H h) (q : H e = some (xcO e C dx)) : ∃ a0, h.get? e = some (xObj (.ref C) dx a0 .none) := (show ObjOk P w H h e (xcO e C dx) from ok e _ q).1
theorem upd_eq {H : Hp} {a : Addr} {o : HO} (h : H a = some o) : upd H a o = H := by
  funext b
  unfold upd
  split
  · rename_i z; rw [z, h]
  · rfl
/-- an address is tracked no more -/
noncomputable def untr (H : Hp) (e : Addr) : Hp := fun b => if b = e then none else H b
theorem untr_self {H : Hp} {e : Addr} : untr H e e = none := if_pos rfl
theorem untr_ne {H : Hp} {e b : Addr} (h : b ≠ e) : untr H e b = H b := if_neg h
theorem HOk.untr {P : Program} {w : World} {H : Hp} {h : Heap} {e C : Addr} {dx : Option Addr} (ok : HOk P w H h) (hx : H e = some (xcO e C dx)) : HOk P w (untr H e) h := fun b o q => by
  have hb : b ≠ e := by rintro rfl; rw [untr_self] at q; cases q
  rw [untr_ne hb] at q
  refine (ok b o q).stay (fun _ _ _ z => z) (fun c z => ?_) fun c xs z => ?_
  · rw [untr_ne (by rintro rfl; rw [hx] at z; cases z)]; exact z
  · rw [untr_ne (by rintro rfl; rw [hx] at z; cases z)]; exact z

abbrev bmV : List Value := [.type "ValueError", .type "Exception", .type "BaseException", .type "object"]
/-- a class of exceptions straight under fe, which stands under ValueError; its __init__ at fI -/
structure XMk (K : PySem.W.Frag) (C fe fI : Addr) : Prop where
  cls : ∃ nm q N bs sn sub ab col dd k0 k1 k2 k3 k5, K.lookup C = some (excClassObj nm q C N bs (.ref fe :: bmV) true sn sub ab col dd k0 k1 k2 k3 k5 "ValueError.__new__") ∧ PySem.W.nsOkIn K N = true ∧ PySem.W.nsIn K N "__init__" = some (some (.ref fI))
  xfe : PySem.W.excIn K fe bmV "ValueError.__new__" = true
  feM : PySem.W.mroIn K fe (.type "ValueError") = some true
  fn : PySem.W.isFn K (.ref fI) = true
  kp : PySem.W.keepIn K (.ref C) = true
  sa : PySem.W.findIn K (.ref C) "__setattr__" = some (some (.builtin "object.__setattr__"))
theorem tail_fe {K : PySem.W.Frag} {h : Heap} {fe : Addr} (kin : K.In h) (t : PySem.W.excIn K fe bmV "ValueError.__new__" = true) (hm : ∃ cd, PySem.W.clsIn K fe = some cd) : OwnTail h bmV (.ref fe :: bmV) := by
  obtain ⟨bm, N, nm, qn, bs, hd, sn, sub, ab, col, dd, k0, k1, k2, k3, k5, mN, hC, hN, hni, TL⟩ := exc_of_in kin t
  exact .own hC hN hni .base
theorem ns_some_of {K : PySem.W.Frag} {h : Heap} {N : Addr} {mN : Str → Option Value} {n : Str} {v : Value} (X : K.In h) (G : h.Ns N mN) (e : PySem.W.nsIn K N n = some (some v)) : mN n = some v := by
  obtain ⟨o, es, ep, ho, hd, _, hf⟩ := G
  unfold PySem.W.nsIn at e
  split at e
  · rename_i c d es' n' sl q
    have := X _ _ q
    rw [ho] at this
    cases this
    cases hd
    split at e
    · rename_i en he
      rw [← hf]
      unfold nsFind findBy
      rw [← Array.find?_toList, he]
      cases e
      rfl
    · split at e <;> cases e
  · cases e

section
variable {prog : Program} {w : World} {A : Around} {E : Value → Shared → Prop} {h : Heap} {g : Array GenState} {d : Drawn} {t : Nat} {os : OsState}
variable {nm q : Str} {C N : Addr} {bs bm bmB : List Value} {hdct : Bool} {sn : List Str} {sub : List Value} {ab : Bool} {col : Option Bool} {dd : Option Addr} {k0 k1 k2 k3 k5 : Option Value} {B newId initId : String}
theorem type_call_own (F : ExcBaseFacts B newId initId bmB) (T : OwnTail h bmB bm) {mN : Str → Option Value} {rest : List Value} {fI : Addr} {oI : Obj} {Q : PySem.Fin → Shared → Prop}
    (hC : h.get? C = some (excClassObj nm q C N bs bm hdct sn sub ab col dd k0 k1 k2 k3 k5 newId)) (hn : h.Ns N mN) (hi : mN "__init__" = some (.ref fI))
    (hfI : h.get? fI = some oI) (hfc : oI.cls = .type "function")
    (hq : ∀ h' e, Heap.MadeExcOf h h' e (.ref C) rest →
      wpAny (model prog w) A (call (.ref fI) (.ref e :: rest)) (fun r s' => r = .none ∧ Q (.done (.ret (.ref e))) s') E ⟨h', g, d, t, os⟩) (hrest : rest.length ≤ sizeLine := by size_fits) :
    wpAny (model prog w) A (Builtin.«type.__call__» ⟨.ref C :: rest, []⟩) Q E ⟨h, g, d, t, os⟩ := by
  repeat (first | with_reducible refine wpAny_loadPart_at hC ?_ | with_reducible refine wpAny_madeBy_exc hC ?_ | wp_step)
  refine codeAny_call_builtin_code (Code.quiet_builtin _ F.quiet) (wpAny_check_new_subT F T hC ?_)
  refine codeAny_exc_new_subT F T hC ?_ hrest
  show wpAny _ _ _ _ _ _
  have hC₁ := Heap.get?_push_of_some { cls := .ref C, data := .fields #[.ref h.objs.size, .none, .none, .none, .bool false, .none] }
    (Heap.get?_push_of_some { cls := .type "tuple", data := .seq rest.toArray } hC)
  have hfI₁ := Heap.get?_push_of_some { cls := .ref C, data := .fields #[.ref h.objs.size, .none, .none, .none, .bool false, .none] }
    (Heap.get?_push_of_some { cls := .type "tuple", data := .seq rest.toArray } hfI)
  have hn₁ : ((h.push { cls := .type "tuple", data := .seq rest.toArray }).push { cls := .ref C, data := .fields #[.ref h.objs.size, .none, .none, .none, .bool false, .none] }).Ns N mN :=
    let ⟨o, es, ep, e, r⟩ := hn; ⟨o, es, ep, Heap.get?_push_of_some _ (Heap.get?_push_of_some _ e), r⟩
  have hget : ((h.push { cls := .type "tuple", data := .seq rest.toArray }).push
      { cls := .ref C, data := .fields #[.ref h.objs.size, .none, .none, .none, .bool false, .none] }).get? (h.objs.size + 1) = some
      { cls := .ref C, data := .fields #[.ref h.objs.size, .none, .none, .none, .bool false, .none] } := by heap_get
  have hcC : (Value.ref C :: bm).contains (.ref C) = true := by simp
  have T₁ := T.keeps (h' := (h.push { cls := .type "tuple", data := .seq rest.toArray }).push { cls := .ref C, data := .fields #[.ref h.objs.size, .none, .none, .none, .bool false, .none] })
    fun b o e => Heap.get?_push_of_some _ (Heap.get?_push_of_some _ e)
  unfold isInstance
  repeat (first | with_reducible refine wpAny_loadPart_at hget ?_ | (with_reducible refine wpAny_isSubtype_exc hC₁ ?_; rw [hcC]) | wp_step)
  show wpAny _ _ (typeLookup (.ref C) _) _ _ _
  refine wpAny_typeLookup_tail hC₁ hn₁ T₁ F.mroIs F.init.lookup ?_
  rw [hi]
  refine wpAny_holding (wpAny_bind ?_)
  unfold bindSpecial
  refine wpAny_bind (wpAny_typeOf (T := "function") ⟨_, hfI₁, hfc⟩ ?_)
  rw [if_pos (by decide)]
  refine wpAny_pure (wpAny_bind (wpAny_mono (hq _ (h.objs.size + 1) ⟨fun b o hb => Heap.get?_push_of_some _ (Heap.get?_push_of_some _ hb), Heap.get?_none_of_le (Nat.le_succ _), h.objs.size, hget, Heap.get?_none_of_le (Nat.le_refl _), ?_⟩) (fun r s' hr => ?_) fun _ _ x => x))
  · exact Heap.get?_push_of_some _ (Heap.get?_push_at rfl rfl)
  · obtain ⟨rfl, hQ⟩ := hr
    wp_walk
    exact hQ
theorem call_own (F : ExcBaseFacts B newId initId bmB) (T : OwnTail h bmB bm) {mN : Str → Option Value} {rest : List Value} {fI : Addr} {oI : Obj} {Q : Value → Shared → Prop}
    (hC : h.get? C = some (excClassObj nm q C N bs bm hdct sn sub ab col dd k0 k1 k2 k3 k5 newId)) (hn : h.Ns N mN) (hi : mN "__init__" = some (.ref fI))
    (hfI : h.get? fI = some oI) (hfc : oI.cls = .type "function")
    (hq : ∀ h' e, Heap.MadeExcOf h h' e (.ref C) rest →
      wpAny (model prog w) (A.under (.builtin "type.__call__" ⟨.ref C :: rest, []⟩)) (call (.ref fI) (.ref e :: rest)) (fun r s' => r = .none ∧ Q (.ref e) s') E ⟨h', g, d, t, os⟩) (hrest : rest.length ≤ sizeLine := by size_fits) :
    wpAny (model prog w) A (call (.ref C) rest) Q E ⟨h, g, d, t, os⟩ := by
  have f1 := tc_lookup
  have f2 := tc_bind (.ref C)
  have hT : (⟨h, g, d, t, os⟩ : Shared).TypeIs (.ref C) "type" := ⟨_, hC, rfl⟩
  refine wpAny_call (codeAny_of_tree ?_)
  show wpAny _ _ (callAny (.ref C) _) _ _ _
  repeat (any_goals (first | assumption | with_reducible refine wpAny_loadPart_at hC ?_ | wp_step))
  refine ⟨rfl, ?_⟩
  refine codeAny_call_builtin_at (Code.quiet_builtin _ (by decide +kernel)) entry_typeCall (wpAny_check_type_call_sub hC (type_call_own (hrest := hrest) F T hC hn hi hfI hfc fun h' e hm => ?_))
  exact hq h' e hm
end

section
variable {M : Model} {A : Around} {E : Value → Shared → Prop} {env : Env}
variable {nm q : Str} {C N : Addr} {bs bm : List Value} {hdct : Bool} {sn : List Str} {sub : List Value} {ab : Bool} {col : Option Bool} {dd : Option Addr} {k0 k1 k2 k3 k5 : Option Value} {newId : String}
theorem raiseStmt_madeD {s : Shared} {x : Sem Value} {Q : Flow → Shared → Prop} (hbase : bm.contains (.type "BaseException") = true) (hh : A.handled = none)
    (h : wpAny M A x (fun v s₁ => ∃ e dx a0, v = .ref e ∧ s₁.heap.get? C = some (excClassObj nm q C N bs bm hdct sn sub ab col dd k0 k1 k2 k3 k5 newId) ∧
      s₁.heap.get? e = some (xObj (.ref C) dx a0 .none) ∧ E (.ref e) s₁) E s) :
    wpAny M A (raiseStmt env (some x) none) Q E s := by
  have hcB : (Value.ref C :: bm).contains (.type "BaseException") = true := by rw [List.contains_cons, hbase, Bool.or_true]
  unfold raiseStmt
  refine wpAny_bind (wpAny_mono h (fun v s₁ h₁ => ?_) fun _ _ x => x)
  obtain ⟨e, dx, a0, rfl, hC, he, hE⟩ := h₁
  obtain ⟨hp, g, d, tk, os⟩ := s₁
  repeat (first | with_reducible refine wpAny_loadPart_at he ?_ | with_reducible refine wpAny_loadPart_at hC ?_ | (with_reducible refine wpAny_isSubtype_exc hC ?_; rw [hcB]) | wp_step)
  exact wpAny_raiseNew_none hh hE
end
/-- an exception that is made here, with its dict, reaches what this code wants of exceptions -/
noncomputable def RaisesD (X : Cx) (C : Addr) (E : XK) : Prop := ∀ (pins : List (Addr × Obj)) (σ : St) (H : Hp) (s : Shared) (e : Addr) (dx : Option Addr), Inv X pins σ H s → H e = some (xcO e C dx) → (∀ o, X.s₀.heap.get? e = some o → e ∈ X.ex) → E (.ref C) dx (untr H e) → X.xe (.ref e) s
noncomputable def tRaiseI (C : Addr) (sp : Sp) (E : XK) (ta : TA) : TS := fun _ σ H => ta σ H fun vs H1 => vs.length ≤ sizeLine ∧
  ∀ e, H1 e = none → sp (.ref e :: vs) (upd H1 e (xcO e C none)) (fun v H2 => v = .non ∧ ∃ dx, H2 e = some (xcO e C dx) ∧ E (.ref C) dx (untr H2 e)) E0
theorem ps_raiseI {X : Cx} {x : Str} {C fe fI : Addr} {E : XK} {k : Nat} {fd : FuncData} {ps : List Str} {sp : Sp} {np cpos pos : Pos} {e : Expr} {es : List Expr} {ta : TA} (hc : X.calm = true) (hg : Gl X x) (hm : X.mg x = some (.ref C)) (M : XMk X.K C fe fI)
    (G : FnOk X.prog X.w X.K X.mg X.base CX0 k fI fd ps sp) (hr : Room (k + 1) X.A) (hb : Binds X.K fd ps []) (hR : RaisesD X C E) (ha : PA X (e :: es) ta)
    (hdb : (x == ("__debug__" : Str)) = false := by decide) (he : starEach (e :: es) X.env = (false, eval e X.env) :: starEach es X.env := by rfl) (hpl : (backTo cpos (starEach es X.env)).any (·.1) = false := by rfl) :
    PS X (.Raise (some (.Call (.Name x np) (e :: es) [] cpos)) none pos) (tRaiseI C sp E ta) := by
  intro pins s σ H D I h
  obtain ⟨nm, qn, N, bs, sn, sub, ab, col, dd, k0, k1, k2, k3, k5, lk, nok, nin⟩ := M.cls
  have F := PySem.F.excBase_ValueError
  have hplain : (backTo cpos (starEach (e :: es) X.env)).any (·.1) = false := by
    rw [he]
    show (false || (backTo cpos (starEach es X.env)).any (·.1)) = false
    rw [hpl]
    rfl
  obtain ⟨oI, hoI, hfc⟩ : ∃ oI, X.base.get? fI = some oI ∧ oI.cls = .type "function" := by
    have z : Option.map (fun x => x.cls) (List.lookup fI X.K) = some (.type "function") := beq_iff_eq.mp M.fn
    obtain ⟨o, ho, hc'⟩ := Option.map_eq_some_iff.mp z
    exact ⟨o, I.ok.mod.kin _ _ ho, hc'⟩
  rw [arm_exec_Raise]
  simp only [evalOpt, Option.map]
  refine wpAny_bind (wpAny_standAt (raiseStmt_madeD (C := C) (nm := nm) (q := qn) (N := N) (bs := bs) (bm := .ref fe :: bmV) (hdct := true) (sn := sn) (sub := sub) (ab := ab) (col := col) (dd := dd) (k0 := k0) (k1 := k1) (k2 := k2) (k3 := k3) (k5 := k5) (newId := "ValueError.__new__") (by rw [List.contains_cons, show bmV.contains (.type "BaseException") = true from by decide +kernel, Bool.or_true]) (I.ok.hd hc) ?_))
  refine wpAny_bind (wpAny_mono (wpAny_Call_ofName (ld_glob I hg hm ?_ hdb)) (fun v s₃ h₃ => wpAny_bind (wpAny_standAt (wpAny_pure h₃))) fun _ _ x => x)
  have hs := ha cpos pins s σ H _ I h
  unfold callWith
  rw [he] at hs ⊢
  refine wpAny_bind (wpAny_holding (Calls.evalArgs_plain (thn hs fun us s2 hh101 => ?_)))
  obtain ⟨vs, H1, I1, r, hz, q⟩ := hh101
  refine wpAny_bind (wpAny_standAt ?_)
  rw [← he]
  simp only [hplain]
  have hC := I1.bk _ _ (I.ok.mod.kin _ _ lk)
  have hNs : s2.heap.Ns N (s2.heap.nsMap N) := .of_isNs (PySem.W.isNs_of_in I1.kIn nok)
  have hi := ns_some_of I1.kIn hNs nin
  have T := tail_fe I1.kIn M.xfe (by obtain ⟨cd, a, _⟩ := Option.bind_eq_some_iff.mp M.feM; exact ⟨cd, a⟩)
  obtain ⟨hp, g, d, tk, os⟩ := s2
  refine wpAny_bind (wpAny_keeperOf_exc hC ?_)
  refine wpAny_bind (call_own F T hC hNs hi (I1.bk _ _ hoI) hfc (fun h' e' m => ?_) (by show us.length ≤ sizeLine; rw [← r.length]; exact hz))
  obtain ⟨t0, ht0, _, _⟩ := m.there
  have hen : H1 e' = none := by
    cases z : H1 e' with
    | none => rfl
    | some o =>
      obtain ⟨u, hu⟩ := (I1.hok e' o z).some_of
      rw [show hp.get? e' = none from m.new] at hu
      cases hu
  have hnew : ∀ o, X.s₀.heap.get? e' = some o → e' ∈ X.ex := fun o z => by
    by_cases hx : e' ∈ X.ex
    · exact hx
    · obtain ⟨o', q'⟩ := I1.base.there e' o z hx
      rw [show hp.get? e' = none from m.new] at q'
      cases q'
  have I2 : Inv X pins σ (upd H1 e' (xcO e' C none)) ⟨h', g, d, tk, os⟩ := I1.un (h' := h') (t' := tk) ((Un.kept m.keeps).track m.new hen) ((I1.hok.kept m.keeps).track hen (xcO_ok ht0))
  have q2 := q e' hen
  have r2 : Vals (V.ref e' :: vs) (Value.ref e' :: us) := .cons rfl r
  have hl : (Value.ref e' :: us).length = ps.length := by rw [← r2.length]; exact G.len _ _ _ _ q2
  refine wpAny_call (codeAny_mono (G.run _ X.stack _ _ ⟨Value.ref e' :: us, []⟩ (Value.ref e' :: us) _ _ E0 (hr.make C us []) (fun _ => I.ok.hd hc) (fun z => Bool.noConfusion z) (I2.env0.make C us []) (by have z := hb ⟨h', g, d, tk, os⟩ (Value.ref e' :: us) I2.kIn (by rw [List.append_nil]; exact hl); rw [List.append_nil] at z; exact z) r2 q2) fun r s' hq => ?_)
  cases r with
  | error x => exact False.elim hq
  | ok fl =>
    cases fl with
    | ret u =>
      obtain ⟨v, H', I3, rv, ev, dx, hx, q3⟩ := I2.after hq
      subst ev
      obtain ⟨a0, ho⟩ := xcO_get I3.hok hx
      exact ⟨rv, wpAny_bind (wpAny_holding (wpAny_point (wpAny_pure ⟨e', dx, a0, rfl, I3.bk _ _ (I.ok.mod.kin _ _ lk), ho, hR pins σ H' s' e' dx I3 hx hnew q3⟩)))⟩
    | next => exact False.elim hq
    | brk => exact False.elim hq
    | cont => exact False.elim hq
end L2

set_option genSizeOf false
/-! EXT 6: the raise of an exception with fields leaves a def; its fields stored and read. -/
namespace L2
open PySem PySem.Spec PyProof.Rows

section
variable {cm : Bool} {P : Program} {w : World} {K : PySem.W.Frag} {mg : Str → Option Value} {base : Heap} {N : List Str} {qual : Str} {scope : Scope} {f : Addr} {cd : Value} {A : Around} {outer : List Env} {s : Shared} {H : Hp} {E : XK}
theorem raised_fnD {C : Addr} : RaisesD (cxOf (XC P w cm) P w K mg base N qual scope f cd A outer s H E) C E := fun pins σ Hr sr e dx I hx hnew q => by
  obtain ⟨a0, he⟩ := xcO_get I.hok hx
  have noE : ∀ b, b ∉ ([] : List Addr) := fun b z => absurd z (by simp)
  have new : s.heap.get? e = none := by
    cases z : s.heap.get? e with
    | none => rfl
    | some o => exact absurd (hnew o z) (noE e)
  have hokU : HOk P w (untr Hr e) sr.heap := I.hok.untr hx
  have sub : ∀ b o, (PySem.W.hideAll sr.heap (e :: frs (envOfC qual scope s.heap.objs.size f cd :: outer))).get? b = some o → sr.heap.get? b = some o := fun b o q => PySem.W.of_hideAll _ q
  have nin : ∀ b o, s.heap.get? b = some o → b ∉ frs outer → b ∉ e :: frs (envOfC qual scope s.heap.objs.size f cd :: outer) := fun b o q hb z => by
    rcases List.mem_cons.mp z with ez | z
    · rw [ez, new] at q; cases q
    · have z' : b ∈ s.heap.objs.size :: frs outer := z
      rcases List.mem_cons.mp z' with e | e
      · exact absurd (Heap.lt_size q) (by rw [e]; exact Nat.lt_irrefl _)
      · exact hb e
  have kp : Kept (frs outer) H (untr Hr e) s.heap (PySem.W.hideAll sr.heap (e :: frs (envOfC qual scope s.heap.objs.size f cd :: outer))) := by
    refine ⟨fun b o q n hb => ?_, fun b o q hb => ?_, fun b n => ?_⟩
    · exact PySem.W.hideAll_get _ (I.base.keep b o q n hb (noE b)) (nin b o q hb)
    · obtain ⟨o', q'⟩ := I.base.there b o q (noE b)
      exact ⟨o', PySem.W.hideAll_get _ q' (nin b o q hb)⟩
    · have hbe : b ≠ e := by rintro rfl; exact n untr_self
      rw [untr_ne hbe] at n
      cases q : Hr b with
      | none => exact absurd q n
      | some x =>
        obtain ⟨u, hu⟩ := (I.hok b x q).some_of
        refine ⟨u, PySem.W.hideAll_get _ hu fun z => ?_⟩
        rcases List.mem_cons.mp z with ez | z
        · exact hbe ez
        · have := I.stkFree b z
          rw [q] at this
          cases this
  have hen : (PySem.W.hideAll sr.heap (e :: frs (envOfC qual scope s.heap.objs.size f cd :: outer))).get? e = none := PySem.W.hideAll_none _ List.mem_cons_self
  have fr0 : sr.heap.FunFrames base (envOfC qual scope s.heap.objs.size f cd :: outer) := I.stack
  have fr1 : sr.heap.FunFrames (PySem.W.hideAll sr.heap (e :: frs (envOfC qual scope s.heap.objs.size f cd :: outer))) (envOfC qual scope s.heap.objs.size f cd :: outer) :=
    frames_hide fr0 fun env he b hb => List.mem_cons_of_mem _ (List.mem_filterMap.mpr ⟨env, he, hb⟩)
  show wpAny (model P w) (A.deeper (envOfC qual scope s.heap.objs.size f cd)) (leaving (envOfC qual scope s.heap.objs.size f cd) (.ref e)) _ _ _
  unfold leaving
  refine wpAny_bind (fly_new (B := PySem.W.hideAll sr.heap (e :: frs (envOfC qual scope s.heap.objs.size f cd :: outer))) I.ok.frames fr1 rfl he (fun b o z => sub b o z) hen fun h1 F1 up1 => ?_)
  refine fly_land F1 fun h2 F2 up2 => ?_
  have ne_of : ∀ b o, Hr b = some o → (∀ C dx, o ≠ xcO e C dx) → b ≠ e := fun b o z n => by
    rintro rfl
    rw [hx] at z
    exact n _ _ (Option.some.inj z).symm
  have upAll : sr.heap.UpToSlots h2 := up1.trans up2
  have F0 : ∀ b ∈ frs outer, ∃ o, sr.heap.get? b = some o ∧ ∀ vs, o.data ≠ .fields vs := fun b hb => by
    obtain ⟨_, o, q1, nf⟩ := fr1.2.2.mem hb
    exact ⟨o, q1, nf⟩
  have un1 : Un (frs outer) [] H Hr s.heap sr.heap := I.base
  refine ⟨e, .ref C, dx, untr Hr e, _, rfl, I.os, I.bare, ?_, hokU.flown kp.tk (fun b o z => sub b o z) F2.st, F2.drop, untr_self, new, kp, q⟩
  refine ⟨fun b o q1 n hb _ => F2.st b o (kp.k1 b o q1 n hb), fun b o q1 n hb hx => ?_, fun b o q1 n hx' => ?_, fun b o q1 hx => ?_, fun b xs z => ?_, fun b o u z => ?_, fun b ps z => ?_⟩
  · obtain ⟨sl, q2⟩ := un1.slot b o q1 n hb hx
    obtain ⟨o', q3, nf⟩ := F0 b hb
    rw [q2] at q3
    cases q3
    obtain ⟨sl', q4⟩ := upAll b _ q2 nf
    exact ⟨sl', q4⟩
  · unfold untr
    split
    · rfl
    · exact un1.free b o q1 n hx'
  · by_cases hb : b ∈ frs outer
    · obtain ⟨o', q3, nf⟩ := F0 b hb
      obtain ⟨sl', q4⟩ := upAll b _ q3 nf
      exact ⟨_, q4⟩
    · obtain ⟨o', q'⟩ := kp.k2 b o q1 hb
      exact ⟨o', F2.st b o' q'⟩
  · have z' := un1.tups b xs z
    rw [untr_ne (ne_of b _ z' (fun _ _ y => by cases y))]
    exact z'
  · have z' := un1.frzs b o u z
    rw [untr_ne (ne_of b _ z' (fun _ _ y => by cases y))]
    exact z'
  · obtain ⟨m, z'⟩ := un1.tbls b ps z
    exact ⟨m, by rw [untr_ne (ne_of b _ z' (fun _ _ y => by cases y))]; exact z'⟩
end

/-! ### FormError.__init__(self, ..) -/
section
variable {X : Cx}
noncomputable def tXInit (C : Addr) (ta : TA) : TE := fun σ H Q => ta σ H fun vs H1 => ∃ e rest dx, vs = .ref e :: rest ∧ H1 e = some (xcO e C dx) ∧ rest.length ≤ sizeLine ∧ Q .non H1
/-- what the class above must tell -/
structure XBase (K : PySem.W.Frag) (fe : Addr) : Prop where
  ga : PySem.W.specialIn K (.ref fe) "__getattribute__" = some (some (.builtin "type.__getattribute__"))
  rd : PySem.W.readsIn K fe (.type "type") = true
  fi : PySem.W.findCls K (.ref fe) (.type "type") "__init__" = some (.val (.builtin "ValueError.__init__"))
theorem pe_xinit {pl : Sem Bool} {x : Str} {C fe fI : Addr} {np apos pos : Pos} {e : Expr} {es : List Expr} {ta : TA} (hg : Gl X x) (hm : X.mg x = some (.ref fe)) (Z : XBase X.K fe) (M : XMk X.K C fe fI) (ha : PA X (e :: es) ta)
    (hdb : (x == ("__debug__" : Str)) = false := by decide) (he : starEach (e :: es) X.env = (false, eval e X.env) :: starEach es X.env := by rfl) (hpl : (backTo pos (starEach es X.env)).any (·.1) = false := by rfl)
    (ht : eval (.Call (.Attribute (.Name x np) "__init__" apos) (e :: es) [] pos) X.env = (do
      let ov ← eval (.Name x np) X.env
      standAt apos.atName
      let (f, first) ← holding [ov] (getMethod ov "__init__" pl)
      callWith pos f first (backTo pos (starEach (e :: es) X.env)) (backToKw pos (keywordEach [] X.env))) := by rfl) :
    PE X (.Call (.Attribute (.Name x np) "__init__" apos) (e :: es) [] pos) (tXInit C ta) := by
  intro pins s σ H Q I h
  have F := PySem.F.excBase_ValueError
  obtain ⟨nm, qn, N, bs, sn, sub, ab, col, dd, k0, k1, k2, k3, k5, lk, nok, nin⟩ := M.cls
  refine PySem.W.methodCall_KW (pl := pl) (ld_glob I hg hm ?_ hdb) ht
  refine PySem.W.method_cls I.kIn Z.ga (PySem.W.cls_value I.kIn Z.rd Z.fi rfl ?_)
  refine PyProof.Rows.callWith_builtin1 (thn (ha pos pins _ σ H _ (I.tok _) h) fun us s1 hh102 => ?_) he hpl
  obtain ⟨vs, H1, I1, r1, e', rest, dx, ev, hx, hz, q1⟩ := hh102
  subst ev
  cases us with
  | nil => exact absurd r1.length (by simp)
  | cons u us =>
    obtain ⟨hu, hr⟩ : u = .ref e' ∧ Vals rest us := by cases r1 with | cons a b => exact ⟨a, b⟩
    subst hu
    obtain ⟨a0, ho⟩ := xcO_get I1.hok hx
    have hC := I1.bk _ _ (I.ok.mod.kin _ _ lk)
    have T := tail_fe I1.kIn M.xfe (by obtain ⟨cd, a, _⟩ := Option.bind_eq_some_iff.mp M.feM; exact ⟨cd, a⟩)
    have hus : us.length ≤ sizeLine := by rw [← hr.length]; exact hz
    obtain ⟨hp, g, d, tk, os⟩ := s1
    refine wpAny_call (codeAny_call_builtin F.init.plain F.initEntry (wpAny_check_init_subT F T hC ho rfl ?_))
    wp_walk
    have ho1 := Heap.get?_push_of_some { cls := Value.type "tuple", data := Data.seq us.toArray } (show hp.get? e' = some (xObj (.ref C) dx a0 .none) from ho)
    have ho2 : ((hp.push { cls := Value.type "tuple", data := Data.seq us.toArray }).update e' (Obj.mapFields fun x => x.setIfInBounds 0 (Value.ref hp.objs.size))).get? e' = some (xObj (.ref C) dx (.ref hp.objs.size) .none) := by
      rw [Heap.get?_update_self _ ho1 rfl]
      rfl
    have I2 : Inv X pins σ H1 { heap := hp.push { cls := Value.type "tuple", data := Data.seq us.toArray }, gens := g, drawn := d, toks := tk, os := os } := I1.kept (t' := tk) fun b u q => Heap.get?_push_of_some _ q
    have I3 := I2.write (x := e') (e := e') (o := xcO e' C dx) (h' := (hp.push { cls := Value.type "tuple", data := Data.seq us.toArray }).update e' (Obj.mapFields fun x => x.setIfInBounds 0 (Value.ref hp.objs.size))) (t' := tk) (by rw [hx]; trivial) (.inl rfl) (fun b u hb q => (Heap.get?_update_other _ _ (Ne.symm hb)).trans q) ⟨_, ho2⟩ (xcO_ok ho2)
    rw [upd_eq hx] at I3
    have fin : wpAny (model X.prog X.w) X.A.in1 (ret Value.none) (fun fin s' => match fin with
        | PySem.Fin.done f => (match (Except.ok f : Result) with | Except.ok (Flow.ret v) => EP X pins σ Q v s' | Except.ok a => False | Except.error e => X.xe e s')
        | PySem.Fin.again c' => c'.quiet = true ∧ codeAny (model X.prog X.w) X.A c' (fun r s' => match r with | Except.ok (Flow.ret v) => EP X pins σ Q v s' | Except.ok a => False | Except.error e => X.xe e s') s')
        (fun e s' => match (Except.error e : Result) with | Except.ok (Flow.ret v) => EP X pins σ Q v s' | Except.ok a => False | Except.error e => X.xe e s')
        { heap := (hp.push { cls := Value.type "tuple", data := Data.seq us.toArray }).update e' (Obj.mapFields fun x => x.setIfInBounds 0 (Value.ref hp.objs.size)), gens := g, drawn := d, toks := tk, os := os } :=
      wpAny_pure (show EP X pins σ Q Value.none _ from ⟨.non, H1, I3, rfl, q1⟩)
    show wpAny _ _ (match a0 with | Value.ref a => letGo [a0] | x => pure ()) _ _ _
    split
    · exact wpAny_letGo fin
    · exact wpAny_pure fin
end

/-! ### e.f, e an exception that is held -/
section
variable {X : Cx} {o value : Expr} {f : Str} {pos pos' : Pos} {ta tv : TE}
noncomputable def tXget (K : PySem.W.Frag) (f : Str) (ta : TE) : TE := fun σ H Q => ta σ H fun x H1 => ∃ e C d a0 tb fs v, x = .ref e ∧ H1 e = some (xHO e (xObj (.ref C) (some d) a0 tb)) ∧ H1 d = some (.xd fs) ∧ XCls K C ∧ NoAttr K C f ∧ fs.lookup f = some v ∧ Q v H1
theorem xget_value {prog : Program} {w : World} {A : Around} {E : Value → Shared → Prop} {s : Shared} {K : PySem.W.Frag} {C e : Addr} {oe : Obj} {od : Option Obj} {name : Str} {v : Value} {expr : Bool} {Q : Value → Shared → Prop} (Z : XCls K C) (X : K.In s.heap) (I : PySem.W.InstAt s.heap e oe C od)
    (hf : PySem.W.findObj K C od name = some (.value v)) (hh : PySem.W.handedIn v = true) (h : Q v { s with toks := s.toks + 1 }) : wpAny (model prog w) A (getAttr (.ref e) name expr) Q E s := by
  obtain ⟨hh', g, d, t, os⟩ := s
  have L0 := I.type (M := model prog w)
  have L1 := PySem.W.looks_find (M := model prog w) X I hf
  unfold getAttr
  refine wpAny_bind (wpAny_mkText (xattr Z X I (codeAny_call_builtin bexc_plain F.entry_bexc_ga (bexc_check (xexc Z X I) ?_))))
  unfold Builtin.«object.__getattribute__»
  refine wpAny_bind (wpAny_pure ?_)
  dsimp only
  refine wpAny_bind (wpAny_pure (wpAny_bind (L0.at (wpAny_bind (L1.at ?_)))))
  dsimp only
  refine wpAny_pure ?_
  show wpAny _ _ (handedOut v) _ _ _
  rw [PySem.W.handedOut_of hh]
  exact wpAny_pure h
theorem pe_xget (he : PE X o ta) (hb : attributeBase o f X.env (eval o X.env) = eval o X.env) : PE X (.Attribute o f pos) (tXget X.K f ta) := by
  intro pins s σ H Q I h
  refine attr_of hb (thn (he pins s σ H _ I h) fun u s1 hh103 => ?_)
  obtain ⟨x, H1, I1, rx, e, C, d, a0, tb, fs, v, ex, hE, hd, Z, na, hl, q⟩ := hh103
  subst ex
  obtain rfl : u = Value.ref e := rx
  obtain ⟨ho, _⟩ := I1.hok e _ hE
  obtain ⟨mA, hns, hrel⟩ := (show ObjOk X.prog X.w H1 s1.heap d (.xd fs) from I1.hok d _ hd)
  have r := hrel f
  rw [hl] at r
  obtain ⟨u, hu, ru⟩ := r.some_of
  obtain ⟨od, hod, hlk⟩ := lookIn_ns hns
  have IA : PySem.W.InstAt s1.heap e (xObj (.ref C) (some d) a0 tb) C (some od) := ⟨ho, rfl, rfl, hod⟩
  exact xget_value Z I1.kIn IA (PySem.W.findObj_own Z.hd na rfl (by rw [hlk, hu])) (handed_of ru) ⟨v, H1, I1.tok _, ru, q⟩
end

/-! ### self.f = v, self an exception that is being made -/
section
variable {X : Cx} {o value : Expr} {f : Str} {pos pos' : Pos} {ta tv : TE}
theorem within_xd {fs : List (Str × V)} {mA : Str → Option Value} (h : ∀ f, RelO (fs.lookup f) (mA f)) : PySem.Within mA (fs.map (·.1)) := fun y hy => by
  cases e : fs.lookup y with
  | none => have := h y; rw [e] at this; exact absurd this.none_of hy
  | some v => exact List.mem_map.mpr ⟨(y, v), PySem.mem_of_lookup e, rfl⟩
/-- object.__setattr__ of an exception -/
theorem xsa_open {prog : Program} {w : World} {A : Around} {s : Shared} {R : Result → Shared → Prop} {K : PySem.W.Frag} {C fe fI x : Addr} {ox : Obj} {od : Option Obj} {name : Str} {tk : Tok} {v : Value} (X : K.In s.heap) (I : PySem.W.InstAt s.heap x ox C od) (M : XMk K C fe fI) (na : NoAttr K C name)
    (h : ∀ b, wpAny (model prog w) A.in1 (Builtin.ObjectAttr.storeInOwnDict (.ref x) (.ref C) (.str name tk) name v b)
      (fun fin s' => match fin with | .done f => R (.ok f) s' | .again c' => c'.quiet = true ∧ codeAny (model prog w) A c' R s') (fun e s' => R (.error e) s') s) :
    codeAny (model prog w) A (.call (.builtin "object.__setattr__") ⟨[.ref x, .str name tk, v], []⟩) R s := by
  have SF := PySem.F.store_ValueError
  obtain ⟨nm, qn, N, bs, sn, sub, ab, col, dd, k0, k1, k2, k3, k5, lk, nok, nin⟩ := M.cls
  obtain ⟨cd, hc, hmro⟩ : ∃ cd, PySem.W.clsIn K C = some cd ∧ cd.mro = .ref C :: .ref fe :: bmV := ⟨_, by unfold PySem.W.clsIn; rw [lk], rfl⟩
  have hm : PySem.W.Looks (model prog w) s.heap (mroOf (.ref C)) cd.mro := (PySem.W.looks_clsIn X hc).andThen .now
  have ho : (Value.ref C :: .ref fe :: bmV).contains (.type "object") = true := by rw [List.contains_cons, List.contains_cons, show bmV.contains (.type "object") = true from by decide +kernel, Bool.or_true, Bool.or_true]
  have sub : PySem.W.Looks (model prog w) s.heap (isInstance (.ref x) (.type "object")) true := I.type.andThen (PySem.W.looks_mroIn X (by unfold PySem.W.mroIn; rw [hc, Option.bind_some, hmro, if_neg (by simp), ho]))
  refine codeAny_call_builtin SF.slot.plain SF.entry (@PySem.W.check_slot (model prog w) _ _ s "object.__setattr__" "object" "__setattr__" (.ref x) [.str name tk, v] [] _ SF.kind SF.split sub (SF.args (.ref x) (.str name tk) v) ?_)
  rw [PySem.W.osa_eq, refuse_eq]
  refine wpAny_bind (wpAny_bind (I.type.here (wpAny_bind (hm.here ?_))))
  rw [hmro, refuseLoop_ref, refuseLoop_ref, SF.passes]
  refine wpAny_pure (wpAny_bind (I.type.here (wpAny_bind ((PySem.W.looks_findIn X na).here (wpAny_bind ?_)))))
  exact wpAny_pure (h _)
noncomputable def sXF (K : PySem.W.Frag) (C : Addr) (f : Str) (ta tv : TE) : TS := fun D σ H => tv σ H fun y H1 => ta σ H1 fun x H2 => ∃ e, x = .ref e ∧ NoAttr K C f ∧
  ((H2 e = some (xcO e C none) ∧ ∀ d, H2 d = none → D.nx σ (upd (upd H2 d (.xd [(f, y)])) e (xcO e C (some d)))) ∨
    ∃ d fs, H2 e = some (xcO e C (some d)) ∧ H2 d = some (.xd fs) ∧ fs.length < 1000 ∧ D.nx σ (upd H2 d (.xd (putF f y fs))))
theorem ps_xfld {C fe fI : Addr} (M : XMk X.K C fe fI) (ha : PE X o ta) (hv : PE X value tv) (hs : swapsWith value (some (.Attribute o f pos')) pos.line X.env = pure false) : PS X (.Assign [.Attribute o f pos'] value pos) (sXF X.K C f ta tv) := by
  intro pins s σ H D I h
  refine plainObj_wpAny_Assign_Attribute (thn (hv pins s σ H _ I h) fun u s1 hh104 => ?_) hs
  obtain ⟨y, H1, I1, ry, q⟩ := hh104
  refine thn (ha pins s1 σ H1 _ I1 q) fun ov s2 hh105 => ?_
  obtain ⟨x, H2, I2, rx, e, ex, na, q2⟩ := hh105
  subst ex
  obtain rfl : ov = Value.ref e := rx
  obtain ⟨nm, qn, N, bs, sn, sub, ab, col, dd, k0, k1, k2, k3, k5, lk, nok, nin⟩ := M.cls
  obtain ⟨cd, hc, hhd⟩ : ∃ cd, PySem.W.clsIn X.K C = some cd ∧ cd.hasDict = true := ⟨_, by unfold PySem.W.clsIn; rw [lk], rfl⟩
  rcases q2 with ⟨hx, q2⟩ | ⟨d, fs, hx, hd, hz, q2⟩
  · obtain ⟨a0, ho⟩ := xcO_get I2.hok hx
    have IA : PySem.W.InstAt s2.heap e (xObj (.ref C) none a0 .none) C none := ⟨ho, rfl, rfl, trivial⟩
    refine PySem.W.set_plain I2.kIn IA M.sa (xsa_open (s := { s2 with toks := s2.toks + 1 }) I2.kIn IA M na fun b => ?_)
    refine wpAny_bind (wpAny_pure (wpAny_bind (wpAny_bind (wpAny_loadPart ho (wpAny_bind (PySem.W.Looks.here (s := { s2 with toks := s2.toks + 1 }) (PySem.W.looks_clsIn I2.kIn hc) ?_))))))
    rw [hhd]
    show wpAny _ _ (do
      let d ← alloc { cls := Value.type "dict", data := Data.dict #[] }
      update e fun o => { cls := o.cls, dict := some d, data := o.data, slots := o.slots }
      dictMade (.ref C) e d) _ _ _
    have ho1 := Heap.get?_push_of_some { cls := Value.type "dict", data := Data.dict #[] } ho
    have hes : e ≠ s2.heap.objs.size := Nat.ne_of_lt (Heap.lt_size ho)
    refine wpAny_bind (wpAny_alloc' (wpAny_bind (wpAny_update' ho1 (wpAny_pure ?_))))
    have hgd : ((s2.heap.push { cls := Value.type "dict", data := Data.dict #[] }).update e fun o => { cls := o.cls, dict := some s2.heap.objs.size, data := o.data, slots := o.slots }).get? s2.heap.objs.size
        = some { cls := Value.type "dict", data := Data.dict #[] } := (Heap.get?_update_ne _ _ _ _ hes.symm).trans (Heap.get?_push_at rfl rfl)
    have hge : ((s2.heap.push { cls := Value.type "dict", data := Data.dict #[] }).update e fun o => { cls := o.cls, dict := some s2.heap.objs.size, data := o.data, slots := o.slots }).get? e
        = some (xObj (.ref C) (some s2.heap.objs.size) a0 .none) := Heap.get?_update_self _ ho1 rfl
    have hnd : ((s2.heap.push { cls := Value.type "dict", data := Data.dict #[] }).update e fun o => { cls := o.cls, dict := some s2.heap.objs.size, data := o.data, slots := o.slots }).Ns s2.heap.objs.size (fun _ => none) :=
      ⟨_, #[], _, hgd, rfl, fun e he => absurd he (by simp), fun _ => rfl⟩
    show wpAny _ _ (Builtin.ObjectAttr.storeInDict s2.heap.objs.size (.str f s2.toks) f u) _ _ _
    unfold Builtin.ObjectAttr.storeInDict Builtin.ObjectAttr.newKeyGuard
    refine wpAny_bind (wpAny_pure (wpAny_bind (wpAny_nsSet1 (Heap.Ns1.of_empty hnd) fun h' hn' hs' => ?_)))
    obtain ⟨oD, esD, epD, hoD, hdD, hcD⟩ := hn'.count (Within.cons f u Within.nil)
    refine wpAny_bind (wpAny_lookBehind hoD (by rw [hdD]; exact pastItsLine_dict (Nat.le_trans hcD (by rw [List.length_cons, List.length_nil, sizeLine_eq]; (first | lia | omega)))) ?_)
    have hfresh : H2 s2.heap.objs.size = none := I2.hok.fresh (Nat.le_refl _)
    have hge' : h'.get? e = some (xObj (.ref C) (some s2.heap.objs.size) a0 .none) := (hs'.2 e hes).trans hge
    have kp : ∀ b o, b ≠ e → s2.heap.get? b = some o → h'.get? b = some o := fun b o hb q =>
      (hs'.2 b (Nat.ne_of_lt (Heap.lt_size q))).trans ((Heap.get?_update_ne _ _ _ _ hb).trans (Heap.get?_push_of_some _ q))
    have hok' : HOk X.prog X.w (upd (upd H2 s2.heap.objs.size (.xd [(f, y)])) e (xcO e C (some s2.heap.objs.size))) h' := fun b o q => by
      by_cases hb : b = e
      · subst hb
        rw [upd_same] at q
        cases q
        exact xcO_ok hge'
      · rw [upd_ne hb] at q
        by_cases hd : b = s2.heap.objs.size
        · subst hd
          rw [upd_same] at q
          cases q
          refine ⟨_, hn', fun g => ?_⟩
          show RelO (List.lookup g [(f, y)]) (if g = f then some u else none)
          by_cases q : g = f
          · subst q
            rw [if_pos rfl, List.lookup_cons, beq_self_eq_true]
            exact ry
          · rw [if_neg q, List.lookup_cons, beq_eq_false_iff_ne.mpr q]
            exact True.intro
        · rw [upd_ne hd] at q
          refine (I2.hok b o q).stay (fun c v hc' z => kp c v ?_ z) (fun c z => ?_) fun c xs z => ?_
          · rintro rfl
            rcases hc' with z1 | z1
            · exact hb z1.symm
            · rw [hx] at z1; cases z1
          · rw [upd_ne (by rintro rfl; rw [hx] at z; cases z), upd_ne (ne_of_none z hfresh)]; exact z
          · rw [upd_ne (by rintro rfl; rw [hx] at z; cases z), upd_ne (ne_of_none z hfresh)]; exact z
    have un' : Un X.fs [] H2 (upd (upd H2 s2.heap.objs.size (.xd [(f, y)])) e (xcO e C (some s2.heap.objs.size))) s2.heap h' := by
      refine ⟨fun b o q n hb _ => kp b o (by rintro rfl; rw [hx] at n; cases n) q, fun b o q n hb _ => ⟨o.slots, kp b o (by rintro rfl; rw [hx] at n; cases n) q⟩, fun b o q n _ => ?_, fun b o q _ => ?_, fun b xs z => ?_, fun b o u z => ?_, fun b ps z => ⟨#[], ?_⟩⟩
      · rw [upd_ne (by rintro rfl; rw [hx] at n; cases n), upd_ne (Nat.ne_of_lt (Heap.lt_size q))]; exact n
      · by_cases hb : b = e
        · rw [hb]; exact ⟨_, hge'⟩
        · exact ⟨o, kp b o hb q⟩
      · rw [upd_ne (by rintro rfl; rw [hx] at z; cases z), upd_ne (ne_of_none z hfresh)]; exact z
      · rw [upd_ne (by rintro rfl; rw [hx] at z; cases z), upd_ne (ne_of_none z hfresh)]; exact z
      · rw [upd_ne (by rintro rfl; rw [hx] at z; cases z), upd_ne (ne_of_none z hfresh), Array.append_empty]; exact z
    exact wpAny_pure ⟨σ, _, I2.un (h' := h') un' hok', q2 _ hfresh⟩
  · obtain ⟨a0, ho⟩ := xcO_get I2.hok hx
    obtain ⟨mA, hns, hrel⟩ := (show ObjOk X.prog X.w H2 s2.heap d (.xd fs) from I2.hok d _ hd)
    obtain ⟨od, hod, hlk⟩ := lookIn_ns hns
    have IA : PySem.W.InstAt s2.heap e (xObj (.ref C) (some d) a0 .none) C (some od) := ⟨ho, rfl, rfl, hod⟩
    refine PySem.W.set_plain I2.kIn IA M.sa (xsa_open (s := { s2 with toks := s2.toks + 1 }) I2.kIn IA M na fun b => ?_)
    refine wpAny_bind (wpAny_pure (wpAny_bind (wpAny_bind (wpAny_loadPart ho (wpAny_bind (PySem.W.Looks.here (s := { s2 with toks := s2.toks + 1 }) (PySem.W.looks_clsIn I2.kIn hc) ?_))))))
    rw [hhd]
    refine wpAny_pure (a := some d) (wpAny_bind (wpAny_pure (wpAny_bind ?_)))
    refine wpAny_nsSet1 (s := { s2 with toks := s2.toks + 1 }) hns fun h' hn2 hs2 => ?_
    obtain ⟨oD, esD, epD, hoD, hdD, hcD⟩ := hn2.count (PySem.Within.cons f u (within_xd hrel))
    refine wpAny_bind (wpAny_lookBehind hoD (by rw [hdD]; exact pastItsLine_dict (Nat.le_trans hcD (by rw [List.length_cons, List.length_map, sizeLine_eq]; (first | lia | omega)))) ?_)
    have new : ObjOk X.prog X.w (upd H2 d (.xd (putF f y fs))) h' d (.xd (putF f y fs)) := by
      refine ⟨_, hn2, fun g => ?_⟩
      show RelO ((putF f y fs).lookup g) (if g = f then some u else mA g)
      rw [lookup_putF]
      by_cases q : g = f
      · rw [if_pos q, if_pos q]; exact ry
      · rw [if_neg q, if_neg q]; exact hrel g
    exact wpAny_pure ⟨σ, _, I2.write (x := d) (e := d) (h' := h') (by rw [hd]; trivial) (.inl rfl) (fun b u hb q => (hs2.2 b hb).trans q) ⟨_, hoD⟩ new, q2⟩
end
end L2

set_option genSizeOf false
/-! Small words that many laws use. -/
namespace L2
open PySem PySem.Spec PyProof.Rows
/-- a module's int -/
theorem pgi {X : Cx} {x : Str} {i : Int} {t : Tok} {pos : Pos} (hm : X.mg x = some (.int i t)) (hg : Gl X x := by rfl) (hd : (x == ("__debug__" : Str)) = false := by decide) : PE X (.Name x pos) (tC (.int i)) := pe_glob hg hm ⟨t, rfl⟩ hd
theorem iteD {c A B : Prop} [Decidable c] (hc : ¬ c) (h : B) : if decide c = true then A else B := by
  rw [if_neg (by simpa using hc)]
  exact h
/-- a built-in type's name -/
theorem pty {X : Cx} {x : Str} {T : String} {pos : Pos} (hm : X.mg x = none) (hv : bootBuiltins x = some (.type T)) (hg : Gl X x := by rfl) (hn : x ≠ "__name__" := by decide) (hd : (x == ("__debug__" : Str)) = false := by decide) : PE X (.Name x pos) (tC (.ty T)) := pe_bltn hg hm hv rfl hn hd
theorem keepH {H : Hp} {a p : Addr} {o u : HO} (h : H a = some o) (hp : H p = none) : (upd H p u) a = some o := by
  rw [upd_ne (ne_of_none h hp)]
  exact h
theorem keepX {H : Hp} {p : Addr} {u : HO} {dx : Option Addr} (h : dx = none ∨ ∃ d fs, dx = some d ∧ H d = some (.xd fs)) (hp : H p = none) : dx = none ∨ ∃ d fs, dx = some d ∧ (upd H p u) d = some (.xd fs) := by
  rcases h with h | ⟨d, fs, h, e⟩
  · exact .inl h
  · exact .inr ⟨d, fs, h, keepH e hp⟩
theorem sameU {H : Hp} {p : Addr} {u : HO} (hp : H p = none) : Same H (upd H p u) := fun _ _ e => keepH e hp
/-- the words of the true ones -/
theorem comp_pairs {K : PySem.W.Frag} {l : Addr} {ts : List Addr} {prs : List (Str × Bool)} {H1 : Hp} {Q : VK} {σ0 : St} (hl : H1 l = some (.lst (ts.map V.ref))) (hlen : ts.length = prs.length) (hsz : prs.length ≤ 1000)
    (ht : ∀ (i : Nat) t w b, ts[i]? = some t → prs[i]? = some (w, b) → H1 t = some (.tup [.str w, .bl b])) (hσ : σ0 = [none, none])
    (hd : ∀ D, H1 D = none → Q (.ref D) (upd H1 D (.lst ((prs.filter (·.2)).map fun p => V.str p.1)))) :
    (Itl K l).sok = true ∧ CompW (Itl K l) H1 σ0 (gTup K 2 (gCons (gName 0) (gCons (gName 1) gNil))) (tB (tVar 1)) (tVar 0) Q := by
  refine ⟨rfl, fun D hD => ⟨fun i m ys H => m = prs.length - i ∧ i ≤ prs.length ∧ ys = ((prs.take i).filter (·.2)).map (fun p => V.str p.1) ∧ H = upd H1 D (.lst ys), ⟨prs.length, by simp, Nat.zero_le _, rfl, rfl⟩, ?_⟩⟩
  rintro i m ys H ⟨rfl, hi, rfl, rfl⟩
  have hL : ∀ ys, SqL K (upd H1 D (.lst ys)) l (ts.map V.ref) := fun ys => SqL.of (keepH hl hD)
  refine ⟨upd_same, ?_⟩
  by_cases hlt : i < prs.length
  · have hit : i < ts.length := by (first | lia | omega)
    refine .inr ⟨⟨_, V.ref ts[i], hL _, by simp [hit]⟩, fun x H' y => ?_⟩
    obtain ⟨e, y⟩ := y
    subst e
    have hx := y _ (hL _)
    rw [List.getElem?_map, List.getElem?_eq_getElem hit] at hx
    have hx' : x = V.ref ts[i] := (Option.some.inj hx).symm
    subst hx'
    obtain ⟨wd, b, hp⟩ : ∃ wd b, prs[i]? = some (wd, b) := ⟨_, _, List.getElem?_eq_getElem hlt⟩
    have hT := ht i ts[i] wd b (List.getElem?_eq_getElem hit) hp
    have etake : (prs.take (i + 1)).filter (·.2) = (prs.take i).filter (·.2) ++ (if b then [(wd, b)] else []) := by
      rw [List.take_add_one, hp, List.filter_append]
      cases b <;> rfl
    subst hσ
    refine ⟨ts[i], _, rfl, SqT.of (keepH hT hD), rfl, _, _, rfl, _, _, rfl, rfl, ?_, _, rfl, b, rfl, ?_⟩
    · intro j v e
      rcases j with _ | _ | j <;> simp at e
    · have hsm : (((prs.take i).filter (·.2)).map (fun p => V.str p.1)).length < sizeLine := small1000 (by
        rw [List.length_map]
        exact Nat.le_trans (List.length_filter_le _ _) (Nat.le_trans (by rw [List.length_take]; exact Nat.min_le_right _ _) hsz))
      cases b with
      | true =>
        refine iteT ⟨_, rfl, upd_same, hsm, prs.length - (i + 1), Nat.sub_succ_lt_self _ _ hlt, rfl, hlt, ?_, ?_⟩
        · rw [etake, List.map_append]
          rfl
        · rw [upd_upd]
      | false =>
        refine iteF ⟨prs.length - (i + 1), Nat.sub_succ_lt_self _ _ hlt, rfl, hlt, ?_, rfl⟩
        rw [etake]
        simp
  · have e : i = prs.length := by (first | lia | omega)
    subst e
    rw [List.take_length]
    exact .inl ⟨⟨_, hL _, by rw [List.length_map]; (first | lia | omega)⟩, hd D hD⟩
theorem freeIn {X : Cx} {scope : Scope} (h : (scope.names.all fun p => !(p.2 == .free) || (X.env.cells.lookup p.1).isSome) = true) : ∀ y ∈ scope.names, y.2 = .free → (X.env.cells.lookup y.1).isSome = true := fun y hy e => by
  have := List.all_eq_true.mp h y hy
  rw [e] at this
  simpa using this
theorem pg_tupSK {X : Cx} (K : PySem.W.Frag) (hK : X.K = K) {pos : Pos} {es : List Expr} {k : Nat} {t : TGs} {n : Nat} (hc : X.suit = true) (h : PGs X es t)
    (hn : (assignEach es X.env).length = n := by rfl) (hst : (assignEach es X.env).findIdx? (·.1) = none := by rfl) : PG X (.Tuple es k pos) (gTup K n t) := by
  subst hK
  exact pg_tupS hc h hn hst
theorem iteP {c A B : Prop} [Decidable c] (hc : c) (h : A) : if decide c = true then A else B := by
  rw [if_pos (decide_eq_true hc)]
  exact h
/-- an own class's name -/
theorem pcl {X : Cx} {x : Str} {a : Addr} {pos : Pos} (hm : X.mg x = some (.ref a)) (hg : Gl X x := by rfl) (hd : (x == ("__debug__" : Str)) = false := by decide) : PE X (.Name x pos) (tC (.ref a)) := pe_glob hg hm rfl hd
theorem Room_mark {k : Nat} {A : Around} {v : Option Value} (r : Room k A) : Room k (A.mark v) := ⟨r.dp, r.un⟩
theorem kit_self {K : PySem.W.Frag} {T : String} : PySem.W.kitOne K (.type T) (.type T) = some true := by
  unfold PySem.W.kitOne
  simp
theorem call_isinstK {X : Cx} (K : PySem.W.Frag) (hK : X.K = K) : CallR X (.builtin "isinstance") (fun xs H Q => ∃ x c t cv b, xs = [x, c] ∧ TyOf K H x t ∧ RelV c cv ∧ PySem.W.kitOne K t cv = some b ∧ Q (.bl b) H) := by
  subst hK
  exact call_isinst
/-- no item is taken -/
theorem comp_none {K : PySem.W.Frag} {l : Addr} {xs : List V} {σ0 : St} {g : TG} {tif : TT} {te : TE} {Q : VK} {H1 : Hp} (hl : H1 l = some (.lst xs))
    (hs : ∀ (i : Nat) x, xs[i]? = some x → ∀ (H : Hp) (R : St → Bool → Hp → Prop), (∀ σ, R σ false H) → g x σ0 H fun σ2 H2 => Sub σ0 σ2 ∧ tif σ2 H2 (R σ2))
    (hd : ∀ D, H1 D = none → Q (.ref D) (upd H1 D (.lst []))) : CompW (Itl K l) H1 σ0 g tif te Q := by
  intro D hD
  have hL : SqL K (upd H1 D (.lst [])) l xs := SqL.of (keepH hl hD)
  refine ⟨fun i m ys H => m = xs.length - i ∧ i ≤ xs.length ∧ ys = [] ∧ H = upd H1 D (.lst []), ⟨xs.length, by simp, Nat.zero_le _, rfl, rfl⟩, ?_⟩
  rintro i m ys H ⟨rfl, hi, rfl, rfl⟩
  refine ⟨upd_same, ?_⟩
  by_cases hlt : i < xs.length
  · refine .inr ⟨⟨_, xs[i], hL, List.getElem?_eq_getElem hlt⟩, fun x H' y => ?_⟩
    obtain ⟨e, y⟩ := y
    subst e
    have hx := y _ hL
    refine hs i x hx _ (fun σ2 b H3 => if b = true then te σ2 H3 _ else _) fun σ2 => ?_
    exact iteF ⟨xs.length - (i + 1), Nat.sub_succ_lt_self _ _ hlt, rfl, hlt, rfl, rfl⟩
  · have e : i = xs.length := by (first | lia | omega)
    subst e
    exact .inl ⟨⟨_, hL, Nat.le_refl _⟩, hd D hD⟩
theorem shaped_ints (ns : List Int) : SeqAt.shaped (.list (ns.map PyData.int)) = true := PySem.W.shaped_ints ns
theorem Same.put {H H' : Hp} {p : Addr} {o : HO} (s : Same H H') (h : H p = none) : Same H (upd H' p o) := fun b u e => by
  rw [upd_ne (ne_of_none e h)]
  exact s b u e
theorem Same.seqT {K : PySem.W.Frag} {H H' : Hp} {a : Addr} {xs : List V} (e : Same H H') (h : SqT K H a xs) : SqT K H' a xs := by
  rcases h with (h | ⟨o, h⟩) | h
  · exact .inl (.inl (e _ _ h))
  · exact .inl (.inr ⟨o, e _ _ h⟩)
  · exact .inr h
theorem passX {X : Cx} (hc : X.calm = true := by rfl) : Passes (XC X.prog X.w true) X E0 := ⟨fun _ => hc, rfl, fun _ _ _ _ _ _ _ h => by
  obtain ⟨_, _, _, _, _, _, _, _, _, _, _, _, _, _, z⟩ := h
  exact z.elim⟩
/-! ### a word between: what holds behind a statement, or of a value, said once -/
noncomputable def tCut (t u : TS) : TS := fun D σ H => ∃ M : St → Hp → Prop, t { D with nx := M } σ H ∧ ∀ σ' H', M σ' H' → u D σ' H'
theorem pss_cut {X : Cx} {st : Stmt} {rest : List Stmt} {t u : TS} (h1 : PS X st t) (h2 : PSs X rest u) : PSs X (st :: rest) (tCut t u) := by
  rintro pins s σ H D I ⟨M, h, k⟩
  refine wpAny_execs_cons (wpAny_mono (h1 pins s σ H { D with nx := M } I h) (fun f s1 q => ?_) fun _ _ x => x)
  cases f with
  | next =>
    obtain ⟨σ1, H1, I1, q1⟩ := q
    exact h2 pins s1 σ1 H1 D I1 (k σ1 H1 q1)
  | ret v => exact q
  | brk => exact q
  | cont => exact q
noncomputable def tECut (t : TE) : TE := fun σ H Q => ∃ M : VK, t σ H M ∧ ∀ v H', M v H' → Q v H'
theorem pe_cut {X : Cx} {e : Expr} {t : TE} (h : PE X e t) : PE X e (tECut t) := by
  rintro pins s σ H Q I ⟨M, q, k⟩
  exact wpAny_mono (h pins s σ H M I q) (fun v s1 hh124 => (by obtain ⟨x, H1, I1, r, m⟩ := hh124; exact ⟨x, H1, I1, r, k x H1 m⟩)) fun _ _ x => x
end L2

set_option genSizeOf false
/-! EXT 7: texts: their methods, slices, a walk over their signs; all(..), int(text). -/
namespace L2
open PySem PySem.Spec PyProof.Rows
section
variable {X : Cx}
theorem mt_find : MtR X "str.find" (fun x xs H Q => ∃ z y, x = .str z ∧ xs = [.str y] ∧ Q (.int (Txt.find z y)) H) := by
  intro pins s σ H x xs v us Q I rx rs h
  obtain ⟨z, y, rfl, rfl, q⟩ := h
  obtain ⟨t, rfl⟩ := rx
  obtain ⟨u, rfl, ⟨t', rfl⟩⟩ := Vals.one rs
  exact call_gives F.slot_str_find (typeIs_str _ _ _) F.entry_str_find (F.args_str_find_2 _ _) (gives_str_find z y t t') (show EP X pins σ Q (.int (Txt.find z y) s.toks) { s with toks := s.toks + 1 } from ⟨.int _, H, I.tok _, ⟨_, rfl⟩, q⟩)
theorem mt_index : MtR X "str.index" (fun x xs H Q => ∃ z y i rest, x = .str z ∧ xs = [.str y] ∧ Builtin.Str.occurrences z y 0 z.length 1 = i :: rest ∧ Q (.int (i : Nat)) H) := by
  intro pins s σ H x xs v us Q I rx rs h
  obtain ⟨z, y, i, rest, rfl, rfl, ho, q⟩ := h
  obtain ⟨t, rfl⟩ := rx
  obtain ⟨u, rfl, ⟨t', rfl⟩⟩ := Vals.one rs
  exact call_gives F.slot_str_index (typeIs_str _ _ _) F.entry_str_index (F.args_str_index_2 _ _) (gives_str_index z y t t' i rest ho) (show EP X pins σ Q (.int i s.toks) { s with toks := s.toks + 1 } from ⟨.int _, H, I.tok _, ⟨_, rfl⟩, q⟩)
/-! ### join -/
theorem strsAre_of {ys : List Str} : ∀ {us : List Value}, Vals (ys.map V.str) us → StrsAre us ys := by
  induction ys with
  | nil => intro us r; rw [List.map_nil] at r; cases r; exact .nil
  | cons n ns ih =>
    intro us r
    rw [List.map_cons] at r
    cases r with
    | cons r1 r2 =>
      obtain ⟨t, e⟩ := r1
      subst e
      exact .cons n t (ih r2)
theorem mt_join : MtR X "str.join" (fun x xs H Q => ∃ z p ys, x = .str z ∧ xs = [.ref p] ∧ SqL X.K H p (ys.map V.str) ∧ (ys.map (·.length)).sum + ys.length * z.length ≤ 16777216 ∧ Q (.str (Txt.join z ys)) H) := by
  intro pins s σ H x xs v us Q I rx rs h
  obtain ⟨z, p, ys, rfl, rfl, hp, hz, q⟩ := h
  obtain ⟨t, rfl⟩ := rx
  obtain ⟨u, rfl, ru⟩ := Vals.one rs
  cases (show u = .ref p from ru)
  obtain ⟨its, rv, pl, _⟩ := I.list hp
  exact join_list pl.isList (strsAre_of rv) hz fun t' k => (show EP X pins σ Q (.str (Txt.join z ys) t') { s with toks := k } from ⟨.str _, H, I.tok _, ⟨_, rfl⟩, q⟩)
/-! ### slices -/
noncomputable def rSlS : V → Option Int → Option Int → Hp → VK → Prop := fun x lo hi H Q => ∃ z, x = .str z ∧ z.length ≤ sizeLine ∧ Q (.str (Txt.slice z lo hi)) H
theorem isPart_of {v : Value} {o : Option Int} (p : IsPart v o) : ∃ l : Option (Int × Tok), v = partValue l ∧ l.map (·.1) = o := by
  cases p with
  | none => exact ⟨none, rfl, rfl⟩
  | int i t => exact ⟨some (i, t), rfl, rfl⟩
theorem sl_str : SlR X rSlS := by
  intro pins s σ H x v vl vu lo hi sl Q I rx hs pl pu h
  obtain ⟨z, rfl, hz, q⟩ := h
  obtain ⟨t, rfl⟩ := rx
  obtain ⟨l, rfl, rfl⟩ := isPart_of pl
  obtain ⟨u, rfl, rfl⟩ := isPart_of pu
  refine ⟨"str", _, F.slot_str_getitem.lookup, typeIs_str _ _ _, ?_⟩
  refine wpAny_getItem_str_slice (l := l) (u := u) (st := none) ?_ rfl (post_val_or_str ⟨Nat.le_trans (Txt.slice_le z _ _) hz, fun t' k => ?_⟩)
  · exact hs
  · exact ⟨.str _, H, I.tok _, ⟨_, rfl⟩, q⟩
/-! ### a walk over a text's signs -/
noncomputable def Its (x : Str) : It := ⟨fun i _ => i < x.length, fun i H v H' => H' = H ∧ ∃ c, x.cps[i]? = some c ∧ v = .str ⟨#[c]⟩, fun i _ => x.length ≤ i, false⟩
noncomputable def strTy (x : Str) : String := if x.cps.all (· < 128) then "str_ascii_iterator" else "str_iterator"
theorem turn_str {P : Program} {w : World} {K : PySem.W.Frag} {tg : Expr} (x : Str) (t : Tok) (it : Addr) : Turn P w K tg (Its x) [it] it (fun i h => h.IsStrIter it (strTy x) x t i) where
  mem := by simp
  obj := fun i h st b hb => by
    have e : b = it := by simpa using hb
    subst e
    obtain ⟨o, e, c, d⟩ := st
    exact ⟨o, e, fun v z => by rw [d] at z; cases z⟩
  keep := fun i h h' st k => by
    obtain ⟨o, e, c, d⟩ := st
    exact ⟨o, k it (by simp) o e, c, d⟩
  item := by
    intro X hP hw hK hc i pins s σ H E I hf st hg
    subst hP hw hK
    have hi : i < x.cps.size := hg
    have hx : x.cps[i]? = some x.cps[i] := Array.getElem?_eq_getElem hi
    obtain ⟨f0, f1, f2, f3, f4, f5⟩ := hf it (by simp)
    have fin : ∀ h', h'.IsStrIter it (strTy x) x t (i + 1) → Heap.SameBut it s.heap h' → ∃ u, some (Value.str ⟨#[x.cps[i]]⟩ s.toks) = some u ∧ wpAny (model X.prog X.w) X.A (letOwnedTupleGo tg (.ref it) u) (fun _ s2 => ∃ y H', Inv X pins σ H' s2 ∧ RelV y u ∧ (Its x).yld i H y H' ∧ s2.heap.IsStrIter it (strTy x) x t (i + 1) ∧ ∀ b ∈ [it], H' b = none) E { s with heap := h', toks := s.toks + 1 } := fun h' st' sb => by
      have I1 : Inv X pins σ H { s with heap := h', toks := s.toks + 1 } := I.turned (t' := s.toks + 1) (fun b o hb e => (sb.2 b hb).trans e) f0 f1 f3 f4 f5
      obtain ⟨o, e, c, d⟩ := id st'
      refine ⟨_, rfl, go_of (s := { s with heap := h', toks := s.toks + 1 }) e c d ?_ ⟨.str ⟨#[x.cps[i]]⟩, H, I1, ⟨_, rfl⟩, ⟨rfl, _, hx, rfl⟩, st', fun b hb => (hf b hb).1⟩⟩
      unfold strTy
      split <;> decide
    by_cases ha : x.cps.all (· < 128) = true
    · have e : strTy x = "str_ascii_iterator" := if_pos ha
      rw [e] at st fin ⊢
      exact wpAny_pyNext_ascii_item st hx fin
    · have e : strTy x = "str_iterator" := if_neg ha
      rw [e] at st fin ⊢
      exact wpAny_pyNext_wide_item st hx fin
  done := by
    intro X hP hw hK hc i pins s σ H E I hf st hg
    subst hP hw hK
    have hx : x.cps[i]? = none := Array.getElem?_eq_none hg
    obtain ⟨f0, f1, f2, f3, f4, f5⟩ := hf it (by simp)
    have hc := hc.resolve_right fun z => Bool.noConfusion (show false = true from z.1)
    by_cases ha : x.cps.all (· < 128) = true
    · have e : strTy x = "str_ascii_iterator" := if_pos ha
      rw [e] at st
      exact wpAny_pyNext_ascii_end (I.ok.hd hc) st hx fun h' eb => ⟨rfl, I.turned (t' := s.toks) (fun b o hb e => eb b o hb e) f0 f1 f3 f4 f5⟩
    · have e : strTy x = "str_iterator" := if_neg ha
      rw [e] at st
      exact wpAny_pyNext_wide_end (I.ok.hd hc) st hx fun h' eb => ⟨rfl, I.turned (t' := s.toks) (fun b o hb e => eb b o hb e) f0 f1 f3 f4 f5⟩
  self := fun _ _ _ _ _ st h => by
    by_cases ha : x.cps.all (· < 128) = true
    · have e : strTy x = "str_ascii_iterator" := if_pos ha
      rw [e] at st
      exact wpAny_pyIter_striter_ascii st h
    · have e : strTy x = "str_iterator" := if_neg ha
      rw [e] at st
      exact wpAny_pyIter_striter_wide st h
noncomputable def iStr (tl : TE) : TI := fun σ H R => tl σ H fun x H1 => ∃ z, x = .str z ∧ R (Its z) H1
theorem pi_str {tg l : Expr} {tl : TE} (hl : PE X l tl) : PI X tg l (iStr tl) := by
  intro pins s σ H R I h
  refine thn (hl pins s σ H _ I h) fun v s1 hh106 => ?_
  obtain ⟨x, H1, I1, r1, q1⟩ := hh106
  obtain ⟨z, e, q⟩ := q1
  subst e
  obtain ⟨t, rfl⟩ := r1
  have fp : ∀ b ∈ [s1.heap.objs.size], FpOk X pins H1 b := fun b hb => by
    have e : b = s1.heap.objs.size := by simpa using hb
    subst e
    exact I1.fpOk (Nat.le_refl _) (I1.hok.fresh (Nat.le_refl _))
  by_cases ha : z.cps.all (· < 128) = true
  · refine wpAny_pyIter_ascii ha ?_
    exact ⟨s1.heap.objs.size, [s1.heap.objs.size], _, _, H1, rfl, I1.kept (t' := s1.toks) fun b o e => Heap.get?_push_of_some _ e, turn_str z t _, ⟨_, Heap.get?_push_size _ rfl, by unfold strTy; rw [if_pos ha], rfl⟩, fp, q⟩
  · have ha' : z.cps.all (· < 128) = false := by simpa using ha
    refine wpAny_pyIter_wide ha' ?_
    exact ⟨s1.heap.objs.size, [s1.heap.objs.size], _, _, H1, rfl, I1.kept (t' := s1.toks) fun b o e => Heap.get?_push_of_some _ e, turn_str z t _, ⟨_, Heap.get?_push_size _ rfl, by unfold strTy; rw [if_neg ha], rfl⟩, fp, q⟩
/-! ### int(text) -/
end
end L2

set_option genSizeOf false
/-! EXT 8: all(list of truths), split, text * int, join of a reversed list, a walk over zip of two lists. -/
namespace L2
open PySem PySem.Spec PyProof.Rows
section
variable {X : Cx}
theorem vals_bl {bs : List Bool} : ∀ {us : List Value}, Vals (bs.map V.bl) us → us = bs.map Value.bool := by
  induction bs with
  | nil => intro us r; rw [List.map_nil] at r; cases r; rfl
  | cons b bs ih =>
    intro us r
    rw [List.map_cons] at r
    cases r with
    | cons r1 r2 =>
      cases (show _ = Value.bool b from r1)
      rw [ih r2, List.map_cons]
theorem all_range (bs : List Bool) : (List.range bs.length).all (fun i => bs.getD i true) = bs.all id := by
  rw [Bool.eq_iff_iff, List.all_eq_true, List.all_eq_true]
  constructor
  · intro h b hb
    obtain ⟨i, hi, e⟩ := List.mem_iff_getElem.mp hb
    have := h i (List.mem_range.mpr hi)
    rw [List.getD_eq_getElem?_getD, List.getElem?_eq_getElem hi, Option.getD_some, e] at this
    exact this
  · intro h i hi
    rw [List.mem_range] at hi
    rw [List.getD_eq_getElem?_getD, List.getElem?_eq_getElem hi, Option.getD_some]
    exact h _ (List.getElem_mem hi)
theorem call_all_bl (hc : X.calm = true) : CallR X (.builtin "all") (fun xs H Q => ∃ (p : Addr) (bs : List Bool), xs = [.ref p] ∧ H p = some (.lst (bs.map V.bl)) ∧ Q (.bl (bs.all id)) H) := by
  intro pins s σ H xs us Q I r h
  obtain ⟨p, bs, rfl, hp, q⟩ := h
  obtain ⟨u, rfl, ru⟩ := Vals.one r
  cases (show u = .ref p from ru)
  obtain ⟨its, rv, pl, _⟩ := I.list (SqL.of hp)
  have e := vals_bl rv
  subst e
  have hne : p ≠ s.heap.objs.size := Nat.ne_of_lt (I.hok.lt hp)
  refine call_all_walk (wpAny_pyIter_list pl.isList ?_)
  refine ⟨s.heap.objs.size, _, _, _, _, _, fun i => bs.getD i true, rfl, Walks.list (A := X.A.in1) (I.ok.hd hc) s.heap.objs.size p hne _, ⟨⟨_, Heap.get?_push_size _ rfl, rfl, rfl⟩, pl.isList.push _⟩, fun i v s2 Q2 E2 hv hq => ?_, fun h' tk hk => ?_⟩
  · have hv' : (bs.map Value.bool)[i]? = some v := by simpa using hv
    rw [List.getElem?_map] at hv'
    cases hb : bs[i]? with
    | none => rw [hb] at hv'; cases hv'
    | some b =>
      rw [hb] at hv'
      cases hv'
      have hq' : Q2 (bs.getD i true) s2 := hq
      rw [show bs.getD i true = b by rw [List.getD_eq_getElem?_getD, hb]; rfl] at hq'
      exact wpAny_truthy_bool hq'
  · refine ⟨.bl (bs.all id), H, I.kept (t' := tk) fun b o e => hk b o (fun z => ?_) (Heap.get?_push_of_some _ e), ?_, q⟩
    · have : b = s.heap.objs.size := by simpa using z
      exact Nat.lt_irrefl _ (this ▸ Heap.lt_size e)
    · show Value.bool _ = Value.bool _
      rw [← all_range]
      simp
/-! ### text * int -/
/-! ### split -/
/-! ### reversed(list), and the join of it -/
namespace R8
end R8
noncomputable def tJR (z : Str) (te : TE) : TE := fun σ H Q => te σ H fun y H2 => ∃ (l : Addr) (ys : List Str), y = .ref l ∧ H2 l = some (.lst (ys.map V.str)) ∧ (ys.map (·.length)).sum + ys.length * z.length ≤ 16777216 ∧ Q (.str (Txt.join z ys.reverse)) H2
end
end L2

set_option genSizeOf false
/-! EXT 9: for a, b in zip(l1, l2). -/
namespace L2
open PySem PySem.Spec PyProof.Rows
section
variable {X : Cx} {pins : List (Addr × Obj)} {σ : St} {H : Hp} {s : Shared} {h' : Heap}
theorem Inv.turnedL {t' : Nat} {fp : List Addr} (I : Inv X pins σ H s) (k : ∀ b o, b ∉ fp → s.heap.get? b = some o → h'.get? b = some o) (hf : ∀ b ∈ fp, FpOk X pins H b) : Inv X pins σ H { s with heap := h', toks := t' } := by
  have nit : ∀ b u, H b = some u → b ∉ fp := fun b u e z => by rw [(hf b z).1] at e; cases e
  refine I.step (g' := s.gens) (d' := s.drawn) (ch := fp) (fun b hb => ?_) (fun b o _ _ hc e _ => k b o hc e) (fun b o _ _ hc e _ => ⟨o.slots, k b o hc e⟩) (fun _ _ _ _ n => n)
    (fun b o hc e => ⟨o, k b o hc e⟩) (fun _ _ e => e) (fun _ _ _ e => e) (fun b ps e => ⟨#[], by rw [e]; simp⟩) (fun m hm => ?_) (fun b u e => ?_) I.bare
  · obtain ⟨f0, f1, f2, f3, f4, f5⟩ := hf b hb
    exact ⟨f3, f1, f4, f5⟩
  · obtain ⟨o, es, ep, ho, r⟩ := hm
    exact ⟨o, es, ep, k _ o (fun z => (hf _ z).2.1 rfl) ho, r⟩
  · refine (I.hok b u e).stay (fun c v hc q => k c v ?_ q) (fun _ q => q) fun _ _ q => q
    rcases hc with z | z
    · rw [z]; exact nit b u e
    · exact nit c _ z
noncomputable def Itz (a b : Addr) : It :=
  ⟨fun i H => ∃ xs ys x y, H a = some (.lst xs) ∧ H b = some (.lst ys) ∧ xs[i]? = some x ∧ ys[i]? = some y,
   fun i H v H' => ∃ T xs ys x y, v = .ref T ∧ H T = none ∧ H' = upd H T (.tup [x, y]) ∧ H a = some (.lst xs) ∧ H b = some (.lst ys) ∧ xs[i]? = some x ∧ ys[i]? = some y,
   fun i H => ∃ xs ys, H a = some (.lst xs) ∧ H b = some (.lst ys) ∧ (xs.length ≤ i ∨ ys.length ≤ i), false⟩
noncomputable def iZip (ta : TA) : TI := fun σ H R => ta σ H fun vs H1 => ∃ (a b : Addr) (xs ys : List V), vs = [.ref a, .ref b] ∧ H1 a = some (.lst xs) ∧ H1 b = some (.lst ys) ∧ R (Itz a b) H1
end
end L2

set_option genSizeOf false
/-! EXT 10: a try whose body goes several ways; isinstance(x, (A, B)). -/
namespace L2
open PySem PySem.Spec PyProof.Rows
section
variable {X : Cx}
/-- statements that may raise, with the variables as they were -/
noncomputable def PSX (X : Cx) (E : XK) (sts : List Stmt) (t : TS) : Prop :=
  ∀ (pins : List (Addr × Obj)) (s : Shared) (σ : St) (H : Hp) (D : Ends), Inv X pins σ H s → t D σ H →
    wpAny (model X.prog X.w) X.A (execs sts X.env) (SP X pins D) (fun e s' => ∃ H1 s1, Inv X pins σ H1 s1 ∧ XCx X.prog X.w X.stack H1 s1 E e s') s
theorem psx_expr {E : XK} {c0 : Expr} {t : TE} {p1 : Pos} (hc : PEX X E c0 t) (hsw : swapsWith c0 none p1.line X.env = pure false := by rfl) : PSX X E [.Expr c0 p1] (fun D σ H => t σ H fun _ H1 => D.nx σ H1) := by
  intro pins s σ H D I h
  exact wpAny_execs_cons (wpAny_Expr_any (wpAny_mono (hc pins s σ H _ I h) (fun v s1 hh110 => (by obtain ⟨y, H1, I1, r1, q1⟩ := hh110; exact wpAny_execs_nil ⟨σ, H1, I1, q1⟩)) fun e s' hx => hx) I.quiet hsw)
theorem psx_ret {E : XK} {c0 : Expr} {t : TE} {p1 : Pos} (hc : PEX X E c0 t) : PSX X E [.Return (some c0) p1] (fun D σ H => t σ H D.rt) := by
  intro pins s σ H D I h
  exact wpAny_execs_cons (wpAny_Return_some (wpAny_mono (hc pins s σ H _ I h) (fun v s1 hh111 => (by obtain ⟨y, H1, I1, r1, q1⟩ := hh111; exact ⟨y, σ, H1, I1, r1, q1⟩)) fun e s' hx => hx))
theorem psx_if {E : XK} {c : Expr} {a b : List Stmt} {tc : TT} {t u : TS} {pos : Pos} (hc : PT X.nox c tc) (ha : PSX X E a t) (hb : PSX X E b u) : PSX X E [.If c a b pos] (tIfS tc t u) := by
  intro pins s σ H D I h
  refine wpAny_execs_cons (wpAny_If (wpAny_mono (hc pins s σ H _ (I.wish _) h) (fun d s1 hh112 => ?_) fun _ _ z => False.elim z))
  obtain ⟨H1, I1, q1⟩ := hh112
  have J := I1.unwish
  have nil : ∀ f s2, SP X pins D f s2 → (match f with | .next => wpAny (model X.prog X.w) X.A (execs [] X.env) (SP X pins D) (fun e s' => ∃ H1 s1, Inv X pins σ H1 s1 ∧ XCx X.prog X.w X.stack H1 s1 E e s') s2 | f => SP X pins D f s2) := fun f s2 h2 => by
    cases f with
    | next => exact wpAny_execs_nil h2
    | _ => exact h2
  cases d with
  | true => exact wpAny_mono (ha pins s1 σ H1 D J q1) (fun f s2 h2 => nil f s2 h2) fun _ _ z => z
  | false => exact wpAny_mono (hb pins s1 σ H1 D J q1) (fun f s2 h2 => nil f s2 h2) fun _ _ z => z
/-- try: ways of calls / except C as n: return .. -/
theorem ps_tryG {x n : Str} {np hpos pos : Pos} {body : List Stmt} {b₀ : Stmt} {suite : List Stmt} {i : Nat} {ts : Addr → TS} {tb : XK → TS} {c : Value} {v0 : V}
    (hst : X.stack = X.env :: X.outer) (hf : X.env.frame = some X.env.locals) (hc : ∀ E, PSX X E body (tb E)) (hg : Gl X x) (hm : X.mg x = some c) (rc : RelV v0 c) (hs : ∀ e, PSs (cxS X e) (b₀ :: suite) (ts e)) (hN : X.N.Nodup) (hi : X.N[i]? = some n)
    (hl : X.env.scope.names.lookup n = some .local) (hdb : (x == ("__debug__" : Str)) = false := by decide) :
    PS X (.Try body [.ExceptHandler (some (.Name x np)) (some n) (b₀ :: suite) hpos] [] [] pos) (fun D σ H => tb (xTry X.K c i ts D σ) D σ H) := by
  intro pins s σ H D I h
  refine wpAny_Try_except (wpAny_mono (hc _ pins s σ H D I h) (fun f s1 h1 => ?_) fun e s' hh113 => (by obtain ⟨H1, s1, I1, hx⟩ := hh113; exact handle hst hf hg hm rc hs hN hi hl I1 hx hdb))
  cases f with
  | next => exact wpAny_execs_nil h1
  | _ => exact h1
/-! ### isinstance(x, (A, B)) -/
theorem vals_ty {Ts : List String} : ∀ {us : List Value}, Vals (Ts.map V.ty) us → us = Ts.map Value.type := by
  induction Ts with
  | nil => intro us r; rw [List.map_nil] at r; cases r; rfl
  | cons b bs ih =>
    intro us r
    rw [List.map_cons] at r
    cases r with
    | cons r1 r2 =>
      cases (show _ = Value.type b from r1)
      rw [ih r2, List.map_cons]
theorem isinst_tup {pins : List (Addr × Obj)} {σ : St} {H : Hp} {s : Shared} {A : Around} {Q : Value → Shared → Prop} {E : Value → Shared → Prop} {b : Bool} {x : V} {u t : Value} {p : Addr} {Ts : List String} (I : Inv X pins σ H s) (rx : RelV x u) (ty : TyOf X.K H x t) (hp : H p = some (.tup (Ts.map V.ty)))
    (e : PySem.W.kitAny X.K t (Ts.map Value.type) = some b) (h : ∀ tk, Q (.bool b) { s with toks := tk }) : wpAny (model X.prog X.w) A (call (.builtin "isinstance") [u, .ref p]) Q E s := by
  obtain ⟨_, its, rv, o, ho, hc, n, hd⟩ := (show ObjOk X.prog X.w H s.heap p (.tup (Ts.map V.ty)) from I.hok p _ hp)
  have ei := vals_ty rv
  subst ei
  have htp : s.heap.get? p = some ⟨.type "tuple", o.dict, .seq (Ts.map Value.type).toArray n, o.slots⟩ := by
    rw [ho, ← hc, ← hd]
  cases ty with
  | non => cases (show u = Value.none from rx); exact PySem.W.kia_tup PySem.W.kitx_none I.kIn True.intro htp e (fun z => nomatch z) h
  | bl y => cases (show u = Value.bool y from rx); exact PySem.W.kia_tup PySem.W.kitx_bool I.kIn True.intro htp e (fun z => nomatch z) h
  | int i => obtain ⟨t, q⟩ := (show ∃ t, u = Value.int i t from rx); cases q; exact PySem.W.kia_tup PySem.W.kitx_int I.kIn True.intro htp e (fun z => nomatch z) h
  | str y => obtain ⟨t, q⟩ := (show ∃ t, u = Value.str y t from rx); cases q; exact PySem.W.kia_tup PySem.W.kitx_str I.kIn True.intro htp e (fun z => nomatch z) h
  | flt y => obtain ⟨t, q⟩ := (show ∃ t, u = Value.float y t from rx); cases q; exact PySem.W.kia_tup PySem.W.kitx_float I.kIn True.intro htp e (fun z => nomatch z) h
  | @lst a xs ea =>
    cases (show u = Value.ref a from rx)
    obtain ⟨_, _, n, _, h1⟩ := (show ObjOk X.prog X.w H s.heap a (.lst xs) from I.hok a _ ea)
    exact PySem.W.kia_tup PySem.W.kitx_list I.kIn ⟨_, h1, rfl⟩ htp e (fun z => nomatch z) h
  | @frz a ob xs ea =>
    cases (show u = Value.ref a from rx)
    obtain ⟨_, _, _, n, _, h1⟩ := (show ObjOk X.prog X.w H s.heap a (.frz ob (.lst xs)) from I.hok a _ ea)
    exact PySem.W.kia_tup PySem.W.kitx_list I.kIn ⟨_, h1, rfl⟩ htp e (fun z => nomatch z) h
  | @tup a xs ea =>
    cases (show u = Value.ref a from rx)
    obtain ⟨_, _, _, p⟩ := (show ObjOk X.prog X.w H s.heap a (.tup xs) from I.hok a _ ea)
    obtain ⟨o, h1, h2, _⟩ := p
    exact PySem.W.kia_tup PySem.W.kitx_tuple I.kIn ⟨o, h1, h2⟩ htp e (fun z => nomatch z) h
  | @dK a kvs ea =>
    cases (show u = Value.ref a from rx)
    obtain ⟨_, _, vs, _, p⟩ := (show ObjOk X.prog X.w H s.heap a (.dK kvs) from I.hok a _ ea)
    obtain ⟨o, es, ep, h1, h2, _⟩ := p
    exact PySem.W.kia_tup PySem.W.kitx_dict I.kIn ⟨o, h1, h2.1⟩ htp e (fun z => nomatch z) h
  | @dT a kvs ea =>
    cases (show u = Value.ref a from rx)
    obtain ⟨_, _, xs, _, o, es, ep, h1, h2, _⟩ := (show ObjOk X.prog X.w H s.heap a (.dT kvs) from I.hok a _ ea)
    exact PySem.W.kia_tup PySem.W.kitx_dict I.kIn ⟨o, h1, h2.1⟩ htp e (fun z => nomatch z) h
  | @ins a C dx fs ea cl ha hn htk hm =>
    cases (show u = Value.ref a from rx)
    obtain ⟨mA, O, _⟩ := ins_get I.hok ea
    obtain ⟨od, J, _⟩ := O.look
    exact PySem.W.kia_tup (PySem.W.kitx_own (cl.get _) cl.hd ha hn htk hm) I.kIn J htp e (fun z => nomatch z) h
theorem call_isinstT (K : PySem.W.Frag) (hK : X.K = K) : CallR X (.builtin "isinstance") (fun xs H Q => ∃ (x : V) (p : Addr) (t : Value) (b : Bool) (Ts : List String), xs = [x, .ref p] ∧ H p = some (.tup (Ts.map V.ty)) ∧ TyOf K H x t ∧ PySem.W.kitAny K t (Ts.map Value.type) = some b ∧ Q (.bl b) H) := by
  subst hK
  intro pins s σ H xs us Q I r h
  obtain ⟨x, p, t, b, Ts, rfl, hp, ty, e, q⟩ := h
  obtain ⟨u, w', rfl, rx, rc⟩ := Vals.two r
  cases (show w' = .ref p from rc)
  exact isinst_tup I rx ty hp e fun tk => ⟨.bl b, H, I.tok tk, rfl, q⟩
end
end L2

set_option genSizeOf false
/-! EXT 11: sum(list of numbers); for i, c in enumerate(text). -/
namespace L2
open PySem PySem.Spec PyProof.Rows
section
variable {X : Cx}
theorem call_sum_ints (hc : X.calm = true) : CallR X (.builtin "sum") (fun xs H Q => ∃ (p : Addr) (ns : List Int), xs = [.ref p] ∧ H p = some (.lst (ns.map V.int)) ∧ (∀ j, j < ns.length → InLong (ns.getD j 0) ∧ InLong (preSum (fun i => ns.getD i 0) (j + 1))) ∧ Q (.int (preSum (fun i => ns.getD i 0) ns.length)) H) := by
  intro pins s σ H xs us Q I r h
  obtain ⟨p, ns, rfl, hp, hL, q⟩ := h
  obtain ⟨u, rfl, ru⟩ := Vals.one r
  cases (show u = .ref p from ru)
  obtain ⟨its, rv, pl, _⟩ := I.list (SqL.of hp)
  have hplt := I.hok.lt hp
  have hne : p ≠ s.heap.objs.size := Nat.ne_of_lt hplt
  have hl : its.length = ns.length := by rw [← rv.length, List.length_map]
  refine call_sum_walk (wpAny_pyIter_list pl.isList ?_)
  refine ⟨s.heap.objs.size, _, _, _, _, _, fun i => ns.getD i 0, rfl, Walks.list (A := X.A.in1) (I.ok.hd hc) s.heap.objs.size p hne its.toArray, ⟨⟨_, Heap.get?_push_size _ rfl, rfl, rfl⟩, pl.isList.push _⟩, fun b hb => ?_, fun i v hv => ?_, fun j hj => hL j (by simpa [hl] using hj), fun h' tk t' hk => ?_⟩
  · rw [Heap.size_push]
    rcases List.mem_cons.mp hb with e | e
    · rw [e]; exact Nat.lt_succ_self _
    · rw [List.mem_singleton.mp e]; exact Nat.lt_succ_of_lt hplt
  · have hv' : its[i]? = some v := by simpa using hv
    have hi : i < ns.length := by rw [← hl]; exact (List.getElem?_eq_some_iff.mp hv').1
    obtain ⟨u, hu, t, e⟩ := rv.get (show (ns.map V.int)[i]? = some (V.int (ns.getD i 0)) by rw [List.getElem?_map, List.getD_eq_getElem?_getD, List.getElem?_eq_getElem hi]; rfl)
    rw [hv'] at hu
    cases hu
    exact ⟨t, e⟩
  · have en : its.toArray.size = ns.length := by simp [hl]
    rw [en]
    exact ⟨.int _, H, I.kept (t' := tk) fun b o e => hk b o (fun z => by
      have : b = s.heap.objs.size := by simpa using z
      exact Nat.lt_irrefl _ (this ▸ Heap.lt_size e)) (Heap.get?_push_of_some _ e), ⟨_, rfl⟩, q⟩
/-! ### enumerate(text) -/
noncomputable def Ite (x : Str) : It :=
  ⟨fun i _ => i < x.length,
   fun i H v H' => ∃ T c, v = .ref T ∧ H T = none ∧ H' = upd H T (.tup [.int i, .str ⟨#[c]⟩]) ∧ x.cps[i]? = some c,
   fun i _ => x.length = i, false⟩
theorem turn_enum {P : Program} {w : World} {K : PySem.W.Frag} {elts : List Expr} {x1} {pos : Pos} (x : Str) (t : Tok) (it e : Nat) (he : e = it + 1) :
    Turn P w K (.Tuple elts x1 pos) (Ite x) [it, e] e (fun i h => (∃ old, IsEnum h e it (i : Nat) old) ∧ h.IsStrIter it (strIterType x) x t i) where
  mem := by simp
  obj := fun i h st c hc => by
    obtain ⟨⟨old, s1⟩, s2⟩ := st
    simp only [List.mem_cons, List.not_mem_nil, or_false] at hc
    rcases hc with rfl | rfl
    · obtain ⟨o, e, c, d⟩ := s2
      exact ⟨o, e, fun v z => by rw [d] at z; cases z⟩
    · exact ⟨_, s1, fun v z => by cases z⟩
  keep := fun i h h' st k => by
    obtain ⟨⟨old, s1⟩, o, q, c, d⟩ := st
    exact ⟨⟨old, k e (by simp) _ s1⟩, o, k it (by simp) o q, c, d⟩
  item := by
    intro X hP hw hK hc i pins s σ H E I hf st hg
    subst hP hw hK
    obtain ⟨⟨old, s1⟩, s2⟩ := st
    have hc := hc.resolve_right fun z => Bool.noConfusion (show false = true from z.1)
    have hei : e ≠ it := by rw [he]; exact Nat.succ_ne_self it
    have hlt : i < x.length := hg
    have fin : ∀ (Pr : Nat → Value → Prop) (St : Nat → Heap → Prop), Draws X.prog X.w X.A.in1 it [it] x.length Pr St → St i s.heap → (∀ h, St (i + 1) h → h.IsStrIter it (strIterType x) x t (i + 1)) → (∀ v, Pr i v → ∃ c tk, x.cps[i]? = some c ∧ v = .str ⟨#[c]⟩ tk) →
        wpAny (model X.prog X.w) X.A (pyNext (.ref e)) (fun r s1 => ∃ u, r = some u ∧ wpAny (model X.prog X.w) X.A (letOwnedTupleGo (.Tuple elts x1 pos) (.ref e) u) (fun _ s2 => ∃ y H', Inv X pins σ H' s2 ∧ RelV y u ∧ (Ite x).yld i H y H' ∧ ((∃ old, IsEnum s2.heap e it ((i + 1 : Nat) : Int) old) ∧ s2.heap.IsStrIter it (strIterType x) x t (i + 1)) ∧ ∀ b ∈ [it, e], H' b = none) E s1) E s := fun Pr St D hst hs hv => by
      refine wpAny_pyNext_enum_itemD D s1 hst hlt hei (by simpa using hei) fun v h' tk hP z1 z2 z3 z4 z5 => ?_
      obtain ⟨c, tk2, hcx, rfl⟩ := hv v hP
      refine ⟨_, rfl, wpAny_letOwnedTupleGo_enum z1 fun g2 y1 sb => ?_⟩
      have hel : e < s.heap.objs.size := Heap.lt_size s1
      have hil : it < s.heap.objs.size := by obtain ⟨o, q, _⟩ := s2; exact Heap.lt_size q
      have nz : s.heap.objs.size ≠ e := Nat.ne_of_gt hel
      have I1 : Inv X pins σ (upd H s.heap.objs.size (.tup [.int i, .str ⟨#[c]⟩])) { s with heap := s.heap.push { cls := .type "tuple", data := .seq #[.int i tk, .str ⟨#[c]⟩ tk2] }, toks := tk + 1 } :=
        I.laid (t' := tk + 1) (fun b u q => Heap.get?_push_of_some _ q) (Nat.le_refl _) ⟨by rw [sizeLine_eq]; simp, [.int i tk, .str ⟨#[c]⟩ tk2], .cons ⟨_, rfl⟩ (.cons ⟨_, rfl⟩ .nil), ⟨_, Heap.get?_push_size _ rfl, rfl, _, rfl⟩⟩
      have hfr : ∀ b ∈ [it, e], b < s.heap.objs.size := fun b hb => by
        rcases List.mem_cons.mp hb with q | q
        · rw [q]; exact hil
        · rw [List.mem_singleton.mp q]; exact hel
      have hf1 : ∀ b ∈ [it, e], FpOk X pins (upd H s.heap.objs.size (.tup [.int i, .str ⟨#[c]⟩])) b := fun b hb => by
        obtain ⟨f0, f1⟩ := hf b hb
        exact ⟨by rw [upd_ne (Nat.ne_of_lt (hfr b hb))]; exact f0, f1⟩
      have I2 : Inv X pins σ (upd H s.heap.objs.size (.tup [.int i, .str ⟨#[c]⟩])) { s with heap := g2, toks := tk + 1 } := Inv.turnedL (s := { s with heap := s.heap.push { cls := .type "tuple", data := .seq #[.int i tk, .str ⟨#[c]⟩ tk2] }, toks := tk + 1 }) (t' := tk + 1) I1 (fun b o hb q => ?_) hf1
      · refine ⟨.ref s.heap.objs.size, _, I2, rfl, ⟨s.heap.objs.size, c, rfl, I.fresh, rfl, hcx⟩, ⟨⟨_, y1⟩, ?_⟩, fun b hb => (hf1 b hb).1⟩
        obtain ⟨o, q, r1, r2⟩ := hs _ z2
        exact ⟨o, (sb.2 _ (Ne.symm hei)).trans q, r1, r2⟩
      · have hb1 : b ≠ it := fun z => hb (by simp [z])
        have hb2 : b ≠ e := fun z => hb (by simp [z])
        rw [sb.2 _ hb2]
        by_cases hcs : b = s.heap.objs.size
        · subst hcs
          rw [Heap.get?_push_size _ rfl] at q
          rw [z3]; exact q
        · exact z5 _ _ hb2 hb1 ((Heap.get?_push_ne _ _ _ hcs).symm.trans q)
    by_cases ha : x.cps.all (· < 128) = true
    · have et : strIterType x = "str_ascii_iterator" := if_pos ha
      exact fin _ _ (Draws.strAscii (A := X.A.in1) (I.ok.hd hc) it x t) (by rw [et] at s2; exact s2) (fun h q => by rw [et]; exact q) fun v hv => hv
    · have et : strIterType x = "str_iterator" := if_neg ha
      exact fin _ _ (Draws.strWide (A := X.A.in1) (I.ok.hd hc) it x t) (by rw [et] at s2; exact s2) (fun h q => by rw [et]; exact q) fun v hv => hv
  done := by
    intro X hP hw hK hc i pins s σ H E I hf st hg
    subst hP hw hK
    obtain ⟨⟨old, s1⟩, s2⟩ := st
    have hc := hc.resolve_right fun z => Bool.noConfusion (show false = true from z.1)
    have hi : x.cps.size = i := hg
    subst hi
    have fin : ∀ h', Heap.ExtBut it s.heap h' → (none : Option Value) = none ∧ Inv X pins σ H { s with heap := h' } := fun h' eb =>
      ⟨rfl, Inv.turnedL (t' := s.toks) I (fun b o hb q => eb b o (fun z => hb (by simp [z])) q) hf⟩
    by_cases ha : x.cps.all (· < 128) = true
    · have et : strIterType x = "str_ascii_iterator" := if_pos ha
      exact wpAny_pyNext_enum_endD (Draws.strAscii (A := X.A.in1) (I.ok.hd hc) it x t) s1 (by rw [et] at s2; exact s2) fin
    · have et : strIterType x = "str_iterator" := if_neg ha
      exact wpAny_pyNext_enum_endD (Draws.strWide (A := X.A.in1) (I.ok.hd hc) it x t) s1 (by rw [et] at s2; exact s2) fin
  self := fun _ _ _ _ _ st h => by
    obtain ⟨⟨old, s1⟩, s2⟩ := st
    exact wpAny_pyIter_enum s1 h
noncomputable def iEnum (te : TE) : TI := fun σ H R => te σ H fun v H1 => ∃ z, v = .str z ∧ R (Ite z) H1
theorem pi_enum {elts : List Expr} {x1} {tpos : Pos} {e1 : Expr} {te : TE} {p pos : Pos} (hg : Gl X "enumerate") (hm : X.mg "enumerate" = none) (he : PE X e1 te) (hs : starEach [e1] X.env = (false, eval e1 X.env) :: starEach [] X.env := by rfl)
    (hpl : (backTo pos (starEach [] X.env)).any (·.1) = false := by rfl) : PI X (.Tuple elts x1 tpos) (.Call (.Name "enumerate" p) [e1] [] pos) (iEnum te) := by
  intro pins s σ H R I h
  refine wpAny_Call_Name_kw (ld_blt I hg hm (u := .type "enumerate") (by decide) ?_ (by decide) (by decide))
  refine PyProof.Rows.callWith_type1 (thn (pa_cons he pa_nil hs pos pins s σ H (fun xs H1 => match xs with | [v] => ∃ z, v = .str z ∧ R (Ite z) H1 | _ => False) I h) fun us s1 hh114 => ?_) hs hpl
  obtain ⟨vs, H1, I1, r1, q1⟩ := hh114
  match vs, q1, r1 with
  | [v], q1, r1 =>
  obtain ⟨z, rfl, q⟩ := q1
  obtain ⟨u, rfl, t, rfl⟩ := Vals.one r1
  refine call_enumerate_str fun h' z1 z2 z3 z4 => ?_
  have I2 : Inv X pins σ H1 { s1 with heap := h', toks := s1.toks } := I1.kept (t' := s1.toks) z4
  refine wpAny_pyIter_enum z1 ?_
  refine ⟨s1.heap.objs.size + 1, _, _, Ite z, H1, rfl, I2, turn_enum z t s1.heap.objs.size _ rfl, ⟨⟨_, z1⟩, z2⟩, fun c hc => ?_, q⟩
  have hc' : s1.heap.objs.size ≤ c := by
    rcases List.mem_cons.mp hc with q | q
    · rw [q]; exact Nat.le_refl _
    · rw [List.mem_singleton.mp q]; exact Nat.le_succ _
  exact I1.fpOk hc' (I1.hok.fresh hc')
end
end L2

set_option genSizeOf false
/-! EXT 12: range(lo, hi, step), the step a small number above nought. -/
namespace L2
open PySem PySem.Spec PyProof.Rows
/-- lo, lo + c, .. (n of them) -/
noncomputable def ItrS (lo c : Int) (n : Nat) : It := ⟨fun i _ => i < n, fun i H x H' => H' = H ∧ x = .int (lo + i * c), fun i _ => n ≤ i, false⟩
theorem turn_rangeS {P : Program} {w : World} {K : PySem.W.Frag} {tg : Expr} (it : Addr) (lo c : Int) (n : Nat) : Turn P w K tg (ItrS lo c n) [it] it (fun i h => IsRangeIter h it (lo + (i : Nat) * c) ((n : Int) - (i : Nat)) c) where
  mem := by simp
  obj := fun i h st b hb => by
    have e : b = it := by simpa using hb
    subst e
    exact ⟨_, st, fun v z => by
      have z' : Data.fields _ = Data.cell v := z
      cases z'⟩
  keep := fun i h h' st k => k it (by simp) _ st
  item := by
    intro X hP hw hK hc i pins s σ H E I hf st hg
    subst hP hw hK
    obtain ⟨f0, f1, f2, f3, f4, f5⟩ := hf it (by simp)
    have hc := hc.resolve_right fun z => Bool.noConfusion (show false = true from z.1)
    have W := Walks.range (prog := X.prog) (w := X.w) (I.ok.hd hc) it lo c n
    refine W.item i s _ _ hg st fun v h' tk hv st' kk => ?_
    obtain ⟨t, rfl⟩ := hv
    have I1 : Inv X pins σ H { s with heap := h', toks := tk } := I.turned (fun b o hb e => kk b o (by simpa using hb) e) f0 f1 f3 f4 f5
    exact ⟨_, rfl, go_of (s := { s with heap := h', toks := tk }) (n := "range_iterator") st' rfl rfl (by decide) ⟨.int (lo + i * c), H, I1, ⟨t, rfl⟩, ⟨rfl, rfl⟩, st', fun b hb => (hf b hb).1⟩⟩
  done := by
    intro X hP hw hK hc i pins s σ H E I hf st hg
    subst hP hw hK
    obtain ⟨f0, f1, f2, f3, f4, f5⟩ := hf it (by simp)
    have hc := hc.resolve_right fun z => Bool.noConfusion (show false = true from z.1)
    exact wpAny_pyNext_range_end (I.ok.hd hc) st (by have : n ≤ i := hg; (first | lia | omega)) fun h' eb => ⟨rfl, I.turned (t' := s.toks) (fun b o hb e => eb b o hb e) f0 f1 f3 f4 f5⟩
  self := fun _ _ _ _ _ st h => wpAny_pyIter_rangeiter st h
section
variable {X : Cx} {tg : Expr}
noncomputable def iRng3 (ta : TA) : TI := fun σ H R => ta σ H fun vs H1 => ∃ i j c : Int, vs = [.int i, .int j, .int c] ∧ 0 < c ∧ c < 1000 ∧ Builtin.Range.small i j c = true ∧ 0 ≤ Builtin.Range.rangeSize i j c ∧ R (ItrS i c (Builtin.Range.rangeSize i j c).toNat) H1
theorem pi_range3 {a b c : Expr} {ta : TA} {p pos : Pos} (hg : Gl X "range") (hm : X.mg "range" = none) (ha : PA X [a, b, c] ta) (hs : starEach [a, b, c] X.env = (false, eval a X.env) :: starEach [b, c] X.env := by rfl) (hpl : (backTo pos (starEach [b, c] X.env)).any (·.1) = false := by rfl) :
    PI X tg (.Call (.Name "range" p) [a, b, c] [] pos) (iRng3 ta) := by
  intro pins s σ H R I h
  refine Call_ (ld_blt I hg hm boot_range (PyProof.Rows.callWith_type1 (thn (ha pos pins s σ H _ I h) fun us s1 hh115 => ?_) hs hpl))
  obtain ⟨vs, H1, I1, r1, q1⟩ := hh115
  obtain ⟨i, j, c, e, c0, c1, hsm, hnn, q⟩ := q1
  subst e
  cases r1 with
  | cons r rr =>
    cases rr with
    | cons r' rr =>
      cases rr with
      | cons r'' rr =>
        cases rr
        obtain ⟨t, rfl⟩ := r
        obtain ⟨t', rfl⟩ := r'
        obtain ⟨t'', rfl⟩ := r''
        refine call_range_3 (by (first | lia | omega)) ?_ (Or.inl (PyProof.noPylong_small (by (first | lia | omega))))
        refine wpAny_pyIter_range (IsRange.new ..) hsm ?_
        have I2 : Inv X pins σ H1 { s1 with heap := s1.heap.push { cls := .type "range", data := .fields #[.int i t, .int j t', .int c t''] }, toks := s1.toks } := I1.kept fun b o e => Heap.get?_push_of_some _ e
        refine ⟨(s1.heap.push { cls := .type "range", data := .fields #[.int i t, .int j t', .int c t''] }).objs.size, [(s1.heap.push { cls := .type "range", data := .fields #[.int i t, .int j t', .int c t''] }).objs.size], _, _, H1, rfl,
          I2.kept (t' := s1.toks) fun b o e => Heap.get?_push_of_some _ e, turn_rangeS _ i c (Builtin.Range.rangeSize i j c).toNat, ?_, fun b hb => ?_, q⟩
        · have e1 : i + ((0 : Nat) : Int) * c = i := by simp
          have e2 : (((Builtin.Range.rangeSize i j c).toNat : Nat) : Int) - ((0 : Nat) : Int) = Builtin.Range.rangeSize i j c := by (first | lia | omega)
          show IsRangeIter _ _ (i + ((0 : Nat) : Int) * c) ((((Builtin.Range.rangeSize i j c).toNat : Nat) : Int) - ((0 : Nat) : Int)) c
          rw [e1, e2]
          exact Heap.get?_push_size _ rfl
        · have e : b = (s1.heap.push { cls := .type "range", data := .fields #[.int i t, .int j t', .int c t''] }).objs.size := by simpa using hb
          subst e
          exact I2.fpOk (Nat.le_refl _) (I2.hok.fresh (Nat.le_refl _))
end
end L2

set_option genSizeOf false
/-! EXT 13: a comprehension whose one target is a cell (a comprehension within it reads it). -/
namespace L2
open PySem PySem.Spec PyProof.Rows
noncomputable def cxD (X : Cx) (x0 : Str) (N : List Str) (scope : Scope) (C : Addr) (s₂ : Shared) (H₂ : Hp) (fp : List Addr) : Cx where
  prog := X.prog
  w := X.w
  K := X.K
  mg := X.mg
  base := X.base
  A := X.A
  N := N
  s₀ := s₂
  H₀ := H₂
  env := compEnvC scope ((x0, C + 1) :: clOf scope.names X.env) C X.env
  outer := X.stack
  stack := X.stack
  ex := fp
  fn := fun x => x == x0
  calm := X.calm
  suit := X.suit
  pn := []
  xe := fun _ _ => False
structure CompOkD (X : Cx) (scope : Scope) (x0 : Str) : Prop where
  kind : scope.kind = .function
  clos : closureFor scope X.env = pure (clOf scope.names X.env)
  cell1 : ∀ y ∈ scope.names, y.2 = .cell → y.1 = x0
  notf : ∀ y ∈ scope.names, y.2 = .free → y.1 ≠ x0
  own : ∀ n cl, cellsFrom n scope.names cl = (x0, n) :: cl
  psh : ∀ h : Heap, pushCells h scope.names = h.push { cls := .type "cell", data := .cell none }
  names : ∀ y ∈ scope.names, y.2 = .local → scope.names.lookup y.1 = some .local
  free : ∀ y ∈ scope.names, y.2 = .free → (X.env.cells.lookup y.1).isSome = true
theorem clOf_lookupD {X : Cx} {scope : Scope} {x0 : Str} (ok : CompOkD X scope x0) {x : Str} {c : Addr} (h : (clOf scope.names X.env).lookup x = some c) : X.env.cells.lookup x = some c := by
  unfold clOf at h
  obtain ⟨e, a, m⟩ := lookup_mapV (f := fun n => (X.env.cells.lookup n).getD 0) h
  have m' := List.mem_filter.mp (List.mem_reverse.mp m)
  have fr := ok.free _ m'.1 (by simpa using m'.2)
  cases q : X.env.cells.lookup x with
  | none => rw [q] at fr; cases fr
  | some d => rw [e, q]; rfl
theorem lookupD {x0 x : Str} {n c : Addr} {cl : List (Str × Addr)} (h : ((x0, n) :: cl).lookup x = some c) : (x = x0 ∧ c = n) ∨ (x ≠ x0 ∧ cl.lookup x = some c) := by
  rw [List.lookup_cons] at h
  cases hx : x == x0 with
  | true =>
    rw [hx] at h
    exact .inl ⟨beq_iff_eq.mp hx, (Option.some.inj h).symm⟩
  | false =>
    rw [hx] at h
    exact .inr ⟨fun z => by rw [z] at hx; simp at hx, h⟩
theorem lookupD_ne {x0 x : Str} {n : Addr} {cl : List (Str × Addr)} (h : x ≠ x0) : ((x0, n) :: cl).lookup x = cl.lookup x := by
  rw [List.lookup_cons, beq_false_of_ne h]
theorem lookupD_eq {x0 : Str} {n : Addr} {cl : List (Str × Addr)} : ((x0, n) :: cl).lookup x0 = some n := by
  rw [List.lookup_cons, beq_self_eq_true]
theorem wpAny_newEnvD {M : Model} {A : Around} {E : Value → Shared → Prop} {s : Shared} {scope : Scope} {globals : Addr} {closure : List (Str × Addr)} {qual : Str} {func : Option Addr} {code : Value} {env0 : Env} {x0 : Str} {Q : Env → Shared → Prop}
    (own : ∀ n cl, cellsFrom n scope.names cl = (x0, n) :: cl) (psh : ∀ h : Heap, pushCells h scope.names = h.push { cls := .type "cell", data := .cell none })
    (hQ : ∀ h', h'.Ns s.heap.objs.size (fun _ => none) → (∀ b o, s.heap.get? b = some o → h'.get? b = some o) → h'.IsCell (s.heap.objs.size + 1) none →
      Q (newEnv scope s.heap.objs.size globals ((x0, s.heap.objs.size + 1) :: closure) qual func code (some env0) builtinsNs) { s with heap := h' }) :
    wpAny M A (newFunctionEnv scope globals closure [] qual func code (some env0)) Q E s := by
  simp only [newFunctionEnv, Option.isSome_some, if_true]
  refine wpAny_bind (wpAny_alloc ?_)
  refine wpAny_bind (wpAny_layCells _ (fun name kind cells => by cases hkc : kind == NameKind.cell <;> simp [hkc]) _ _ _ _ ?_)
  rw [own, psh]
  have hsz : (s.heap.push { cls := .type "dict", data := .dict #[] }).objs.size = s.heap.objs.size + 1 := Heap.size_push ..
  refine wpAny_bind ?_
  rw [List.forIn_nil]
  refine wpAny_pure (wpAny_pure ?_)
  show Q (newEnv scope s.heap.objs.size globals ((x0, (s.heap.push { cls := .type "dict", data := .dict #[] }).objs.size) :: closure) qual func code (some env0) builtinsNs) _
  rw [hsz]
  refine hQ _ ((Heap.Ns.new s.heap (.type "dict")).keeps fun b o e => Heap.get?_push_of_some _ e) (fun b o e => Heap.get?_push_of_some _ (Heap.get?_push_of_some _ e)) ?_
  rw [← hsz]
  exact ⟨_, Heap.get?_push_size _ rfl, rfl⟩
theorem comp_startD {x0 : Str} {X : Cx} {pins : List (Addr × Obj)} {σ : St} {H2 : Hp} {s₂ : Shared} {scope : Scope} {fp : List Addr} {ts xs : List Str} {js : List Nat} {h₁ : Heap} {C : Addr} {tk : Nat}
    (I : Inv X pins σ H2 s₂) (ok : CompOkD X scope x0) (fr : FrOk X scope js xs) (hfp : ∀ b ∈ fp, FpOk X pins H2 b) (hlt : ∀ b ∈ fp, b < s₂.heap.objs.size)
    (hC : C = s₂.heap.objs.size + 1) (hns : h₁.Ns C (fun _ => none)) (old : ∀ b o, s₂.heap.get? b = some o → h₁.get? b = some o)
    (hcell : h₁.IsCell (C + 1) none) (hD : h₁.get? s₂.heap.objs.size = some { cls := .type "list", data := .seq ([] : List Value).toArray 0 }) :
    Inv (cxD X x0 (ts ++ xs) scope C s₂ H2 fp) [] (mkC ts.length js σ) (upd H2 s₂.heap.objs.size (.lst [])) { s₂ with heap := h₁, toks := tk } := by
  have hf := I.hok.fresh (a := s₂.heap.objs.size) (Nat.le_refl _)
  have hlk : ∀ {x : Str} {k : NameKind}, (compEnvC scope ((x0, C + 1) :: clOf scope.names X.env) C X.env).kindOf x = some k → ∃ k0, scope.names.lookup x = some k0 ∧ k = if (k0 == .free && X.env.scope.kind == .function && X.env.kindOf x == some .cell) = true then NameKind.cell else k0 := fun {x k} h => by
    have h' : (relabel scope X.env).names.lookup x = some k := h
    rw [relabel_names] at h'
    exact lookup_map_key (f := fun n k => if (k == .free && X.env.scope.kind == .function && X.env.kindOf n == some .cell) = true then NameKind.cell else k) h'
  have freeOf : ∀ {x : Str}, ((compEnvC scope ((x0, C + 1) :: clOf scope.names X.env) C X.env).kindOf x = some .cell ∨ (compEnvC scope ((x0, C + 1) :: clOf scope.names X.env) C X.env).kindOf x = some .free) → scope.names.lookup x = some .free ∨ x = x0 := fun {x} h => by
    rcases h with h | h
    · obtain ⟨k0, e, q⟩ := hlk h
      by_cases c : (k0 == .free && X.env.scope.kind == .function && X.env.kindOf x == some .cell) = true
      · rw [Bool.and_eq_true, Bool.and_eq_true] at c
        left
        rw [e, beq_iff_eq.mp c.1.1]
      · rw [if_neg c] at q
        exact .inr (ok.cell1 _ (mem_of_lookupK e) q.symm)
    · obtain ⟨k0, e, q⟩ := hlk h
      by_cases c : (k0 == .free && X.env.scope.kind == .function && X.env.kindOf x == some .cell) = true
      · rw [if_pos c] at q; cases q
      · rw [if_neg c] at q; left; rw [e, q]
  refine ⟨⟨I.ok.mod, ok.kind, I.ok.glob, I.ok.blt, ?_, fun x y c h1 h2 => ?_, fun x hx => ?_, fun x c h hl => ?_,
      I.ok.hd, I.ok.frames, .inl rfl, fun b hb => ⟨?_, fun x c h => ?_⟩, I.bs, Nat.le_trans I.ok.bsz I.sz, fun b o e hb => ?_, fun b hb hs => ?_, I.stack, I.stkFree, fun z => ?_⟩,
    rfl, I.bare, Un.laid old (Nat.le_refl _) hf, ⟨_, hns, fun i x v h1 h2 h3 => ?_⟩, fun x c h => ?_, ?_, fun x c h => ?_, fun p hp => absurd (show p ∈ ([] : List (Addr × Obj)) from hp) (by simp), ?_, ?_⟩
  · show s₂.heap.objs.size ≤ C
    rw [hC]
    exact Nat.le_succ _
  · rcases lookupD h1 with ⟨e1, e2⟩ | ⟨e1, e2⟩
    · rcases lookupD h2 with ⟨e3, e4⟩ | ⟨e3, e4⟩
      · rw [e1, e3]
      · obtain ⟨v, z⟩ := I.cell y c (clOf_lookupD ok e4)
        have := z.lt
        have e2' : c = C + 1 := e2
        have hC' : (C : Nat) = s₂.heap.objs.size + 1 := hC
        exact absurd this (Nat.not_lt.mpr (by rw [e2', hC']; exact Nat.le_trans (Nat.le_succ _) (Nat.le_succ _)))
    · rcases lookupD h2 with ⟨e3, e4⟩ | ⟨e3, e4⟩
      · obtain ⟨v, z⟩ := I.cell x c (clOf_lookupD ok e2)
        have := z.lt
        have e2' : c = C + 1 := e4
        have hC' : (C : Nat) = s₂.heap.objs.size + 1 := hC
        exact absurd this (Nat.not_lt.mpr (by rw [e2', hC']; exact Nat.le_trans (Nat.le_succ _) (Nat.le_succ _)))
      · exact I.ok.inj x y c (clOf_lookupD ok e2) (clOf_lookupD ok e4)
  · by_cases hx0 : x = x0
    · subst hx0
      exact ⟨C + 1, lookupD_eq⟩
    · rcases freeOf hx with z | z
      · exact ⟨_, (lookupD_ne hx0).trans (clOf_has (mem_of_lookupK z))⟩
      · exact absurd z hx0
  · have hx0 : x = x0 := beq_iff_eq.mp (show (x == x0) = true from h)
    subst hx0
    have e : c = C + 1 := (Option.some.inj ((lookupD_eq (cl := clOf scope.names X.env)).symm.trans hl)).symm
    show s₂.heap.objs.size ≤ c
    rw [e, hC]
    exact Nat.le_trans (Nat.le_succ _) (Nat.le_succ _)
  · show b ≠ C
    rw [hC]
    exact Nat.ne_of_lt (Nat.lt_succ_of_lt (hlt b hb))
  · rcases lookupD h with ⟨_, e⟩ | ⟨_, e⟩
    · intro z
      have := hlt b hb
      rw [← z, e, hC] at this
      exact absurd this (Nat.not_lt.mpr (Nat.le_trans (Nat.le_succ _) (Nat.le_succ _)))
    · exact (hfp b hb).2.2.2.2.1 x c (clOf_lookupD ok e)
  · have h1 := (hfp b hb).2.2.2.1
    rcases h1 with z | z
    · exact I.ok.noex b o e z
    · exact absurd (Nat.lt_of_lt_of_le (Heap.lt_size e) (Nat.le_trans I.ok.bsz z)) (Nat.lt_irrefl _)
  · rcases List.mem_cons.mp (I.stkSub b hs) with z | z
    · exact (hfp b hb).2.1 z
    · exact (hfp b hb).2.2.1 z
  · obtain ⟨ex, cls, dx, a0, tb, hA, hE⟩ := I.ok.hs z
    exact ⟨ex, cls, dx, a0, tb, hA, I.base.frzs ex _ _ hE⟩
  · -- a name around: its cell
    have hi : ts.length ≤ i := by
      refine Nat.le_of_not_lt fun hi => ?_
      unfold mkC at h2
      rw [List.getElem?_append_left (by simpa using hi), List.getElem?_replicate, if_pos hi] at h2
      cases h2
    have h1' : xs[i - ts.length]? = some x := by
      have h1'' : (ts ++ xs)[i]? = some x := h1
      rw [List.getElem?_append_right hi] at h1''
      exact h1''
    obtain ⟨j, ej, hN, hk, hfree⟩ := fr.at h1'
    have hσ : σ[j]? = some (some v) := by
      unfold mkC at h2
      rw [List.getElem?_append_right (by simpa using hi), List.length_replicate, List.getElem?_map, ej] at h2
      simp only [Option.map_some, Option.some.injEq] at h2
      cases q : σ[j]? with
      | none => rw [q] at h2; cases h2
      | some z => rw [q] at h2; exact congrArg some h2
    obtain ⟨m, hn, hl⟩ := I.loc
    have vis : Vis X.env.scope x := by
      rcases hk with hk | hk
      · exact .inr (.inl hk)
      · exact .inr (.inr hk)
    obtain ⟨u, r, l⟩ := hl j x v hN hσ vis
    refine ⟨u, r, .inr ?_⟩
    rcases l with ⟨k, _⟩ | ⟨_, c, hc, z⟩
    · rcases hk with hk | hk <;> (rw [k] at hk; cases hk)
    · refine ⟨?_, c, ?_, z.keeps old⟩
      · rcases h3 with q | q | q
        · obtain ⟨k0, e, w⟩ := hlk (x := x) (k := .local) q
          rw [hfree] at e
          cases e
          split at w <;> cases w
        · exact .inl q
        · exact .inr q
      · have e := clOf_has (X := X) (mem_of_lookupK hfree)
        rw [hc] at e
        exact (lookupD_ne (ok.notf _ (mem_of_lookupK hfree) rfl)).trans e
  · rcases lookupD h with ⟨_, e⟩ | ⟨_, e⟩
    · rw [e]; exact ⟨_, hcell⟩
    · obtain ⟨v, z⟩ := I.cell x c (clOf_lookupD ok e)
      exact ⟨v, z.keeps old⟩
  · show (upd H2 s₂.heap.objs.size (.lst [])) C = none
    rw [hC, upd_ne (Nat.ne_of_gt (Nat.lt_succ_self _))]
    exact I.hok.fresh (Nat.le_succ _)
  · rcases lookupD h with ⟨_, e⟩ | ⟨_, e⟩
    · have hle : s₂.heap.objs.size ≤ C + 1 := by rw [hC]; exact Nat.le_trans (Nat.le_succ _) (Nat.le_succ _)
      have hne : C + 1 ≠ s₂.heap.objs.size := by rw [hC]; exact Nat.ne_of_gt (Nat.lt_succ_of_lt (Nat.lt_succ_self _))
      rw [e, upd_ne hne]
      exact I.hok.fresh hle
    · obtain ⟨v, z⟩ := I.cell x c (clOf_lookupD ok e)
      rw [upd_ne (Nat.ne_of_lt z.lt)]
      exact I.freeC x c (clOf_lookupD ok e)
  · exact I.hok.laid old (Nat.le_refl _) ⟨Nat.zero_le _, [], 0, .nil, hD⟩
  · unfold mkC
    show _ = (ts ++ xs).length
    rw [List.length_append, List.length_append, List.length_replicate, List.length_map, fr.len]
section
variable {x0 : Str} {X : Cx} {scope : Scope} {ts xs : List Str} {js : List Nat} {target iter elt : Expr} {ifs : List Expr} {wi : TI} {g : TG} {tif : TT} {te : TE} {pos : Pos}
/-- the block, up to its end -/
theorem comp_runD {pins : List (Addr × Obj)} {σ : St} {s₂ : Shared} {Q : VK} {itv : Value} {E : Value → Shared → Prop} {RR : Value → Addr → Result → Shared → Prop} (ok : CompOkD X scope x0) (fr : FrOk X scope js xs)
    (hg : ∀ C s₀ H₀ fp, PG (cxD X x0 (ts ++ xs) scope C s₀ H₀ fp) target g) (hif : ∀ C s₀ H₀ fp, PIf (cxD X x0 (ts ++ xs) scope C s₀ H₀ fp) ifs tif) (he : ∀ C s₀ H₀ fp, PE (cxD X x0 (ts ++ xs) scope C s₀ H₀ fp) elt te)
    (h : PIE X pins σ target (fun J H1 => (X.calm = true ∨ J.sok = true ∧ X.suit = true) ∧ CompW J H1 (mkC ts.length js σ) g tif te Q) itv s₂)
    (hRR : ∀ D C s' H' m', Inv X pins σ H' s' → s'.heap.Ns C m' → FpOk X pins H' C → Q (.ref D) H' → RR (.ref D) C (.ok .next) s') :
    wpAny (model X.prog X.w) X.A (newList []) (fun acc s₃ => wpAny (model X.prog X.w) X.A (newFunctionEnv scope X.env.globals (clOf scope.names X.env) [] X.env.qual none .none (some X.env)) (fun cenv s₄ =>
      codeAny (model X.prog X.w) X.A (.compStart (.ListComp elt [⟨target, iter, ifs, 0⟩] scope pos) 0 itv acc { cenv with scope := relabel scope X.env }) (RR acc cenv.locals) s₄) E s₃) E s₂ := by
  obtain ⟨it, fp, tn, J, H2, e, I2, T, st2, f2, hc, hw⟩ := h
  subst e
  have hlt : ∀ b ∈ fp, b < s₂.heap.objs.size := fun b hb => by
    obtain ⟨o, e, _⟩ := T.obj _ _ st2 b hb
    exact Heap.lt_size e
  refine wpAny_newObj_type (wpAny_newEnvD ok.own ok.psh (fun h₁ hns₁ keep1 hcell => ?_))
  dsimp only at hns₁ keep1 hcell ⊢
  have hsz : (s₂.heap.push { cls := .type "list", dict := none, data := .seq ([] : List Value).toArray }).objs.size = s₂.heap.objs.size + 1 := Heap.size_push _ _
  generalize hC : (s₂.heap.push { cls := .type "list", dict := none, data := .seq ([] : List Value).toArray }).objs.size = C at hns₁ hcell hsz ⊢
  have old : ∀ b o, s₂.heap.get? b = some o → h₁.get? b = some o := fun b o e => keep1 b o (Heap.get?_push_of_some _ e)
  have hD₁ : h₁.get? s₂.heap.objs.size = some { cls := .type "list", data := .seq ([] : List Value).toArray 0 } := keep1 _ _ (Heap.get?_push_size _ rfl)
  have hfD := I2.hok.fresh (a := s₂.heap.objs.size) (Nat.le_refl _)
  obtain ⟨W, ⟨m0, w0⟩, turn⟩ := hw s₂.heap.objs.size hfD
  have IC := comp_startD (ts := ts) (tk := s₂.toks) I2 ok fr f2 hlt hsz hns₁ old hcell hD₁
  have hst₁ : tn 0 h₁ := T.keep _ _ _ st2 fun b hb o e => old b o e
  -- what is asked of the iterator, within
  have stat : ∀ {H' : Hp}, (∀ b ∈ fp, H' b = none) → ∀ b ∈ fp, FpOk (cxD X x0 (ts ++ xs) scope C s₂ H2 fp) [] H' b := fun {H'} hn b hb =>
    ⟨hn b hb, (IC.ok.exf b hb).1, IC.ok.exfs b hb, .inl hb, fun x c e => (IC.ok.exf b hb).2 x c e, fun p hp => absurd (show p ∈ ([] : List (Addr × Obj)) from hp) (by simp)⟩
  have fp0 : ∀ b ∈ fp, (upd H2 s₂.heap.objs.size (.lst [])) b = none := fun b hb => by
    rw [upd_ne (Nat.ne_of_lt (hlt b hb))]
    exact (f2 b hb).1
  have loop : codeAny (model X.prog X.w) X.A (.compLoop (.ListComp elt [⟨target, iter, ifs, 0⟩] scope pos) 0 (.ref it) (.ref s₂.heap.objs.size) (compEnvC scope ((x0, C + 1) :: clOf scope.names X.env) C X.env))
      (RR (.ref s₂.heap.objs.size) C) { s₂ with heap := h₁, toks := s₂.toks } := by
    refine compLoop_any (fun n s' => ∃ i H' ys, Inv (cxD X x0 (ts ++ xs) scope C s₂ H2 fp) [] (mkC ts.length js σ) H' s' ∧ tn i s'.heap ∧ (∀ b ∈ fp, H' b = none) ∧ W i n ys H') ?_ m0 ⟨0, _, [], IC, hst₁, fp0, w0⟩
    rintro n s3 ⟨i, H3, ys, I3, st3, fr3, w3⟩
    obtain ⟨hDl, alt⟩ := turn i n ys H3 w3
    rcases alt with ⟨stop, qn⟩ | ⟨go, step⟩
    · refine thn (T.done (cxD X x0 (ts ++ xs) scope C s₂ H2 fp) rfl rfl rfl hc i [] s3 _ H3 _ I3 (stat fr3) st3 stop) fun r s4 hh116 => ?_
      obtain ⟨hr, I4⟩ := hh116
      subst hr
      have hCn : H3 C = none := I4.free
      have I5 : Inv X pins σ H3 s4 := I2.call' (ch := fp) (s' := s4) I4.os I4.base I4.hok I4.bare fun b hb => ⟨(f2 b hb).2.2.2.1, (f2 b hb).2.1, (f2 b hb).2.2.2.2.1, (f2 b hb).2.2.2.2.2⟩
      obtain ⟨m', hn', _⟩ := I4.loc
      exact hRR _ _ s4 H3 m' I5 hn' (I2.fpOk (by rw [hsz]; exact Nat.le_succ _) hCn) qn
    · refine thn (T.item (cxD X x0 (ts ++ xs) scope C s₂ H2 fp) rfl rfl rfl hc i [] s3 _ H3 _ I3 (stat fr3) st3 go) fun r s4 hh117 => ?_
      obtain ⟨u, hr, h4⟩ := hh117
      subst hr
      refine thn h4 fun _ s5 hh118 => ?_
      obtain ⟨x, H5, I5, r5, y5, st5, fr5⟩ := hh118
      have I5' := I5.pinned (stat fr5) (T.obj _ _ st5)
      have pinK : ∀ {σ7 : St} {H7 : Hp} {s7 : Shared}, Inv (cxD X x0 (ts ++ xs) scope C s₂ H2 fp) ([] ++ pinsAt fp s5.heap) σ7 H7 s7 → tn (i + 1) s7.heap ∧ ∀ b ∈ fp, H7 b = none := fun {σ7 H7 s7} I7 => by
        refine ⟨T.keep _ _ _ st5 fun b hb o e => (I7.pin (b, o) (List.mem_append_right _ (List.mem_append_right _ (mem_pinsAt hb e)))).1, fun b hb => ?_⟩
        obtain ⟨o, e, d⟩ := T.obj _ _ st5 b hb
        exact (I7.pin (b, o) (List.mem_append_right _ (List.mem_append_right _ (mem_pinsAt hb e)))).2.1
      have back : ∀ {σ7 : St} {H7 : Hp} {s7 : Shared}, Inv (cxD X x0 (ts ++ xs) scope C s₂ H2 fp) ([] ++ pinsAt fp s5.heap) σ7 H7 s7 → Sub (mkC ts.length js σ) σ7 → Inv (cxD X x0 (ts ++ xs) scope C s₂ H2 fp) [] (mkC ts.length js σ) H7 s7 := fun {σ7 H7 s7} I7 sb =>
        I7.unpinned.weak (IC.len.trans I7.len.symm) sb
      refine thn (hg _ _ _ _ _ s5 _ H5 x u _ I5' r5 (step x H5 y5)) fun _ s6 hh119 => ?_
      obtain ⟨σ6, H6, I6, sb6, q6⟩ := hh119
      refine thn (hif _ _ _ _ _ s6 σ6 H6 _ I6 q6) fun okb s7 hh120 => ?_
      obtain ⟨H7, I7, q7⟩ := hh120
      cases okb with
      | false =>
        obtain ⟨m', hm, w7⟩ := (show ∃ m', m' < n ∧ W (i + 1) m' ys H7 from q7)
        obtain ⟨t7, n7⟩ := pinK I7
        exact ⟨m', hm, i + 1, H7, ys, back I7 sb6, t7, n7, w7⟩
      | true =>
        refine thn (he _ _ _ _ _ s7 σ6 H7 _ I7 q7) fun u8 s8 hh121 => ?_
        obtain ⟨y, H8, I8, r8, hD8, hlen, m', hm, w8⟩ := hh121
        refine thn (mt_append (X := cxD X x0 (ts ++ xs) scope C s₂ H2 fp) _ s8 σ6 H8 (.ref s₂.heap.objs.size) [y] (.ref s₂.heap.objs.size) [u8] (fun _ H9 => W (i + 1) m' (ys ++ [y]) H9) I8 rfl (.cons r8 .nil) ⟨_, ys, y, rfl, rfl, hD8, hlen, w8⟩) fun u9 s9 hh122 => ?_
        obtain ⟨_, H9, I9, _, w9⟩ := hh122
        obtain ⟨t9, n9⟩ := pinK I9
        exact ⟨m', hm, i + 1, H9, ys ++ [y], back I9 sb6, t9, n9, w9⟩
  exact codeAny_compStart_list loop (T.self _ 0 _ _ _ hst₁ loop)

theorem ps_setCompD {y : Str} {py spos : Pos} {i : Nat} (hc : X.calm = true) (ok : CompOkD X scope x0) (fr : FrOk X scope js xs) (hi : PI X target iter wi)
    (hg : ∀ C s₀ H₀ fp, PG (cxD X x0 (ts ++ xs) scope C s₀ H₀ fp) target g) (hif : ∀ C s₀ H₀ fp, PIf (cxD X x0 (ts ++ xs) scope C s₀ H₀ fp) ifs tif) (he : ∀ C s₀ H₀ fp, PE (cxD X x0 (ts ++ xs) scope C s₀ H₀ fp) elt te)
    (hN : X.N.Nodup) (hy : X.N[i]? = some y) (hx : Loc X.env.scope y)
    (hsw : swapsWith (.ListComp elt [⟨target, iter, ifs, 0⟩] scope pos) (some (.Name y py)) spos.line X.env = pure true)
    (hs : ∀ x, foldedSetIterable iter X.env x = pure x := by intro _; rfl) (hf : X.fn y = true ∨ X.env.scope.names.lookup y = some .local := by first | exact .inl rfl | exact .inr rfl | assumption) :
    PS X (.Assign [.Name y py] (.ListComp elt [⟨target, iter, ifs, 0⟩] scope pos) spos) (tAsg (tComp (mkC ts.length js) wi g tif te) (gName i)) := by
  intro pins s σ H D I h
  rw [exec_Assign_Name_used _ _ _ _ hsw]
  refine wpAny_bind (wpAny_standAt (wpAny_bind ?_))
  show wpAny _ X.A (do let _ ← comprehension (.ListComp elt [⟨target, iter, ifs, 0⟩] scope pos) scope X.env _ (newList []) false (eval iter X.env) (some (assign (.Name y py) X.env))) _ _ s
  refine wpAny_bind (thn (wpAny_comprehension_free (use := some (assign (.Name y py) X.env)) (Q := fun _ s' => SP X pins D .next s') rfl hs ok.clos ok.kind ok.names (thn (hi pins s σ H _ I h) fun v s1 h1 => thn h1 fun itv s2 h2 => ?_)) fun _ s' hq => wpAny_pure (wpAny_pure hq))
  refine comp_runD (Q := fun x H1 => gName i x σ H1 D.nx) ok fr hg hif he (PIE.mono h2 fun J H1 z => ⟨.inl hc, z⟩) fun Dl C s' H' m' I' hn fpC q => ?_
  show wpAny _ X.A (assign (.Name y py) X.env (.ref Dl)) _ _ _
  obtain ⟨f0, f1, f2, f3, f4, f5⟩ := fpC
  refine wpAny_assign_Name (store_ok2 (v := .ref Dl) I' hN hy hx rfl (fun s2 I2 hh123 => ?_) hf)
  obtain ⟨a, sb, ha⟩ := hh123
  have neC : C ≠ a := by
    rcases ha with z | z
    · rw [z]; exact f1
    · exact fun e => f4 y a z e.symm
  refine ⟨m', hn.sameBut sb neC, fun h' hs' => ?_⟩
  exact ⟨_, H', I2.turned (t' := s2.toks) (fun b o hb e => (hs'.2 b hb).trans e) f0 f1 f3 f4 f5, q⟩
end
end L2

set_option genSizeOf false
/-! EXT 16: a list of pairs (word, isinstance(e, C)), laid bit by bit, the heap behind it any one that keeps what was. -/
namespace L2
open PySem PySem.Spec PyProof.Rows
noncomputable def ExAt (H : Hp) (e C : Addr) : Prop := ∃ dx a0 tb, H e = some (xHO e (xObj (.ref C) dx a0 tb)) ∧ (dx = none ∨ ∃ d fs, dx = some d ∧ H d = some (.xd fs))
theorem ExAt.same {H H' : Hp} {e C : Addr} (s : Same H H') (h : ExAt H e C) : ExAt H' e C := by
  obtain ⟨dx, a0, tb, h, k⟩ := h
  refine ⟨dx, a0, tb, s _ _ h, ?_⟩
  rcases k with k | ⟨d, fs, k, z⟩
  · exact .inl k
  · exact .inr ⟨d, fs, k, s _ _ z⟩
noncomputable def Laid (H : Hp) (ts : List Addr) (prs : List (Str × Bool)) : Prop := ts.length = prs.length ∧ ∀ (i : Nat) t w b, ts[i]? = some t → prs[i]? = some (w, b) → H t = some (.tup [.str w, .bl b])
theorem Laid.same {H H' : Hp} {ts : List Addr} {prs : List (Str × Bool)} (s : Same H H') (h : Laid H ts prs) : Laid H' ts prs := ⟨h.1, fun i t w b p q => s _ _ (h.2 i t w b p q)⟩
theorem Laid.nil {H : Hp} : Laid H [] [] := ⟨rfl, fun i t w b p => by simp at p⟩
theorem Laid.cons {H : Hp} {t : Addr} {w : Str} {b : Bool} {ts : List Addr} {prs : List (Str × Bool)} (h : H t = some (.tup [.str w, .bl b])) (l : Laid H ts prs) : Laid H (t :: ts) ((w, b) :: prs) := by
  refine ⟨congrArg Nat.succ l.1, fun i t' w' b' p q => ?_⟩
  cases i with
  | zero =>
    cases p
    cases q
    exact h
  | succ i => exact l.2 i t' w' b' p q
theorem Laid.app {H : Hp} {us : List Addr} {qrs : List (Str × Bool)} (m : Laid H us qrs) : ∀ (ts : List Addr) (prs : List (Str × Bool)), Laid H ts prs → Laid H (ts ++ us) (prs ++ qrs) := by
  intro ts
  induction ts with
  | nil =>
    intro prs l
    cases prs with
    | nil => exact m
    | cons p prs => exact absurd l.1 (Nat.succ_ne_zero _).symm
  | cons t ts ih =>
    intro prs l
    cases prs with
    | nil => exact absurd l.1 (Nat.succ_ne_zero _)
    | cons p prs =>
      obtain ⟨w, b⟩ := p
      exact Laid.cons (l.2 0 t w b rfl rfl) (ih prs ⟨Nat.succ.inj l.1, fun i t' w' b' p q => l.2 (i + 1) t' w' b' p q⟩)
noncomputable def tPr (C : Addr) (w : Str) (b : Bool) : TE := fun σ H Q => ∃ e, σ[0]? = some (some (.ref e)) ∧ ExAt H e C ∧ ∀ t H', Same H H' → H' t = some (.tup [.str w, .bl b]) → Q (.ref t) H'
noncomputable def tPa (C : Addr) (prs : List (Str × Bool)) : TA := fun σ H Q => ∃ e, σ[0]? = some (some (.ref e)) ∧ ExAt H e C ∧ ∀ ts H', Same H H' → Laid H' ts prs → Q (ts.map V.ref) H'
noncomputable def tPl (C : Addr) (prs : List (Str × Bool)) : TE := fun σ H Q => ∃ e, σ[0]? = some (some (.ref e)) ∧ ExAt H e C ∧ prs.length ≤ sizeLine ∧ ∀ l ts H', Same H H' → H' l = some (.lst (ts.map V.ref)) → Laid H' ts prs → Q (.ref l) H'
noncomputable def tPc (C : Addr) (prs : List (Str × Bool)) : TE := fun σ H Q => ∃ e l ts qrs, σ[0]? = some (some (.ref e)) ∧ σ[1]? = some (some (.ref l)) ∧ ExAt H e C ∧ H l = some (.lst (ts.map V.ref)) ∧ Laid H ts qrs ∧ prs.length ≤ sizeLine ∧ qrs.length + prs.length ≤ sizeLine ∧ ∀ l ts H', Same H H' → H' l = some (.lst (ts.map V.ref)) → Laid H' ts (qrs ++ prs) → Q (.ref l) H'
/-! ### the rest of a def hidden: its reading stands in the proof once, and not at each depth of binders -/
theorem hide1 {t u : TS} {D : Ends} {σ : St} {H : Hp} (h : ∀ U : TS, (∀ D σ H, u D σ H → U D σ H) → tSeq t U D σ H) : tSeq t u D σ H := h u fun _ _ _ x => x
theorem hide2 {t t2 u : TS} {D : Ends} {σ : St} {H : Hp} (h : ∀ U : TS, (∀ D σ H, u D σ H → U D σ H) → tSeq t (tSeq t2 U) D σ H) : tSeq t (tSeq t2 u) D σ H := h u fun _ _ _ x => x
theorem hide4 {t t2 t3 t4 u : TS} {D : Ends} {σ : St} {H : Hp} (h : ∀ U : TS, (∀ D σ H, u D σ H → U D σ H) → tSeq t (tSeq t2 (tSeq t3 (tSeq t4 U))) D σ H) : tSeq t (tSeq t2 (tSeq t3 (tSeq t4 u))) D σ H := h u fun _ _ _ x => x
theorem hideSC {t t2 u : TS} {D : Ends} {σ : St} {H : Hp} (h : ∀ U : TS, (∀ D σ H, u D σ H → U D σ H) → tSeq t (tCut t2 U) D σ H) : tSeq t (tCut t2 u) D σ H := h u fun _ _ _ x => x
theorem hideC {t u : TS} {D : Ends} {σ : St} {H : Hp} (h : ∀ U : TS, (∀ D σ H, u D σ H → U D σ H) → tCut t U D σ H) : tCut t u D σ H := h u fun _ _ _ x => x
theorem hideSSC {t t2 t3 u : TS} {D : Ends} {σ : St} {H : Hp} (h : ∀ U : TS, (∀ D σ H, u D σ H → U D σ H) → tSeq t (tSeq t2 (tCut t3 U)) D σ H) : tSeq t (tSeq t2 (tCut t3 u)) D σ H := h u fun _ _ _ x => x
section
variable {X : Cx}
theorem pe_pr {C c : Addr} {w : Str} {b : Bool} {ex : Expr} (z : XCls X.K C) (k : PySem.W.kitOne X.K (.ref C) (.ref c) = some b)
    (h : PE X ex (tTup (tCons (tC (.str w)) (tCons (tCB (fun xs H Q => ∃ e C dx a0 tb c cv b, xs = [.ref e, c] ∧ H e = some (xHO e (xObj (.ref C) dx a0 tb)) ∧ XCls X.K C ∧ (dx = none ∨ ∃ d fs, dx = some d ∧ H d = some (.xd fs)) ∧ ((∃ a, c = .ref a ∧ cv = .ref a) ∨ ∃ T, c = .ty T ∧ cv = .type T) ∧ PySem.W.kitOne X.K (.ref C) cv = some b ∧ Q (.bl b) H) (tCons (tVar 0) (tCons (tC (.ref c)) tNil))) tNil)))) : PE X ex (tPr C w b) := by
  rintro pins s σ H Q I ⟨e, h0, ⟨dx, a0, tb, hE, hdx⟩, q⟩
  exact h pins s σ H Q I ⟨_, h0, e, C, dx, a0, tb, _, _, _, rfl, hE, z, hdx, .inl ⟨_, rfl, rfl⟩, k, by show 2 ≤ sizeLine; decide, fun t ht => q t _ (sameU ht) upd_same⟩
theorem pa_nilP {C : Addr} : PA X [] (tPa C []) := by
  rintro pos pins s σ H Q I ⟨e, _, _, q⟩
  exact pa_nil pos pins s σ H Q I (q [] H (Same.refl H) Laid.nil)
theorem pa_consP {C : Addr} {w : Str} {b : Bool} {e : Expr} {es : List Expr} {prs : List (Str × Bool)} (ha : PE X e (tPr C w b)) (hr : PA X es (tPa C prs)) (hs : starEach (e :: es) X.env = (false, eval e X.env) :: starEach es X.env := by rfl) : PA X (e :: es) (tPa C ((w, b) :: prs)) := by
  rintro pos pins s σ H Q I ⟨e, h0, hx, q⟩
  exact pa_cons ha hr hs pos pins s σ H Q I ⟨e, h0, hx, fun t H1 s1 ht => ⟨e, h0, hx.same s1, fun ts H2 s2 hl => q (t :: ts) H2 (s1.trans s2) (Laid.cons (s2 _ _ ht) hl)⟩⟩
theorem pe_lstP {C : Addr} {es : List Expr} {pos : Pos} {prs : List (Str × Bool)} (h : PA X es (tPa C prs)) : PE X (.List es pos) (tPl C prs) := by
  rintro pins s σ H Q I ⟨e, h0, hx, hz, q⟩
  exact pe_lst h pins s σ H Q I ⟨e, h0, hx, fun ts H1 s1 hl => ⟨by rw [List.length_map, hl.1]; exact hz, fun p hp => q p ts _ (s1.trans (sameU hp)) upd_same (hl.same (sameU hp))⟩⟩
theorem pe_catP {C : Addr} {x y : Expr} {pos : Pos} {prs : List (Str × Bool)} (hv : PE X x (tVar 1)) (h : PE X y (tPl C prs)) : PE X (.BinOp x .Add y pos) (tPc C prs) := by
  rintro pins s σ H Q I ⟨e, l, ts, qrs, h0, h1, hx, hl, ht, hz, hq, q⟩
  refine pe_op op_cat hv h pins s σ H Q I ⟨_, h1, e, h0, hx, hz, fun l2 us H2 s2 h2 hu => ⟨l, l2, _, _, rfl, rfl, s2 _ _ hl, h2, ?_, fun p hp => q p (ts ++ us) _ (s2.trans (sameU hp)) ?_ ?_⟩⟩
  · rw [List.length_map, List.length_map, ht.1, hu.1]
    exact hq
  · rw [List.map_append]
    exact upd_same
  · exact (Laid.app hu _ _ (ht.same s2)).same (sameU hp)
end
end L2

/-! the check of a row, the two ways of reckoning it: by the byte laid over at once, and bit by bit -/
namespace K4
noncomputable def pstep (v : Nat) : Nat := if 65536 ≤ v * 2 then (v * 2 - 65536) ^^^ 4129 else v * 2
noncomputable def lstep (b k f : Nat) : Nat := if (f / 32768 + b / 2 ^ (7 - k)) % 2 = 1 then (f * 2 % 65536) ^^^ 4129 else f * 2 % 65536
theorem dbl_xor (l c : Nat) : (l ^^^ c) * 2 % 65536 = (l * 2 % 65536) ^^^ (c * 2 % 65536) := by
  apply Nat.eq_of_testBit_eq
  intro i
  rw [show (65536 : Nat) = 2 ^ 16 from rfl, show (2 : Nat) = 2 ^ 1 from rfl]
  rw [Nat.testBit_xor, Nat.testBit_mod_two_pow, Nat.testBit_mod_two_pow, Nat.testBit_mod_two_pow, Nat.testBit_mul_two_pow, Nat.testBit_mul_two_pow, Nat.testBit_mul_two_pow, Nat.testBit_xor]
  cases decide (i < 16) <;> cases decide (1 ≤ i) <;> simp
theorem top_xor {l c : Nat} (hl : l < 65536) (hc : c < 65536) : (l ^^^ c) / 32768 = (l / 32768 + c / 32768) % 2 := by
  have e : (l ^^^ c) / 32768 = (l / 32768) ^^^ (c / 32768) := by
    rw [show (32768 : Nat) = 2 ^ 15 from rfl, ← Nat.shiftRight_eq_div_pow, ← Nat.shiftRight_eq_div_pow, ← Nat.shiftRight_eq_div_pow, Nat.shiftRight_xor_distrib]
  rw [e]
  have h1 : l / 32768 = 0 ∨ l / 32768 = 1 := by (first | lia | omega)
  have h2 : c / 32768 = 0 ∨ c / 32768 = 1 := by (first | lia | omega)
  rcases h1 with h1 | h1 <;> rcases h2 with h2 | h2 <;> rw [h1, h2] <;> rfl
theorem xor_lt {l c : Nat} (hl : l < 65536) (hc : c < 65536) : l ^^^ c < 65536 := Nat.xor_lt_two_pow (n := 16) hl hc
theorem pstep_xor {l c : Nat} (hl : l < 65536) (hc : c < 65536) : pstep (l ^^^ c) = (if (l / 32768 + c / 32768) % 2 = 1 then (l * 2 % 65536) ^^^ 4129 else l * 2 % 65536) ^^^ (c * 2 % 65536) := by
  have hx := xor_lt hl hc
  have ht := top_xor hl hc
  have hd := dbl_xor l c
  unfold pstep
  by_cases h : 65536 ≤ (l ^^^ c) * 2
  · have h1 : (l ^^^ c) / 32768 = 1 := by (first | lia | omega)
    rw [if_pos h, if_pos (by (first | lia | omega)), show (l ^^^ c) * 2 - 65536 = (l ^^^ c) * 2 % 65536 by (first | lia | omega), hd, Nat.xor_assoc, Nat.xor_assoc, Nat.xor_comm (c * 2 % 65536)]
  · have h1 : (l ^^^ c) / 32768 = 0 := by (first | lia | omega)
    rw [if_neg h, if_neg (by (first | lia | omega)), show (l ^^^ c) * 2 = (l ^^^ c) * 2 % 65536 by (first | lia | omega), hd]
noncomputable def cut (b k : Nat) : Nat := b * 2 ^ (8 + k) % 65536
theorem cut_lt (b k : Nat) : cut b k < 65536 := Nat.mod_lt _ (by decide)
theorem cut_succ (b k : Nat) : cut b (k + 1) = cut b k * 2 % 65536 := by
  unfold cut
  rw [show 8 + (k + 1) = (8 + k) + 1 by (first | lia | omega), Nat.pow_succ, ← Nat.mul_assoc, Nat.mod_mul_mod]
theorem cut_top {b k : Nat} (hk : k < 8) : cut b k / 32768 % 2 = b / 2 ^ (7 - k) % 2 := by
  have e : Nat.testBit (b * 2 ^ (8 + k) % 2 ^ 16) 15 = Nat.testBit b (7 - k) := by
    rw [Nat.testBit_mod_two_pow, Nat.testBit_mul_two_pow]
    simp only [show (15 : Nat) < 16 by decide, decide_true, Bool.true_and, show 8 + k ≤ 15 by (first | lia | omega)]
    rw [show 15 - (8 + k) = 7 - k by (first | lia | omega)]
  rw [Nat.testBit_eq_decide_div_mod_eq, Nat.testBit_eq_decide_div_mod_eq, decide_eq_decide] at e
  have e' : cut b k / 32768 % 2 = 1 ↔ b / 2 ^ (7 - k) % 2 = 1 := e
  (first | lia | omega)
theorem lstep_lt (b k f : Nat) : lstep b k f < 65536 := by
  unfold lstep
  split
  · exact xor_lt (Nat.mod_lt _ (by decide)) (by decide)
  · exact Nat.mod_lt _ (by decide)
/-- one step of both -/
theorem both {b k l : Nat} (hl : l < 65536) (hk : k < 8) : pstep (l ^^^ cut b k) = lstep b k l ^^^ cut b (k + 1) := by
  rw [pstep_xor hl (cut_lt b k), cut_succ]
  unfold lstep
  have := cut_top (b := b) hk
  by_cases h : (l / 32768 + cut b k / 32768) % 2 = 1
  · rw [if_pos h, if_pos (by (first | lia | omega))]
  · rw [if_neg h, if_neg (by (first | lia | omega))]
theorem cut_8 (b : Nat) : cut b 8 = 0 := by
  unfold cut
  rw [show (65536 : Nat) = 2 ^ (8 + 8) from rfl]
  exact Nat.mul_mod_left _ _
noncomputable def ploop : Nat → Nat → Nat
  | 0, v => v
  | n + 1, v => ploop n (pstep v)
noncomputable def lloop (b : Nat) : Nat → Nat → Nat → Nat
  | 0, _, f => f
  | n + 1, k, f => lloop b n (k + 1) (lstep b k f)
theorem loops (b : Nat) : ∀ (n k l : Nat), n + k = 8 → l < 65536 → ploop n (l ^^^ cut b k) = lloop b n k l
  | 0, k, l, h, _ => by
    have : k = 8 := by (first | lia | omega)
    subst this
    rw [cut_8, Nat.xor_zero]
    rfl
  | n + 1, k, l, h, hl => by
    show ploop n (pstep (l ^^^ cut b k)) = lloop b n (k + 1) (lstep b k l)
    rw [both hl (by (first | lia | omega))]
    exact loops b n (k + 1) _ (by (first | lia | omega)) (lstep_lt b k l)
/-- a byte, both ways -/
theorem byte {b v : Nat} (hb : b < 256) (hv : v < 65536) : ploop 8 (v ^^^ (b * 2 ^ 8)) = lloop b 8 0 v := by
  have e : b * 2 ^ 8 = cut b 0 := by
    unfold cut
    rw [Nat.mod_eq_of_lt (by show b * 256 < 65536; (first | lia | omega))]
  rw [e]
  exact loops b 8 0 v rfl hv
end K4

/-! packed numbers: all of them as one great number, its bytes, its bits -/
namespace K4
noncomputable def val (w : Nat) : List Nat → Nat
  | [] => 0
  | n :: r => n + 2 ^ w * val w r
theorem val_snoc (w : Nat) : ∀ (l : List Nat) (n : Nat), val w (l ++ [n]) = val w l + n * 2 ^ (w * l.length)
  | [], n => by simp [val]
  | m :: r, n => by
    rw [List.cons_append, val, val_snoc w r n, val, List.length_cons, Nat.mul_succ, Nat.pow_add, Nat.mul_add, Nat.add_assoc]
    congr 2
    rw [Nat.mul_comm (2 ^ (w * r.length)) (2 ^ w), ← Nat.mul_assoc, ← Nat.mul_assoc, Nat.mul_comm n (2 ^ w)]
theorem val_lt (w : Nat) : ∀ (l : List Nat), (∀ n ∈ l, n < 2 ^ w) → val w l < 2 ^ (w * l.length)
  | [], _ => by simp [val]
  | m :: r, h => by
    have h1 := h m (List.mem_cons_self ..)
    have h2 := val_lt w r fun n hn => h n (List.mem_cons_of_mem _ hn)
    rw [val, List.length_cons, Nat.mul_succ, Nat.pow_add, Nat.mul_comm (2 ^ (w * r.length))]
    calc m + 2 ^ w * val w r < 2 ^ w + 2 ^ w * val w r := by omega
      _ = 2 ^ w * (val w r + 1) := by rw [Nat.mul_succ, Nat.add_comm]
      _ ≤ 2 ^ w * 2 ^ (w * r.length) := Nat.mul_le_mul_left _ h2
noncomputable def dig (N j : Nat) : Nat := N / 256 ^ j % 256
theorem pow256 (r : Nat) : 256 ^ r = 2 ^ (8 * r) := by rw [Nat.pow_mul]
/-- one more number: what is held, and the bytes so far -/
theorem held_step {w r bits n : Nat} {l : List Nat} (h : bits + 8 * r = w * l.length) : val w (l ++ [n]) / 256 ^ r = val w l / 256 ^ r + n * 2 ^ bits := by
  rw [val_snoc, ← h, Nat.pow_add, ← pow256, ← Nat.mul_assoc, Nat.add_mul_div_right _ _ (Nat.pow_pos (by decide))]
theorem dig_step {w r bits n j : Nat} {l : List Nat} (h : bits + 8 * r = w * l.length) (hj : j < r) : dig (val w (l ++ [n])) j = dig (val w l) j := by
  unfold dig
  have e : 256 ^ r = 256 ^ (r - j - 1) * 256 * 256 ^ j := by
    rw [← Nat.pow_succ, ← Nat.pow_add]
    congr 1
    omega
  rw [val_snoc, ← h, Nat.pow_add, ← pow256, ← Nat.mul_assoc, e, ← Nat.mul_assoc, Nat.add_mul_div_right _ _ (Nat.pow_pos (by decide)), ← Nat.mul_assoc, Nat.add_mul_mod_self_right]
theorem div_step (N r : Nat) : N / 256 ^ r / 256 = N / 256 ^ (r + 1) := by rw [Nat.div_div_eq_div_mul, Nat.pow_succ]
/-- the number at a place -/
theorem val_at (w : Nat) : ∀ (l : List Nat) (i : Nat), (∀ n ∈ l, n < 2 ^ w) → val w l / 2 ^ (w * i) % 2 ^ w = l.getD i 0
  | [], i, _ => by simp [val]
  | m :: r, 0, h => by
    have h1 := h m (List.mem_cons_self ..)
    simp [val, Nat.add_mul_mod_self_left, Nat.mod_eq_of_lt h1]
  | m :: r, i + 1, h => by
    have h1 := h m (List.mem_cons_self ..)
    rw [val, Nat.mul_succ, Nat.pow_add, Nat.mul_comm (2 ^ (w * i)), ← Nat.div_div_eq_div_mul, Nat.add_mul_div_left _ _ (Nat.pow_pos (by decide)), Nat.div_eq_of_lt h1, Nat.zero_add]
    rw [val_at w r i fun n hn => h n (List.mem_cons_of_mem _ hn)]
    rfl
/-- the bits, one behind the other -/
noncomputable def bitsOf (w : Nat) : List Nat → List Nat
  | [] => []
  | n :: r => (List.range w).map (fun j => n / 2 ^ j % 2) ++ bitsOf w r
theorem bits_len (w : Nat) : ∀ l : List Nat, (bitsOf w l).length = w * l.length
  | [] => rfl
  | n :: r => by
    rw [bitsOf, List.length_append, List.length_map, List.length_range, bits_len w r, List.length_cons, Nat.mul_succ, Nat.add_comm]
theorem bits_snoc (w : Nat) : ∀ (l : List Nat) (n : Nat), bitsOf w (l ++ [n]) = bitsOf w l ++ (List.range w).map (fun j => n / 2 ^ j % 2)
  | [], n => by simp [bitsOf]
  | m :: r, n => by rw [List.cons_append, bitsOf, bits_snoc w r n, bitsOf, List.append_assoc]
theorem tb (x i : Nat) : x / 2 ^ i % 2 = if Nat.testBit x i = true then 1 else 0 := by
  rw [Nat.testBit_eq_decide_div_mod_eq]
  by_cases h : x / 2 ^ i % 2 = 1
  · rw [decide_eq_true h, if_pos rfl, h]
  · rw [decide_eq_false h, if_neg (by decide)]
    omega
theorem bits_at (w : Nat) : ∀ (l : List Nat) (i : Nat), (∀ n ∈ l, n < 2 ^ w) → (bitsOf w l).getD i 0 = val w l / 2 ^ i % 2
  | [], i, _ => by simp [val, bitsOf]
  | m :: r, i, h => by
    have h1 := h m (List.mem_cons_self ..)
    have ih := fun i => bits_at w r i fun n hn => h n (List.mem_cons_of_mem _ hn)
    rw [bitsOf, val, tb, Nat.add_comm m, Nat.testBit_two_pow_mul_add _ h1]
    by_cases hi : i < w
    · rw [if_pos hi, List.getD_eq_getElem?_getD, List.getElem?_append_left (by simpa using hi), List.getElem?_map, List.getElem?_range hi]
      exact tb m i
    · rw [if_neg hi, List.getD_eq_getElem?_getD, List.getElem?_append_right (by simpa using hi), List.length_map, List.length_range, ← List.getD_eq_getElem?_getD, ih, tb]
/-- eight bits are a byte -/
theorem byte8 (M : Nat) : M % 256 = M % 2 + M / 2 % 2 * 2 + M / 4 % 2 * 4 + M / 8 % 2 * 8 + M / 16 % 2 * 16 + M / 32 % 2 * 32 + M / 64 % 2 * 64 + M / 128 % 2 * 128 := by
  have h1 : M % 256 = M % 128 + 128 * (M / 128 % 2) := Nat.mod_mul (x := M) (a := 128) (b := 2)
  have h2 : M % 128 = M % 64 + 64 * (M / 64 % 2) := Nat.mod_mul (x := M) (a := 64) (b := 2)
  have h3 : M % 64 = M % 32 + 32 * (M / 32 % 2) := Nat.mod_mul (x := M) (a := 32) (b := 2)
  have h4 : M % 32 = M % 16 + 16 * (M / 16 % 2) := Nat.mod_mul (x := M) (a := 16) (b := 2)
  have h5 : M % 16 = M % 8 + 8 * (M / 8 % 2) := Nat.mod_mul (x := M) (a := 8) (b := 2)
  have h6 : M % 8 = M % 4 + 4 * (M / 4 % 2) := Nat.mod_mul (x := M) (a := 4) (b := 2)
  have h7 : M % 4 = M % 2 + 2 * (M / 2 % 2) := Nat.mod_mul (x := M) (a := 2) (b := 2)
  rw [h1, h2, h3, h4, h5, h6, h7, Nat.mul_comm 2, Nat.mul_comm 4, Nat.mul_comm 8, Nat.mul_comm 16, Nat.mul_comm 32, Nat.mul_comm 64, Nat.mul_comm 128]
end K4

set_option genSizeOf false
set_option genInjectivity false
namespace K4
open PySem L2
noncomputable def top (i : Nat) : Stmt := PySem.Challenge.pw_formkin_k04_folded_packed_and_texts.main.body.getD i (.Pass ⟨0, 0, 0, 0⟩)
theorem bt_len : bootBuiltins "len" = some (.builtin "len") := by decide +kernel
theorem bt_isinstance : bootBuiltins "isinstance" = some (.builtin "isinstance") := by decide +kernel
theorem bt_max : bootBuiltins "max" = some (.builtin "max") := by decide +kernel
theorem bt_min : bootBuiltins "min" = some (.builtin "min") := by decide +kernel
theorem bt_sum : bootBuiltins "sum" = some (.builtin "sum") := by decide +kernel
theorem bt_all : bootBuiltins "all" = some (.builtin "all") := by decide +kernel
theorem bt_int : bootBuiltins "int" = some (.type "int") := by decide +kernel
theorem bt_bool : bootBuiltins "bool" = some (.type "bool") := by decide +kernel
theorem bt_list : bootBuiltins "list" = some (.type "list") := by decide +kernel
theorem bt_tuple : bootBuiltins "tuple" = some (.type "tuple") := by decide +kernel
theorem bt_str : bootBuiltins "str" = some (.type "str") := by decide +kernel
theorem bt_ValueError : bootBuiltins "ValueError" = some (.type "ValueError") := by decide +kernel
noncomputable abbrev s_BadText_init : Stmt := inClass (top 9) 0
theorem sc_BadText_init : FnScope ["self", "place"] ["self", "place"] (defScope s_BadText_init) := ⟨rfl, rfl, rfl, by decide +kernel, rfl, by decide +kernel, by decide +kernel⟩
noncomputable abbrev s_is_whole : Stmt := top 13
theorem sc_is_whole : FnScope ["thing"] ["thing"] (defScope s_is_whole) := ⟨rfl, rfl, rfl, by decide +kernel, rfl, by decide +kernel, by decide +kernel⟩
noncomputable abbrev s_is_among : Stmt := top 14
theorem sc_is_among : FnScope ["thing", "least", "most"] ["thing", "least", "most"] (defScope s_is_among) := ⟨rfl, rfl, rfl, by decide +kernel, rfl, by decide +kernel, by decide +kernel⟩
noncomputable abbrev s_is_row : Stmt := top 22
theorem sc_is_row : FnScope ["row"] ["row"] (defScope s_is_row) := ⟨rfl, rfl, rfl, by decide +kernel, rfl, by decide +kernel, by decide +kernel⟩
noncomputable abbrev s_need_row : Stmt := top 23
theorem sc_need_row : FnScope ["row"] ["row"] (defScope s_need_row) := ⟨rfl, rfl, rfl, by decide +kernel, rfl, by decide +kernel, by decide +kernel⟩
noncomputable abbrev s_need_among : Stmt := top 24
theorem sc_need_among : FnScope ["number", "least", "most"] ["number", "least", "most"] (defScope s_need_among) := ⟨rfl, rfl, rfl, by decide +kernel, rfl, by decide +kernel, by decide +kernel⟩
noncomputable abbrev s_folded : Stmt := top 25
theorem sc_folded : FnScope ["number"] ["number"] (defScope s_folded) := ⟨rfl, rfl, rfl, by decide +kernel, rfl, by decide +kernel, by decide +kernel⟩
noncomputable abbrev s_unfolded : Stmt := top 26
theorem sc_unfolded : FnScope ["number", "half"] ["number"] (defScope s_unfolded) := ⟨rfl, rfl, rfl, by decide +kernel, rfl, by decide +kernel, by decide +kernel⟩
noncomputable abbrev s_packed : Stmt := top 27
theorem sc_packed : FnScope ["numbers", "width", "row", "held", "bits", "number"] ["numbers", "width"] (defScope s_packed) := ⟨rfl, rfl, rfl, by decide +kernel, rfl, by decide +kernel, by decide +kernel⟩
noncomputable abbrev s_unpacked : Stmt := top 28
theorem sc_unpacked : FnScope ["row", "many", "width", "numbers", "held", "bits", "byte"] ["row", "many", "width"] (defScope s_unpacked) := ⟨rfl, rfl, rfl, by decide +kernel, rfl, by decide +kernel, by decide +kernel⟩
noncomputable abbrev s_fill_bits : Stmt := top 29
theorem sc_fill_bits : FnScope ["row", "many", "width", "used"] ["row", "many", "width"] (defScope s_fill_bits) := ⟨rfl, rfl, rfl, by decide +kernel, rfl, by decide +kernel, by decide +kernel⟩
noncomputable abbrev s_check : Stmt := top 30
theorem sc_check : FnScope ["row", "value", "byte", "step"] ["row"] (defScope s_check) := ⟨rfl, rfl, rfl, by decide +kernel, rfl, by decide +kernel, by decide +kernel⟩
noncomputable abbrev s_row_text : Stmt := top 31
theorem sc_row_text : FnScope ["row"] ["row"] (defScope s_row_text) := ⟨rfl, rfl, rfl, by decide +kernel, rfl, by decide +kernel, by decide +kernel⟩
noncomputable abbrev s_row_of : Stmt := top 32
theorem sc_row_of : FnScope ["text", "halves", "place", "sign", "half"] ["text"] (defScope s_row_of) := ⟨rfl, rfl, rfl, by decide +kernel, rfl, by decide +kernel, by decide +kernel⟩
noncomputable abbrev s_cell_at : Stmt := top 34
theorem sc_cell_at : FnScope ["_law_script", "_law_k"] ["_law_script", "_law_k"] (defScope s_cell_at) := ⟨rfl, rfl, rfl, by decide +kernel, rfl, by decide +kernel, by decide +kernel⟩
noncomputable abbrev s_mixed : Stmt := top 35
theorem sc_mixed : FnScope ["_law_cell", "_law_k"] ["_law_cell", "_law_k"] (defScope s_mixed) := ⟨rfl, rfl, rfl, by decide +kernel, rfl, by decide +kernel, by decide +kernel⟩
noncomputable abbrev s_great : Stmt := top 36
theorem sc_great : FnScope ["_law_cell", "_law_k", "_law_number", "_law_j"] ["_law_cell", "_law_k"] (defScope s_great) := ⟨rfl, rfl, rfl, by decide +kernel, rfl, by decide +kernel, by decide +kernel⟩
noncomputable abbrev s_word : Stmt := top 37
theorem sc_word : FnScope ["_law_e", "_law_some", "_law_found"] ["_law_e"] (defScope s_word) := ⟨rfl, rfl, rfl, by decide +kernel, rfl, by decide +kernel, by decide +kernel⟩
noncomputable abbrev s_at : Stmt := top 38
theorem sc_at : FnScope ["_law_e"] ["_law_e"] (defScope s_at) := ⟨rfl, rfl, rfl, by decide +kernel, rfl, by decide +kernel, by decide +kernel⟩
noncomputable abbrev s_bytes : Stmt := top 39
theorem sc_bytes : FnScope ["_law_found", "_law_due"] ["_law_found", "_law_due"] (defScope s_bytes) := ⟨rfl, rfl, rfl, by decide +kernel, rfl, by decide +kernel, by decide +kernel⟩
noncomputable abbrev s_l_check : Stmt := top 40
theorem sc_l_check : FnScope ["_law_row", "_law_found", "_law_byte", "_law_k", "_law_out"] ["_law_row"] (defScope s_l_check) := ⟨rfl, rfl, rfl, by decide +kernel, rfl, by decide +kernel, by decide +kernel⟩
noncomputable abbrev s_refused : Stmt := top 41
theorem sc_refused : FnScope ["_law_way", "_law_thing", "_law_e"] ["_law_way", "_law_thing"] (defScope s_refused) := ⟨rfl, rfl, rfl, by decide +kernel, rfl, by decide +kernel, by decide +kernel⟩
noncomputable abbrev s_folds : Stmt := top 42
theorem sc_folds : FnScope ["_law_cell", "_law_half", "_law_number", "_law_due", "_law_found", "_law_back", "_law_odd", "_law_far", "_law_beyond", "_law_way", "_law_thing"] ["_law_cell"] (defScope s_folds) := ⟨rfl, rfl, rfl, by decide +kernel, rfl, by decide +kernel, by decide +kernel⟩
noncomputable abbrev s_packs : Stmt := top 43
theorem sc_packs : FnScope ["_law_cell", "_law_width", "_law_numbers", "_law_bits", "_law_number", "_law_due", "_law_handed", "_law_turn", "_law_found", "_law_told", "_law_spoilt", "_law_free"] ["_law_cell"] (defScope s_packs) := ⟨rfl, rfl, rfl, by decide +kernel, rfl, by decide +kernel, by decide +kernel⟩
noncomputable abbrev s_rows : Stmt := top 44
theorem sc_rows : FnScope ["_law_cell", "_law_row", "_law_handed", "_law_text_here", "_law_found", "_law_turn", "_law_told", "_law_odd"] ["_law_cell"] (defScope s_rows) := ⟨rfl, rfl, rfl, by decide +kernel, rfl, by decide +kernel, by decide +kernel⟩
noncomputable abbrev s_text : Stmt := top 45
theorem sc_text : FnScope ["_law_cell", "_law_text_here", "_law_at_here", "_law_sign", "_law_some", "_law_bent", "_law_wrong", "_law_due", "_law_found", "_law_halves", "_law_odd"] ["_law_cell", "_law_text_here"] (defScope s_text) := ⟨rfl, rfl, rfl, by decide +kernel, rfl, by decide +kernel, by decide +kernel⟩
noncomputable abbrev s_law : Stmt := top 46
theorem sc_law : FnScope ["_law_script", "_law_k", "_law_cell", "_law_turn", "_law_way"] ["_law_script"] (defScope s_law) := ⟨rfl, rfl, rfl, by decide +kernel, rfl, by decide +kernel, by decide +kernel⟩
/-- a def of the text, by its name -/
structure Df (K : PySem.W.Frag) (mg : Str → Option Value) (x : Str) (st : Stmt) (ps : List Str) (f : Addr) (fd : FuncData) : Prop where
  F : Fun K x x st f fd
  m : mg x = some (.ref f)
  b : Binds K fd ps []
/-- a method -/
structure Dm (K : PySem.W.Frag) (C : Addr) (x qual : Str) (st : Stmt) (ps : List Str) (f : Addr) (fd : FuncData) : Prop where
  F : Fun K x qual st f fd
  m : PySem.W.findIn K (.ref C) x = some (some (.ref f))
  i : PySem.W.isFn K (.ref f) = true
  b : Binds K fd ps []
/-- where the defs and the classes stand -/
structure Ad where
  f_BadText_init : Addr
  d_BadText_init : FuncData
  f_is_whole : Addr
  d_is_whole : FuncData
  f_is_among : Addr
  d_is_among : FuncData
  f_is_row : Addr
  d_is_row : FuncData
  f_need_row : Addr
  d_need_row : FuncData
  f_need_among : Addr
  d_need_among : FuncData
  f_folded : Addr
  d_folded : FuncData
  f_unfolded : Addr
  d_unfolded : FuncData
  f_packed : Addr
  d_packed : FuncData
  f_unpacked : Addr
  d_unpacked : FuncData
  f_fill_bits : Addr
  d_fill_bits : FuncData
  f_check : Addr
  d_check : FuncData
  f_row_text : Addr
  d_row_text : FuncData
  f_row_of : Addr
  d_row_of : FuncData
  f_cell_at : Addr
  d_cell_at : FuncData
  f_mixed : Addr
  d_mixed : FuncData
  f_great : Addr
  d_great : FuncData
  f_word : Addr
  d_word : FuncData
  f_at : Addr
  d_at : FuncData
  f_bytes : Addr
  d_bytes : FuncData
  f_l_check : Addr
  d_l_check : FuncData
  f_refused : Addr
  d_refused : FuncData
  f_folds : Addr
  d_folds : FuncData
  f_packs : Addr
  d_packs : FuncData
  f_rows : Addr
  d_rows : FuncData
  f_text : Addr
  d_text : FuncData
  f_law : Addr
  d_law : FuncData
  FormError : Addr
  BadNumber : Addr
  BadRow : Addr
  BadCheck : Addr
  NoKey : Addr
  BadVersion : Addr
  BadBook : Addr
  BadValue : Addr
  BadText : Addr
  BadWire : Addr
  NotKin : Addr
/-- what the top has written -/
structure Tx (K : PySem.W.Frag) (mg : Str → Option Value) (a : Ad) : Prop where
  len : mg "len" = none
  range : mg "range" = none
  isinstance : mg "isinstance" = none
  max : mg "max" = none
  min : mg "min" = none
  sum : mg "sum" = none
  all : mg "all" = none
  enumerate : mg "enumerate" = none
  int : mg "int" = none
  bool : mg "bool" = none
  list : mg "list" = none
  tuple : mg "tuple" = none
  str : mg "str" = none
  ValueError : mg "ValueError" = none
  d_BadText_init : Dm K a.BadText "__init__" "BadText.__init__" s_BadText_init ["self", "place"] a.f_BadText_init a.d_BadText_init
  d_is_whole : Df K mg "is_whole" s_is_whole ["thing"] a.f_is_whole a.d_is_whole
  d_is_among : Df K mg "is_among" s_is_among ["thing", "least", "most"] a.f_is_among a.d_is_among
  d_is_row : Df K mg "is_row" s_is_row ["row"] a.f_is_row a.d_is_row
  d_need_row : Df K mg "need_row" s_need_row ["row"] a.f_need_row a.d_need_row
  d_need_among : Df K mg "need_among" s_need_among ["number", "least", "most"] a.f_need_among a.d_need_among
  d_folded : Df K mg "folded" s_folded ["number"] a.f_folded a.d_folded
  d_unfolded : Df K mg "unfolded" s_unfolded ["number"] a.f_unfolded a.d_unfolded
  d_packed : Df K mg "packed" s_packed ["numbers", "width"] a.f_packed a.d_packed
  d_unpacked : Df K mg "unpacked" s_unpacked ["row", "many", "width"] a.f_unpacked a.d_unpacked
  d_fill_bits : Df K mg "fill_bits" s_fill_bits ["row", "many", "width"] a.f_fill_bits a.d_fill_bits
  d_check : Df K mg "check" s_check ["row"] a.f_check a.d_check
  d_row_text : Df K mg "row_text" s_row_text ["row"] a.f_row_text a.d_row_text
  d_row_of : Df K mg "row_of" s_row_of ["text"] a.f_row_of a.d_row_of
  d_cell_at : Df K mg "_law_cell_at" s_cell_at ["_law_script", "_law_k"] a.f_cell_at a.d_cell_at
  d_mixed : Df K mg "_law_mixed" s_mixed ["_law_cell", "_law_k"] a.f_mixed a.d_mixed
  d_great : Df K mg "_law_great" s_great ["_law_cell", "_law_k"] a.f_great a.d_great
  d_word : Df K mg "_law_word" s_word ["_law_e"] a.f_word a.d_word
  d_at : Df K mg "_law_at" s_at ["_law_e"] a.f_at a.d_at
  d_bytes : Df K mg "_law_bytes" s_bytes ["_law_found", "_law_due"] a.f_bytes a.d_bytes
  d_l_check : Df K mg "_law_check" s_l_check ["_law_row"] a.f_l_check a.d_l_check
  d_refused : Df K mg "_law_refused" s_refused ["_law_way", "_law_thing"] a.f_refused a.d_refused
  d_folds : Df K mg "_law_folds" s_folds ["_law_cell"] a.f_folds a.d_folds
  d_packs : Df K mg "_law_packs" s_packs ["_law_cell"] a.f_packs a.d_packs
  d_rows : Df K mg "_law_rows" s_rows ["_law_cell"] a.f_rows a.d_rows
  d_text : Df K mg "_law_text" s_text ["_law_cell", "_law_text_here"] a.f_text a.d_text
  d_law : Df K mg "law" s_law ["_law_script"] a.f_law a.d_law
  m_FormError : mg "FormError" = some (.ref a.FormError)
  m_BadNumber : mg "BadNumber" = some (.ref a.BadNumber)
  m_BadRow : mg "BadRow" = some (.ref a.BadRow)
  m_BadCheck : mg "BadCheck" = some (.ref a.BadCheck)
  m_NoKey : mg "NoKey" = some (.ref a.NoKey)
  m_BadVersion : mg "BadVersion" = some (.ref a.BadVersion)
  m_BadBook : mg "BadBook" = some (.ref a.BadBook)
  m_BadValue : mg "BadValue" = some (.ref a.BadValue)
  m_BadText : mg "BadText" = some (.ref a.BadText)
  m_BadWire : mg "BadWire" = some (.ref a.BadWire)
  m_NotKin : mg "NotKin" = some (.ref a.NotKin)
  c_MOST_NUMBER : ∃ t, mg "MOST_NUMBER" = some (.int 115792089237316195423570985008687907853269984665640564039457584007913129639935 t)
  c_MOST_WHOLE : ∃ t, mg "MOST_WHOLE" = some (.int 57896044618658097711785492504343953926634992332820282019728792003956564819967 t)
  c_CHECK_START : ∃ t, mg "CHECK_START" = some (.int 65535 t)
  c_CHECK_END : ∃ t, mg "CHECK_END" = some (.int 65536 t)
  c_CHECK_LAID_OVER : ∃ t, mg "CHECK_LAID_OVER" = some (.int 4129 t)
  c_SIGNS : ∃ t, mg "SIGNS" = some (.str "0123456789abcdef" t)
  q_NoneType_int : PySem.W.kitOne K (.type "NoneType") (.type "int") = some false
  q_NoneType_bool : PySem.W.kitOne K (.type "NoneType") (.type "bool") = some false
  q_NoneType_str : PySem.W.kitOne K (.type "NoneType") (.type "str") = some false
  q_NoneType_list : PySem.W.kitOne K (.type "NoneType") (.type "list") = some false
  q_NoneType_tuple : PySem.W.kitOne K (.type "NoneType") (.type "tuple") = some false
  q_bool_int : PySem.W.kitOne K (.type "bool") (.type "int") = some true
  q_bool_str : PySem.W.kitOne K (.type "bool") (.type "str") = some false
  q_bool_list : PySem.W.kitOne K (.type "bool") (.type "list") = some false
  q_bool_tuple : PySem.W.kitOne K (.type "bool") (.type "tuple") = some false
  q_int_bool : PySem.W.kitOne K (.type "int") (.type "bool") = some false
  q_int_str : PySem.W.kitOne K (.type "int") (.type "str") = some false
  q_int_list : PySem.W.kitOne K (.type "int") (.type "list") = some false
  q_int_tuple : PySem.W.kitOne K (.type "int") (.type "tuple") = some false
  q_str_int : PySem.W.kitOne K (.type "str") (.type "int") = some false
  q_str_bool : PySem.W.kitOne K (.type "str") (.type "bool") = some false
  q_str_list : PySem.W.kitOne K (.type "str") (.type "list") = some false
  q_str_tuple : PySem.W.kitOne K (.type "str") (.type "tuple") = some false
  q_tuple_int : PySem.W.kitOne K (.type "tuple") (.type "int") = some false
  q_tuple_bool : PySem.W.kitOne K (.type "tuple") (.type "bool") = some false
  q_tuple_str : PySem.W.kitOne K (.type "tuple") (.type "str") = some false
  q_tuple_list : PySem.W.kitOne K (.type "tuple") (.type "list") = some false
  q_list_int : PySem.W.kitOne K (.type "list") (.type "int") = some false
  q_list_bool : PySem.W.kitOne K (.type "list") (.type "bool") = some false
  q_list_str : PySem.W.kitOne K (.type "list") (.type "str") = some false
  q_list_tuple : PySem.W.kitOne K (.type "list") (.type "tuple") = some false
  q_dict_int : PySem.W.kitOne K (.type "dict") (.type "int") = some false
  q_dict_bool : PySem.W.kitOne K (.type "dict") (.type "bool") = some false
  q_dict_str : PySem.W.kitOne K (.type "dict") (.type "str") = some false
  q_dict_list : PySem.W.kitOne K (.type "dict") (.type "list") = some false
  q_dict_tuple : PySem.W.kitOne K (.type "dict") (.type "tuple") = some false
  q_BadNumber_BadNumber : PySem.W.kitOne K (.ref a.BadNumber) (.ref a.BadNumber) = some true
  q_BadNumber_BadRow : PySem.W.kitOne K (.ref a.BadNumber) (.ref a.BadRow) = some false
  q_BadNumber_BadBook : PySem.W.kitOne K (.ref a.BadNumber) (.ref a.BadBook) = some false
  q_BadNumber_BadValue : PySem.W.kitOne K (.ref a.BadNumber) (.ref a.BadValue) = some false
  q_BadNumber_BadText : PySem.W.kitOne K (.ref a.BadNumber) (.ref a.BadText) = some false
  q_BadNumber_BadWire : PySem.W.kitOne K (.ref a.BadNumber) (.ref a.BadWire) = some false
  q_BadNumber_BadCheck : PySem.W.kitOne K (.ref a.BadNumber) (.ref a.BadCheck) = some false
  q_BadNumber_NotKin : PySem.W.kitOne K (.ref a.BadNumber) (.ref a.NotKin) = some false
  q_BadNumber_NoKey : PySem.W.kitOne K (.ref a.BadNumber) (.ref a.NoKey) = some false
  q_BadNumber_BadVersion : PySem.W.kitOne K (.ref a.BadNumber) (.ref a.BadVersion) = some false
  q_BadRow_BadNumber : PySem.W.kitOne K (.ref a.BadRow) (.ref a.BadNumber) = some false
  q_BadRow_BadRow : PySem.W.kitOne K (.ref a.BadRow) (.ref a.BadRow) = some true
  q_BadRow_BadBook : PySem.W.kitOne K (.ref a.BadRow) (.ref a.BadBook) = some false
  q_BadRow_BadValue : PySem.W.kitOne K (.ref a.BadRow) (.ref a.BadValue) = some false
  q_BadRow_BadText : PySem.W.kitOne K (.ref a.BadRow) (.ref a.BadText) = some false
  q_BadRow_BadWire : PySem.W.kitOne K (.ref a.BadRow) (.ref a.BadWire) = some false
  q_BadRow_BadCheck : PySem.W.kitOne K (.ref a.BadRow) (.ref a.BadCheck) = some false
  q_BadRow_NotKin : PySem.W.kitOne K (.ref a.BadRow) (.ref a.NotKin) = some false
  q_BadRow_NoKey : PySem.W.kitOne K (.ref a.BadRow) (.ref a.NoKey) = some false
  q_BadRow_BadVersion : PySem.W.kitOne K (.ref a.BadRow) (.ref a.BadVersion) = some false
  q_BadText_BadNumber : PySem.W.kitOne K (.ref a.BadText) (.ref a.BadNumber) = some false
  q_BadText_BadRow : PySem.W.kitOne K (.ref a.BadText) (.ref a.BadRow) = some false
  q_BadText_BadBook : PySem.W.kitOne K (.ref a.BadText) (.ref a.BadBook) = some false
  q_BadText_BadValue : PySem.W.kitOne K (.ref a.BadText) (.ref a.BadValue) = some false
  q_BadText_BadText : PySem.W.kitOne K (.ref a.BadText) (.ref a.BadText) = some true
  q_BadText_BadWire : PySem.W.kitOne K (.ref a.BadText) (.ref a.BadWire) = some false
  q_BadText_BadCheck : PySem.W.kitOne K (.ref a.BadText) (.ref a.BadCheck) = some false
  q_BadText_NotKin : PySem.W.kitOne K (.ref a.BadText) (.ref a.NotKin) = some false
  q_BadText_NoKey : PySem.W.kitOne K (.ref a.BadText) (.ref a.NoKey) = some false
  q_BadText_BadVersion : PySem.W.kitOne K (.ref a.BadText) (.ref a.BadVersion) = some false
  q_BadNumber_v : PySem.W.kitOne K (.ref a.BadNumber) (.type "ValueError") = some true
  q_BadRow_v : PySem.W.kitOne K (.ref a.BadRow) (.type "ValueError") = some true
  q_BadText_v : PySem.W.kitOne K (.ref a.BadText) (.type "ValueError") = some true
  x_BadNumber : PySem.W.exmOne K (.ref a.BadNumber) (.ref a.FormError) = some true
  x_BadRow : PySem.W.exmOne K (.ref a.BadRow) (.ref a.FormError) = some true
  x_BadText : PySem.W.exmOne K (.ref a.BadText) (.ref a.FormError) = some true
  e_BadNumber : PySem.W.excIn K a.BadNumber bmV "ValueError.__new__" = true
  e_BadRow : PySem.W.excIn K a.BadRow bmV "ValueError.__new__" = true
  z_BadNumber : XCls K a.BadNumber
  z_BadRow : XCls K a.BadRow
  z_BadText : XCls K a.BadText
  k_BadText : XMk K a.BadText a.FormError a.f_BadText_init
  b_FormError : XBase K a.FormError
  n_place : PySem.W.findIn K (.ref a.BadText) "place" = some none
noncomputable def cellAt (ns : List Int) (k : Int) : Int := ns.getD k.toNat 0
noncomputable def mixed (c k : Int) : Int := (c + 7919 * k + 1) ^ 3 * 48271 % 2147483647
theorem mixed_nn (c k : Int) : 0 ≤ mixed c k := Int.emod_nonneg _ (by decide)
theorem mixed_lt (c k : Int) : mixed c k < 2147483647 := Int.emod_lt_of_pos _ (by decide)
noncomputable def sp_cell_at (K : PySem.W.Frag) : Sp := fun vs H Q _ => ∃ (a : Addr) (ns : List Int) (k : Int), vs = [.ref a, .int k] ∧ SqL K H a (ns.map V.int) ∧ 0 ≤ k ∧ Q (.int (cellAt ns k)) H
noncomputable def sp_mixed : Sp := fun vs H Q _ => ∃ (c k : Int), vs = [.int c, .int k] ∧ Builtin.Int.intBits c ≤ 1048576 ∧ 0 ≤ k ∧ k ≤ 1000000 ∧ Q (.int (mixed c k)) H
noncomputable def sp_great : Sp := fun vs H Q _ => ∃ (c k : Int), vs = [.int c, .int k] ∧ Builtin.Int.intBits c ≤ 1048576 ∧ 0 ≤ k ∧ k ≤ 1000 ∧ ∀ g : Int, 0 ≤ g → g < 2147483648 ^ 8 → Q (.int g) H
noncomputable def spLaw (K : PySem.W.Frag) : Sp := fun vs H Q _ => ∃ (a : Addr) (ns : List Int), vs = [.ref a] ∧ SqL K H a (ns.map V.int) ∧ ns.length ≤ 63 ∧ (∀ i ∈ ns, Builtin.Int.intBits i ≤ 1048576) ∧ ∀ H', Q (.bl true) H'
theorem cell_bits {ns : List Int} (h : ∀ i ∈ ns, Builtin.Int.intBits i ≤ 1048576) (k : Int) : Builtin.Int.intBits (cellAt ns k) ≤ 1048576 := by
  unfold cellAt
  rw [List.getD_eq_getElem?_getD]
  cases e : ns[k.toNat]? with
  | none => exact Nat.le_trans (intBits_le_64 (by decide) (by decide)) (by decide)
  | some i => exact h i (List.mem_of_getElem? e)
theorem bits_small {c : Int} (h0 : 0 ≤ c) (h1 : c < 2147483647) : Builtin.Int.intBits c ≤ 1048576 := Nat.le_trans (intBits_le_64 (by (first | lia | omega)) (by (first | lia | omega))) (by decide)
section
variable {P : Program} {w : World} {K : PySem.W.Frag} {mg : Str → Option Value} {base : Heap} {a : Ad}
theorem ok_cell_at (T : Tx K mg a) : FnOk P w K mg base CX0 1 a.f_cell_at a.d_cell_at ["_law_script", "_law_k"] (sp_cell_at K) := by
  refine T.d_cell_at.F.ok sc_cell_at (fun vs H Q E h => ?_) (fun cdv A outer s H vs Q E hr h => ?_)
  · obtain ⟨a, ns, k, rfl, _⟩ := h
    rfl
  · obtain ⟨a, ns, k, rfl, hS, h0, q⟩ := h
    refine ⟨_, pss_cons (ps_if (pt_cmpR op_lt (pv 1) (pe_callB call_len_seq (by rfl) T.len bt_len (pa_cons (pv 0) pa_nil)) (nomark _)) (pss_one (ps_ret (pe_ix ix_list (pv 0) (pv 1) (fun _ _ => rfl)))) pss_nil) (pss_one (ps_ret pe_int)), ?_⟩
    refine ⟨_, rfl, _, rfl, a, _, rfl, .inl hS, _, _, rfl, rfl, _, rfl, ?_⟩
    refine ite2 (fun hk => ?_) (fun hk => ?_)
    · have hk' : k < (ns.length : Int) := by simpa using of_decide_eq_true hk
      refine ⟨_, rfl, _, rfl, a, _, k, _, rfl, rfl, hS, ?_, q⟩
      have hlt : k.toNat < ns.length := by (first | lia | omega)
      have e2 : atI (ns.map V.int) ((k.toNat : Nat) : Int) = some (V.int (cellAt ns k)) := atI_nat (by
        rw [List.getElem?_map]
        unfold cellAt
        simp [List.getD, hlt])
      have e : ((k.toNat : Nat) : Int) = k := by (first | lia | omega)
      rw [e] at e2
      exact e2
    · have hk' : ¬ k < (ns.length : Int) := by simpa using hk
      have e : cellAt ns k = 0 := by
        unfold cellAt
        have hlt : ns.length ≤ k.toNat := by (first | lia | omega)
        simp [List.getD, hlt]
      rw [e] at q
      exact q
theorem ok_mixed (T : Tx K mg a) : FnOk P w K mg base CX0 1 a.f_mixed a.d_mixed ["_law_cell", "_law_k"] sp_mixed := by
  refine T.d_mixed.F.ok sc_mixed (fun vs H Q E h => ?_) (fun cdv A outer s H vs Q E hr h => ?_)
  · obtain ⟨c, k, rfl, _⟩ := h
    rfl
  · obtain ⟨c, k, rfl, hb, h0, h1, q⟩ := h
    refine ⟨_, pss_one (ps_ret (pe_op op_mod (pe_op op_mul (pe_op op_powB (pe_op op_add (pe_op op_add (pv 0) (pe_op op_mul pe_int (pv 1))) pe_int) pe_int) pe_int) pe_int)), ?_⟩
    refine ⟨_, rfl, _, rfl, _, _, rfl, rfl, .inl ⟨by decide, by decide⟩, _, _, rfl, rfl, _, _, rfl, rfl, _, _, rfl, rfl, ⟨by decide, ?_⟩, _, _, rfl, rfl, .inr ⟨by decide, by decide⟩, _, _, rfl, rfl, (by show (0 : Int) < 2147483647; decide), q⟩
    show (Builtin.Int.intBits (c + 7919 * k + 1) : Int) * 3 ≤ 2 ^ 27
    have b1 : Builtin.Int.intBits (7919 * k) ≤ 64 := intBits_le_64 (by (first | lia | omega)) (by (first | lia | omega))
    have b2 := intBits_add_le hb b1
    have b3 : Builtin.Int.intBits (1 : Int) ≤ 64 := intBits_le_64 (by decide) (by decide)
    have b4 := intBits_add_le b2 b3
    have e1 : max (max 1048576 64 + 1) 64 + 1 = 1048578 := by decide
    rw [e1] at b4
    have e2 : (2 : Int) ^ 27 = 134217728 := by decide
    rw [e2]
    (first | lia | omega)
theorem ok_great (T : Tx K mg a) : FnOk P w K mg base CX0 2 a.f_great a.d_great ["_law_cell", "_law_k"] sp_great := by
  have GM : FnOk P w K mg base CX0 1 a.f_mixed a.d_mixed ["_law_cell", "_law_k"] sp_mixed := ok_mixed T
  refine T.d_great.F.ok sc_great (fun vs H Q E h => ?_) (fun cdv A outer s H vs Q E hr h => ?_)
  · obtain ⟨c, k, rfl, _⟩ := h
    rfl
  · obtain ⟨c, k, rfl, hb, h0, h1, q⟩ := h
    refine ⟨_, pss_cons (ps_set (i := 2) sc_great.nd rfl (Or.inl rfl) pe_int) (pss_cons (ps_for PassesOwn.never rfl (pi_range1 rfl T.range (pa_cons pe_int pa_nil)) (pg_name (i := 3) sc_great.nd rfl (Or.inl rfl))
      (pss_one (ps_set (i := 2) sc_great.nd rfl (Or.inl rfl) (pe_op op_add (pe_op op_mul (pv 2) pe_int) (pe_call GM hr rfl T.d_mixed.m T.d_mixed.F.kp T.d_mixed.b .nil pass0 (pa_cons (pv 0) (pa_cons (pe_op op_add (pe_op op_mul pe_int (pv 1)) (pv 3)) pa_nil)))))))
      (pss_one (ps_ret (pv 2)))), ?_⟩
    refine ⟨8, rfl, by decide, by decide, for_range (n := 8) (fun i σ H' => H' = H ∧ ∃ (g : Int) (v : Option V), σ = [some (.int c), some (.int k), some (.int g), v] ∧ 0 ≤ g ∧ g < 2147483648 ^ i) ⟨rfl, 0, none, rfl, by decide, by decide⟩ ?_ ?_⟩
    · rintro i σ H' hi ⟨rfl, g, v, rfl, g0, g1⟩
      refine ⟨_, rfl, _, _, rfl, rfl, .inr ⟨by decide, by decide⟩, _, rfl, _, rfl, _, _, rfl, rfl, .inl ⟨by decide, by decide⟩, _, rfl, _, _, rfl, rfl, c, _, rfl, hb, by (first | lia | omega), by (first | lia | omega), _, _, rfl, rfl, ?_⟩
      refine ⟨rfl, _, _, rfl, ?_, ?_⟩
      · have := mixed_nn c (8 * k + (0 + (i : Int)))
        (first | lia | omega)
      · have := mixed_lt c (8 * k + (0 + (i : Int)))
        rw [Int.pow_succ]
        (first | lia | omega)
    · rintro σ H' ⟨rfl, g, v, rfl, g0, g1⟩
      exact ⟨_, rfl, q g g0 g1⟩
theorem nd_word : ((["_law_word_here", "_law_good"] : List Str) ++ ([] : List Str)).Nodup := by decide +kernel
/-- what isinstance tells of a class for each word -/
structure Wd (K : PySem.W.Frag) (a : Ad) (C : Addr) (bs : List Bool) : Prop where
  k1 : PySem.W.kitOne K (.ref C) (.ref a.BadNumber) = some (bs.getD 0 false)
  k2 : PySem.W.kitOne K (.ref C) (.ref a.BadRow) = some (bs.getD 1 false)
  k3 : PySem.W.kitOne K (.ref C) (.ref a.BadBook) = some (bs.getD 2 false)
  k4 : PySem.W.kitOne K (.ref C) (.ref a.BadValue) = some (bs.getD 3 false)
  k5 : PySem.W.kitOne K (.ref C) (.ref a.BadText) = some (bs.getD 4 false)
  k6 : PySem.W.kitOne K (.ref C) (.ref a.BadWire) = some (bs.getD 5 false)
  k7 : PySem.W.kitOne K (.ref C) (.ref a.BadCheck) = some (bs.getD 6 false)
  k8 : PySem.W.kitOne K (.ref C) (.ref a.NotKin) = some (bs.getD 7 false)
  k9 : PySem.W.kitOne K (.ref C) (.ref a.NoKey) = some (bs.getD 8 false)
  k10 : PySem.W.kitOne K (.ref C) (.ref a.BadVersion) = some (bs.getD 9 false)
  kv : PySem.W.kitOne K (.ref C) (.type "ValueError") = some true
  z : XCls K C
noncomputable def sp_word (C : Addr) (word : Str) : Sp := fun vs H Q _ => ∃ e dx a0 tb, vs = [.ref e] ∧ H e = some (xHO e (xObj (.ref C) dx a0 tb)) ∧ (dx = none ∨ ∃ d fs, dx = some d ∧ H d = some (.xd fs)) ∧ ∀ H', Same H H' → Q (.str word) H'
noncomputable def wordsOf (bs : List Bool) : List (Str × Bool) := [("number", bs.getD 0 false), ("row", bs.getD 1 false), ("book", bs.getD 2 false), ("value", bs.getD 3 false), ("text", bs.getD 4 false), ("wire", bs.getD 5 false), ("check", bs.getD 6 false), ("kin", bs.getD 7 false), ("key", bs.getD 8 false), ("version", bs.getD 9 false)]
set_option maxHeartbeats 8000000 in
theorem ok_word {C : Addr} {bs : List Bool} {word : Str} (T : Tx K mg a) (W : Wd K a C bs) (hw : ((wordsOf bs).filter (·.2)).map (fun p => V.str p.1) = [V.str word]) : FnOk P w K mg base CXS 1 a.f_word a.d_word ["_law_e"] (sp_word C word) := by
  refine T.d_word.F.ok sc_word (fun vs H Q E h => ?_) (fun cdv A outer s H vs Q E hr h => ?_)
  · obtain ⟨e, dx, a0, tb, rfl, _⟩ := h
    rfl
  · obtain ⟨e, dx, a0, tb, rfl, hE, hdx, q⟩ := h
    have hu := hr.units
    have x0 : ExAt H e C := ⟨dx, a0, tb, hE, hdx⟩
    refine ⟨_, pss_cons (ps_set (i := 1) sc_word.nd rfl (Or.inl rfl) (pe_lstP (pa_consP (pe_pr W.z W.k1 (pe_tup (pa_cons pe_str (pa_cons (pe_callB call_isinstX rfl T.isinstance bt_isinstance (pa_cons (pv 0) (pa_cons (pcl T.m_BadNumber) pa_nil))) pa_nil)))) (pa_consP (pe_pr W.z W.k2 (pe_tup (pa_cons pe_str (pa_cons (pe_callB call_isinstX rfl T.isinstance bt_isinstance (pa_cons (pv 0) (pa_cons (pcl T.m_BadRow) pa_nil))) pa_nil)))) (pa_consP (pe_pr W.z W.k3 (pe_tup (pa_cons pe_str (pa_cons (pe_callB call_isinstX rfl T.isinstance bt_isinstance (pa_cons (pv 0) (pa_cons (pcl T.m_BadBook) pa_nil))) pa_nil)))) pa_nilP)))))
      (pss_cons (ps_set (i := 1) sc_word.nd rfl (Or.inl rfl) (pe_catP (pv 1) (pe_lstP (pa_consP (pe_pr W.z W.k4 (pe_tup (pa_cons pe_str (pa_cons (pe_callB call_isinstX rfl T.isinstance bt_isinstance (pa_cons (pv 0) (pa_cons (pcl T.m_BadValue) pa_nil))) pa_nil)))) (pa_consP (pe_pr W.z W.k5 (pe_tup (pa_cons pe_str (pa_cons (pe_callB call_isinstX rfl T.isinstance bt_isinstance (pa_cons (pv 0) (pa_cons (pcl T.m_BadText) pa_nil))) pa_nil)))) pa_nilP)))))
      (pss_cons (ps_set (i := 1) sc_word.nd rfl (Or.inl rfl) (pe_catP (pv 1) (pe_lstP (pa_consP (pe_pr W.z W.k6 (pe_tup (pa_cons pe_str (pa_cons (pe_callB call_isinstX rfl T.isinstance bt_isinstance (pa_cons (pv 0) (pa_cons (pcl T.m_BadWire) pa_nil))) pa_nil)))) (pa_consP (pe_pr W.z W.k7 (pe_tup (pa_cons pe_str (pa_cons (pe_callB call_isinstX rfl T.isinstance bt_isinstance (pa_cons (pv 0) (pa_cons (pcl T.m_BadCheck) pa_nil))) pa_nil)))) pa_nilP)))))
      (pss_cons (ps_set (i := 1) sc_word.nd rfl (Or.inl rfl) (pe_catP (pv 1) (pe_lstP (pa_consP (pe_pr W.z W.k8 (pe_tup (pa_cons pe_str (pa_cons (pe_callB call_isinstX rfl T.isinstance bt_isinstance (pa_cons (pv 0) (pa_cons (pcl T.m_NotKin) pa_nil))) pa_nil)))) (pa_consP (pe_pr W.z W.k9 (pe_tup (pa_cons pe_str (pa_cons (pe_callB call_isinstX rfl T.isinstance bt_isinstance (pa_cons (pv 0) (pa_cons (pcl T.m_NoKey) pa_nil))) pa_nil)))) pa_nilP)))))
      (pss_cons (ps_set (i := 1) sc_word.nd rfl (Or.inl rfl) (pe_catP (pv 1) (pe_lstP (pa_consP (pe_pr W.z W.k10 (pe_tup (pa_cons pe_str (pa_cons (pe_callB call_isinstX rfl T.isinstance bt_isinstance (pa_cons (pv 0) (pa_cons (pcl T.m_BadVersion) pa_nil))) pa_nil)))) pa_nilP))))
      (pss_cons (ps_setCompS (i := 2) (ts := ["_law_word_here", "_law_good"]) (xs := []) (js := []) rfl ⟨rfl, rfl, by decide +kernel, by decide +kernel, freeIn rfl⟩ .nil (by decide +kernel) (pi_list (pv 1))
          (fun C s₀ H₀ fp => pg_tupSK (X := cxC _ _ _ C s₀ H₀ fp) K rfl (n := 2) rfl (pgs_cons (pg_name (i := 0) nd_word rfl (Or.inl rfl) (Or.inr rfl)) (pgs_cons (pg_name (i := 1) nd_word rfl (Or.inl rfl) (Or.inr rfl)) pgs_nil)))
          (fun _ _ _ _ => pif_one (pt_val (pv 1))) (fun _ _ _ _ => pv 0) sc_word.nd rfl (Or.inl rfl) rfl)
      (pss_one (ps_ret (pe_ifExp (pw_and (pt_cmpR op_eq (pe_callB call_len_seq (by rfl) T.len bt_len (pa_cons (pv 2) pa_nil)) pe_int (nomark _)) (pw_and1 (pt_val (pe_callB call_isinstX (by rfl) T.isinstance bt_isinstance (pa_cons (pv 0) (pa_cons (pty T.ValueError bt_ValueError) pa_nil)))))).pt
        (pe_ix ix_list (pv 2) pe_int (fun _ _ => rfl)) pe_str)))))))), ?_⟩
    refine hide1 fun U hU => ?_
    refine ⟨e, rfl, x0, by show 3 ≤ sizeLine; decide, fun l1 ts1 H1 s1 hl1 hp1 => ?_⟩
    refine hU _ _ _ ?_
    clear hU
    refine hide1 fun U hU => ?_
    refine ⟨e, l1, ts1, _, rfl, rfl, x0.same s1, hl1, hp1, by show 2 ≤ sizeLine; decide, by show 5 ≤ sizeLine; decide, fun l2 ts2 H2 r2 hl2 hp2 => ?_⟩
    have s2 := s1.trans r2
    refine hU _ _ _ ?_
    clear hU
    refine hide1 fun U hU => ?_
    refine ⟨e, l2, ts2, _, rfl, rfl, x0.same s2, hl2, hp2, by show 2 ≤ sizeLine; decide, by show 7 ≤ sizeLine; decide, fun l3 ts3 H3 r3 hl3 hp3 => ?_⟩
    have s3 := s2.trans r3
    refine hU _ _ _ ?_
    clear hU
    refine hide1 fun U hU => ?_
    refine ⟨e, l3, ts3, _, rfl, rfl, x0.same s3, hl3, hp3, by show 2 ≤ sizeLine; decide, by show 9 ≤ sizeLine; decide, fun l4 ts4 H4 r4 hl4 hp4 => ?_⟩
    have s4 := s3.trans r4
    refine hU _ _ _ ?_
    clear hU
    refine hide1 fun U hU => ?_
    refine ⟨e, l4, ts4, _, rfl, rfl, x0.same s4, hl4, hp4, by show 1 ≤ sizeLine; decide, by show 10 ≤ sizeLine; decide, fun l5 ts5 H5 r5 hl5 hp5 => ?_⟩
    have s5 := s4.trans r5
    refine hU _ _ _ ?_
    clear hU
    refine hide1 fun U hU => ?_
    obtain ⟨dx, a0, tb, hE, hdx⟩ := x0.same s5
    refine ⟨_, rfl, l5, rfl, ⟨_, SqL.of hl5⟩, ?_⟩
    refine comp_pairs (prs := wordsOf bs) hl5 hp5.1 (by show 10 ≤ 1000; decide) hp5.2 rfl ?_
    intro D hD
    rw [hw]
    refine hU _ _ _ ?_
    clear hU
    refine ⟨_, rfl, D, _, rfl, .inl (SqL.of upd_same), rfl, _, rfl, iteP rfl ?_⟩
    refine ⟨_, rfl, e, C, dx, a0, tb, _, _, _, rfl, keepH hE hD, W.z, keepX hdx hD, .inr ⟨_, rfl, rfl⟩, W.kv, _, rfl, iteT ?_⟩
    exact ⟨_, rfl, D, _, 0, _, rfl, rfl, SqL.of upd_same, rfl, q _ (s5.trans (sameU hD))⟩
end
end K4

set_option genSizeOf false
namespace K4
open PySem L2
theorem small {n : Nat} (h : n ≤ 1000) : n ≤ sizeLine := Nat.le_of_lt (small1000 h)
theorem nf {b : Bool} (h : ¬ b = true) : b = false := by cases b <;> simp at h ⊢
/-- the first r bytes of a number -/
noncomputable def rowV (N r : Nat) : List V := (List.range r).map fun j => V.int ((dig N j : Nat) : Int)
noncomputable def natV (ns : List Nat) : List V := ns.map fun (n : Nat) => V.int (n : Int)
theorem natV_len (ns : List Nat) : (natV ns).length = ns.length := by unfold natV; rw [List.length_map]
theorem rowV_len (N r : Nat) : (rowV N r).length = r := by unfold rowV; rw [List.length_map, List.length_range]
theorem rowV_succ (N r : Nat) : rowV N r ++ [V.int ((dig N r : Nat) : Int)] = rowV N (r + 1) := by
  unfold rowV
  rw [List.range_succ, List.map_append]
  rfl
theorem rowV_step {w r bits n : Nat} {l : List Nat} (h : bits + 8 * r = w * l.length) : rowV (val w (l ++ [n])) r = rowV (val w l) r := by
  unfold rowV
  apply List.map_congr_left
  intro j hj
  rw [dig_step h (List.mem_range.mp hj)]
theorem pow_small {b : Nat} (h : b < 8) : 2 ^ b ≤ 128 := Nat.pow_le_pow_right (n := 2) (by decide) (show b ≤ 7 by (first | lia | omega))
section
variable {P : Program} {w : World} {K : PySem.W.Frag} {mg : Str → Option Value} {base : Heap} {a : Ad}
noncomputable def sp_packed (K : PySem.W.Frag) : Sp := fun vs H Q _ => ∃ (p : Addr) (ns : List Nat) (wd : Nat), vs = [.ref p, .int wd] ∧ H p = some (.lst (natV ns)) ∧ 1 ≤ wd ∧ wd ≤ 8 ∧ ns.length ≤ 100 ∧ (∀ n ∈ ns, n < 2 ^ wd) ∧
  ∀ q, H q = none → Q (.ref q) (upd H q (.lst (rowV (val wd ns) ((wd * ns.length + 7) / 8))))
set_option maxHeartbeats 1000000 in
theorem ok_packed (T : Tx K mg a) : FnOk P w K mg base CX0 1 a.f_packed a.d_packed ["numbers", "width"] (sp_packed K) := by
  refine T.d_packed.F.ok sc_packed (fun vs H Q E h => ?_) (fun cdv A outer s H vs Q E hr h => ?_)
  · obtain ⟨p, ns, wd, rfl, _⟩ := h
    rfl
  · obtain ⟨p, ns, wd, rfl, hp, hw1, hw8, hlen, hns, q⟩ := h
    refine ⟨_, pss_cons (ps_set (i := 2) sc_packed.nd rfl (Or.inl rfl) (pe_lst pa_nil))
      (pss_cons (ps_set (i := 3) sc_packed.nd rfl (Or.inl rfl) pe_int)
      (pss_cons (ps_set (i := 4) sc_packed.nd rfl (Or.inl rfl) pe_int)
      (pss_cons (ps_for PassesOwn.never rfl (pi_list (pv 0)) (pg_name (i := 5) sc_packed.nd rfl (Or.inl rfl))
        (pss_cons (ps_set (i := 3) sc_packed.nd rfl (Or.inl rfl) (pe_op op_add (pv 3) (pe_op op_shl (pv 5) (pv 4))))
          (pss_cons (ps_set (i := 4) sc_packed.nd rfl (Or.inl rfl) (pe_op op_add (pv 4) (pv 1)))
          (pss_one (ps_if (pt_cmpR op_ge (pv 4) pe_int (nomark _))
            (pss_cons (ps_expr (pe_bm PySem.F.plainAttrs_list PySem.F.slot_list_append PySem.F.type_list_append mt_append (pv 2) (pa_cons (pe_op op_mod (pv 3) pe_int) pa_nil)))
              (pss_cons (ps_set (i := 3) sc_packed.nd rfl (Or.inl rfl) (pe_op op_fdiv (pv 3) pe_int))
              (pss_one (ps_set (i := 4) sc_packed.nd rfl (Or.inl rfl) (pe_op op_sub (pv 4) pe_int)))))
            pss_nil)))))
      (pss_cons (ps_if (pt_cmpR op_gt (pv 4) pe_int (nomark _))
        (pss_one (ps_expr (pe_bm PySem.F.plainAttrs_list PySem.F.slot_list_append PySem.F.type_list_append mt_append (pv 2) (pa_cons (pv 3) pa_nil))))
        pss_nil)
      (pss_one (ps_ret (pv 2))))))), ?_⟩
    refine hide4 fun U hU => ?_
    refine ⟨by decide, fun qa hq => ⟨_, rfl, p, rfl, ⟨_, SqL.of (keepH hp hq)⟩, ?_⟩⟩
    have hpq : p ≠ qa := ne_of_none hp hq
    have big : ∀ {r : Nat}, r ≤ 100 → r < sizeLine := fun {r} h => small1000 (by (first | lia | omega))
    refine for_list (xs := natV ns) (fun i σ H' => i ≤ ns.length ∧ H' = upd H qa (.lst (rowV (val wd (ns.take i)) (wd * i / 8))) ∧ ∃ v5, σ = [some (.ref p), some (.int wd), some (.ref qa), some (.int ((val wd (ns.take i) / 256 ^ (wd * i / 8) : Nat) : Int)), some (.int ((wd * i % 8 : Nat) : Int)), v5])
      ⟨Nat.zero_le _, by simp [rowV], none, by simp [val]; rfl⟩ (fun i σ H' _ h => by obtain ⟨_, rfl, _⟩ := h; exact SqL.of (by rw [upd_ne hpq]; exact hp)) ?_ ?_
    · rintro i x σ H' hx ⟨hil, rfl, v5, rfl⟩
      unfold natV at hx
      rw [List.getElem?_map] at hx
      cases hn : ns[i]? with
      | none => rw [hn] at hx; cases hx
      | some n =>
        rw [hn] at hx
        cases hx
        have hi : i < ns.length := (List.getElem?_eq_some_iff.mp hn).1
        have hn2 := hns n (List.mem_of_getElem? hn)
        have hn256 : n < 256 := Nat.lt_of_lt_of_le hn2 (Nat.pow_le_pow_right (n := 2) (by decide) hw8)
        have et : ns.take (i + 1) = ns.take i ++ [n] := by rw [List.take_add_one, hn]; rfl
        have el : (ns.take i).length = i := by rw [List.length_take]; (first | lia | omega)
        have hb : wd * i % 8 + 8 * (wd * i / 8) = wd * (ns.take i).length := by rw [el]; exact Nat.mod_add_div _ _
        have hs := held_step (n := n) hb
        have hrow := rowV_step (n := n) hb
        have hwi : wd * i ≤ 800 := Nat.le_trans (Nat.mul_le_mul hw8 (show i ≤ 100 by (first | lia | omega))) (by decide)
        have hb8 : wd * i % 8 < 8 := Nat.mod_lt _ (by decide)
        have eshl : ((val wd (ns.take i) / 256 ^ (wd * i / 8) : Nat) : Int) + (n : Int) * 2 ^ (((wd * i % 8 : Nat) : Int)).toNat = ((val wd (ns.take (i + 1)) / 256 ^ (wd * i / 8) : Nat) : Int) := by
          rw [et, hs, Int.toNat_natCast]
          simp
        refine hide2 fun U hU => ?_
        refine ⟨_, rfl, _, rfl, _, rfl, _, _, rfl, rfl, ⟨by (first | lia | omega), by (first | lia | omega), by simp; (first | lia | omega)⟩, _, _, rfl, rfl, ?_⟩
        refine ⟨_, rfl, _, rfl, _, _, rfl, rfl, ?_⟩
        refine hU _ _ _ ?_
        clear hU
        refine ⟨_, rfl, _, _, rfl, rfl, _, rfl, ite2 (fun h8 => ?_) (fun h8 => ?_)⟩
        · have h8' : 8 ≤ wd * i % 8 + wd := by
            have : (8 : Int) ≤ ((wd * i % 8 : Nat) : Int) + (wd : Int) := of_decide_eq_true h8
            (first | lia | omega)
          have e1 : wd * (i + 1) / 8 = wd * i / 8 + 1 := by rw [Nat.mul_succ]; (first | lia | omega)
          have e2 : wd * (i + 1) % 8 = wd * i % 8 + wd - 8 := by rw [Nat.mul_succ]; (first | lia | omega)
          refine ⟨_, rfl, .inl ⟨rfl, _, SqL.of upd_same⟩, _, rfl, _, _, rfl, rfl, (by show (0 : Int) < 256; decide), qa, _, _, rfl, rfl, upd_same, by rw [rowV_len]; exact big (by (first | lia | omega)), _, rfl, _, _, rfl, rfl, ⟨by decide, by decide⟩, _, rfl, _, _, rfl, rfl, ?_⟩
          refine ⟨hi, ?_, some (.int n), ?_⟩
          · rw [upd_upd, e1, ← rowV_succ, ← hrow, ← et]
            congr 4
            rw [eshl]
            unfold dig
            congr 1
          · show [some (V.ref p), some (.int wd), some (.ref qa), some (.int ((((val wd (ns.take i) / 256 ^ (wd * i / 8) : Nat) : Int) + (n : Int) * 2 ^ (((wd * i % 8 : Nat) : Int)).toNat) / 256)), some (.int (((wd * i % 8 : Nat) : Int) + (wd : Int) - 8)), some (.int n)] = _
            rw [eshl, e1, e2, ← div_step]
            have ed : ((val wd (ns.take (i + 1)) / 256 ^ (wd * i / 8) : Nat) : Int) / 256 = ((val wd (ns.take (i + 1)) / 256 ^ (wd * i / 8) / 256 : Nat) : Int) := by (first | lia | omega)
            have eb : ((wd * i % 8 : Nat) : Int) + (wd : Int) - 8 = ((wd * i % 8 + wd - 8 : Nat) : Int) := by (first | lia | omega)
            rw [ed, eb]
        · have h8' : ¬ 8 ≤ wd * i % 8 + wd := by
            have : ¬ (8 : Int) ≤ ((wd * i % 8 : Nat) : Int) + (wd : Int) := of_decide_eq_false (nf h8)
            (first | lia | omega)
          have e1 : wd * (i + 1) / 8 = wd * i / 8 := by rw [Nat.mul_succ]; (first | lia | omega)
          have e2 : wd * (i + 1) % 8 = wd * i % 8 + wd := by rw [Nat.mul_succ]; (first | lia | omega)
          refine ⟨hi, by rw [e1, et, hrow], some (.int n), ?_⟩
          show [some (V.ref p), some (.int wd), some (.ref qa), some (.int (((val wd (ns.take i) / 256 ^ (wd * i / 8) : Nat) : Int) + (n : Int) * 2 ^ (((wd * i % 8 : Nat) : Int)).toNat)), some (.int (((wd * i % 8 : Nat) : Int) + (wd : Int))), some (.int n)] = _
          rw [eshl, e1, e2]
          have eb : ((wd * i % 8 : Nat) : Int) + (wd : Int) = ((wd * i % 8 + wd : Nat) : Int) := by (first | lia | omega)
          rw [eb]
    · rintro σ H' ⟨_, e1, v5, e2⟩
      refine hU _ _ _ ?_
      clear hU
      rw [natV_len, List.take_length] at e1 e2
      subst e1 e2
      have hN := val_lt wd ns hns
      have hdm := Nat.mod_add_div (wd * ns.length) 8
      have hb8 : wd * ns.length % 8 < 8 := Nat.mod_lt _ (by decide)
      have hwi : wd * ns.length ≤ 800 := Nat.le_trans (Nat.mul_le_mul hw8 hlen) (by decide)
      have hheld : val wd ns / 256 ^ (wd * ns.length / 8) < 2 ^ (wd * ns.length % 8) := by
        apply Nat.div_lt_of_lt_mul
        rw [pow256, ← Nat.pow_add, Nat.add_comm]
        rw [hdm]
        exact hN
      have q' := q qa hq
      refine ⟨_, rfl, _, _, rfl, rfl, _, rfl, ite2 (fun hb => ?_) (fun hb => ?_)⟩
      · have hb' : 0 < wd * ns.length % 8 := by
          have : (0 : Int) < ((wd * ns.length % 8 : Nat) : Int) := of_decide_eq_true hb
          (first | lia | omega)
        have hp2 := pow_small hb8
        have ed : dig (val wd ns) (wd * ns.length / 8) = val wd ns / 256 ^ (wd * ns.length / 8) := Nat.mod_eq_of_lt (by (first | lia | omega))
        refine ⟨_, rfl, .inl ⟨rfl, _, SqL.of upd_same⟩, _, rfl, qa, _, _, rfl, rfl, upd_same, by rw [rowV_len]; exact big (by (first | lia | omega)), _, rfl, ?_⟩
        rw [upd_upd, ← ed, rowV_succ, show wd * ns.length / 8 + 1 = (wd * ns.length + 7) / 8 by (first | lia | omega)]
        exact q'
      · have hb' : wd * ns.length % 8 = 0 := by
          have : ¬ (0 : Int) < ((wd * ns.length % 8 : Nat) : Int) := of_decide_eq_false (nf hb)
          (first | lia | omega)
        refine ⟨_, rfl, ?_⟩
        rw [show wd * ns.length / 8 = (wd * ns.length + 7) / 8 by (first | lia | omega)]
        exact q'
end
end K4

set_option genSizeOf false
namespace K4
open PySem L2
theorem or_split : ∀ (n x y : Nat), x < 2 ^ n → y < 2 ^ n → x ||| y = (x &&& y) + (x ^^^ y)
  | 0, x, y, hx, hy => by
    have e1 : x = 0 := by (first | lia | omega)
    have e2 : y = 0 := by (first | lia | omega)
    rw [e1, e2]
    rfl
  | n + 1, x, y, hx, hy => by
    rw [Nat.pow_succ] at hx hy
    have ih := or_split n (x / 2) (y / 2) (by (first | lia | omega)) (by (first | lia | omega))
    have o1 := Nat.or_div_two (a := x) (b := y)
    have a1 := Nat.and_div_two (a := x) (b := y)
    have x1 := Nat.xor_div_two (a := x) (b := y)
    have o2 : (x ||| y) % 2 = (x % 2 ||| y % 2) := Nat.or_mod_two_pow (n := 1)
    have a2 : (x &&& y) % 2 = (x % 2 &&& y % 2) := Nat.and_mod_two_pow (n := 1)
    have x2 : (x ^^^ y) % 2 = (x % 2 ^^^ y % 2) := Nat.xor_mod_two_pow (n := 1)
    have hx2 : x % 2 = 0 ∨ x % 2 = 1 := by (first | lia | omega)
    have hy2 : y % 2 = 0 ∨ y % 2 = 1 := by (first | lia | omega)
    rcases hx2 with hx2 | hx2 <;> rcases hy2 with hy2 | hy2 <;> rw [hx2, hy2] at o2 a2 x2
    · have o3 : (x ||| y) % 2 = 0 := o2
      have a3 : (x &&& y) % 2 = 0 := a2
      have x3 : (x ^^^ y) % 2 = 0 := x2
      (first | lia | omega)
    · have o3 : (x ||| y) % 2 = 1 := o2
      have a3 : (x &&& y) % 2 = 0 := a2
      have x3 : (x ^^^ y) % 2 = 1 := x2
      (first | lia | omega)
    · have o3 : (x ||| y) % 2 = 1 := o2
      have a3 : (x &&& y) % 2 = 0 := a2
      have x3 : (x ^^^ y) % 2 = 1 := x2
      (first | lia | omega)
    · have o3 : (x ||| y) % 2 = 1 := o2
      have a3 : (x &&& y) % 2 = 1 := a2
      have x3 : (x ^^^ y) % 2 = 0 := x2
      (first | lia | omega)
theorem bxor (x y : Nat) : Builtin.bitXor (x : Int) (y : Int) = ((x ^^^ y : Nat) : Int) := by
  have hand : Spec.bitAnd (x : Int) (y : Int) = ((x &&& y : Nat) : Int) := by
    unfold Spec.bitAnd
    rw [decide_eq_true (Int.natCast_nonneg x), decide_eq_true (Int.natCast_nonneg y)]
    rfl
  have hor : Spec.bitOr (x : Int) (y : Int) = ((x ||| y : Nat) : Int) := by
    unfold Spec.bitOr Spec.bitAnd Spec.bitNot
    rw [decide_eq_false (by (first | lia | omega)), decide_eq_false (by (first | lia | omega))]
    show -(-((((- (-(x : Int) - 1) - 1).toNat ||| (- (-(y : Int) - 1) - 1).toNat : Nat)) : Int) - 1) - 1 = _
    rw [show (- (-(x : Int) - 1) - 1).toNat = x by (first | lia | omega), show (- (-(y : Int) - 1) - 1).toNat = y by (first | lia | omega)]
    (first | lia | omega)
  show Spec.bitOr (x : Int) (y : Int) - Spec.bitAnd (x : Int) (y : Int) = _
  rw [hand, hor, or_split (x + y + 1) x y (Nat.lt_of_lt_of_le (by (first | lia | omega) : x < x + y + 1) (Nat.le_of_lt Nat.lt_two_pow_self)) (Nat.lt_of_lt_of_le (by (first | lia | omega) : y < x + y + 1) (Nat.le_of_lt Nat.lt_two_pow_self))]
  (first | lia | omega)
/-- the check, bit by bit -/
noncomputable def crcL (bs : List Nat) : Nat := bs.foldl (fun f b => lloop b 8 0 f) 65535
theorem lloop_lt (b : Nat) : ∀ (n k f : Nat), f < 65536 → lloop b n k f < 65536
  | 0, _, _, h => h
  | n + 1, k, f, _ => lloop_lt b n (k + 1) _ (lstep_lt b k f)
theorem lloop_snoc (b : Nat) : ∀ (n k f : Nat), lloop b (n + 1) k f = lstep b (k + n) (lloop b n k f)
  | 0, k, f => rfl
  | n + 1, k, f => by
    show lloop b (n + 1) (k + 1) (lstep b k f) = _
    rw [lloop_snoc b n (k + 1)]
    rw [show k + 1 + n = k + (n + 1) by (first | lia | omega)]
    rfl
theorem ploop_snoc : ∀ (n v : Nat), ploop (n + 1) v = pstep (ploop n v)
  | 0, v => rfl
  | n + 1, v => by
    show ploop (n + 1) (pstep v) = _
    rw [ploop_snoc n (pstep v)]
    rfl
theorem crcL_lt (bs : List Nat) : crcL bs < 65536 := by
  have aux : ∀ (bs : List Nat) (f : Nat), f < 65536 → bs.foldl (fun f b => lloop b 8 0 f) f < 65536 := by
    intro bs
    induction bs with
    | nil => intro f h; exact h
    | cons b r ih => intro f h; exact ih _ (lloop_lt b 8 0 f h)
  exact aux bs 65535 (by decide)
theorem crcL_snoc (bs : List Nat) (b : Nat) : crcL (bs ++ [b]) = lloop b 8 0 (crcL bs) := by
  unfold crcL
  rw [List.foldl_append]
  rfl
section
variable {P : Program} {w : World} {K : PySem.W.Frag} {mg : Str → Option Value} {base : Heap} {a : Ad}
noncomputable def sp_l_check : Sp := fun vs H Q _ => ∃ (p : Addr) (bs : List Nat), vs = [.ref p] ∧ H p = some (.lst (natV bs)) ∧ (∀ b ∈ bs, b < 256) ∧ Q (.int ((crcL bs : Nat) : Int)) H
set_option maxHeartbeats 1000000 in
theorem ok_l_check (T : Tx K mg a) : FnOk P w K mg base CX0 1 a.f_l_check a.d_l_check ["_law_row"] sp_l_check := by
  refine T.d_l_check.F.ok sc_l_check (fun vs H Q E h => ?_) (fun cdv A outer s H vs Q E hr h => ?_)
  · obtain ⟨p, ns, rfl, _⟩ := h
    rfl
  · obtain ⟨p, bs, rfl, hp, hb, q⟩ := h
    refine ⟨_, pss_cons (ps_set (i := 1) sc_l_check.nd rfl (Or.inl rfl) pe_int)
      (pss_cons (ps_for PassesOwn.never rfl (pi_list (pv 0)) (pg_name (i := 2) sc_l_check.nd rfl (Or.inl rfl))
        (pss_one (ps_for PassesOwn.never rfl (pi_range1 rfl T.range (pa_cons pe_int pa_nil)) (pg_name (i := 3) sc_l_check.nd rfl (Or.inl rfl))
            (pss_cons (ps_set (i := 4) sc_l_check.nd rfl (Or.inl rfl) (pe_op op_mod (pe_op op_add (pe_op op_fdiv (pv 1) pe_int) (pe_op op_shr (pv 2) (pe_op op_sub pe_int (pv 3)))) pe_int))
              (pss_cons (ps_set (i := 1) sc_l_check.nd rfl (Or.inl rfl) (pe_op op_mod (pe_op op_mul (pv 1) pe_int) pe_int))
              (pss_one (ps_if (pt_cmpR op_eq (pv 4) pe_int (nomark _))
                (pss_one (ps_set (i := 1) sc_l_check.nd rfl (Or.inl rfl) (pe_op op_xor (pv 1) pe_int)))
                pss_nil)))))))
      (pss_one (ps_ret (pv 1)))), ?_⟩
    refine ⟨_, rfl, p, rfl, ⟨_, SqL.of hp⟩, ?_⟩
    refine for_list (xs := natV bs) (fun i σ H' => i ≤ bs.length ∧ H' = H ∧ ∃ v2 v3 v4, σ = [some (.ref p), some (.int ((crcL (bs.take i) : Nat) : Int)), v2, v3, v4]) ⟨Nat.zero_le _, rfl, none, none, none, rfl⟩ (fun i σ H' _ h => by obtain ⟨_, rfl, _⟩ := h; exact SqL.of hp) ?_ ?_
    · rintro i x σ H' hx ⟨hil, rfl, v2, v3, v4, rfl⟩
      unfold natV at hx
      rw [List.getElem?_map] at hx
      cases hn : bs[i]? with
      | none => rw [hn] at hx; cases hx
      | some b =>
        rw [hn] at hx
        cases hx
        have hi : i < bs.length := (List.getElem?_eq_some_iff.mp hn).1
        have hb256 := hb b (List.mem_of_getElem? hn)
        have et : bs.take (i + 1) = bs.take i ++ [b] := by rw [List.take_add_one, hn]; rfl
        have hcl := crcL_lt (bs.take i)
        generalize hv : crcL (bs.take i) = v at hcl
        refine ⟨8, rfl, by decide, by decide, for_range (n := 8) (fun k σ H'' => H'' = H' ∧ ∃ v3 v4, σ = [some (.ref p), some (.int ((lloop b k 0 v : Nat) : Int)), some (.int b), v3, v4]) ⟨rfl, _, _, rfl⟩ ?_ ?_⟩
        · rintro k σ H'' hk ⟨rfl, v3, v4, rfl⟩
          have hf := lloop_lt b k 0 v hcl
          generalize hfv : lloop b k 0 v = f at hf
          have est : lloop b (k + 1) 0 v = lstep b k f := by rw [lloop_snoc, hfv, Nat.zero_add]
          have eout : ((f : Int) / 32768 + (b : Int) / 2 ^ (7 - (0 + (k : Int))).toNat) % 2 = (((f / 32768 + b / 2 ^ (7 - k)) % 2 : Nat) : Int) := by
            rw [show (7 - (0 + (k : Int))).toNat = 7 - k by (first | lia | omega)]
            have : (b : Int) / 2 ^ (7 - k) = ((b / 2 ^ (7 - k) : Nat) : Int) := by
              rw [Int.natCast_ediv]; norm_cast
            rw [this]
            (first | lia | omega)
          have edbl : (f : Int) * 2 % 65536 = ((f * 2 % 65536 : Nat) : Int) := by (first | lia | omega)
          refine ⟨_, rfl, _, _, rfl, rfl, ⟨by decide, by decide⟩, _, rfl, _, rfl, _, _, rfl, rfl, _, _, rfl, rfl, by (first | lia | omega), _, _, rfl, rfl, _, _, rfl, rfl, (by show (0 : Int) < 2; decide), ?_⟩
          refine ⟨_, rfl, _, _, rfl, rfl, .inl ⟨by (first | lia | omega), by (first | lia | omega)⟩, _, _, rfl, rfl, (by show (0 : Int) < 65536; decide), ?_⟩
          refine ⟨_, rfl, rfl, _, rfl, ite2 (fun ho => ?_) (fun ho => ?_)⟩
          · have ho' : (f / 32768 + b / 2 ^ (7 - k)) % 2 = 1 := by
              have h1 := of_decide_eq_true ho
              injection h1 with h2
              have h3 : ((f : Int) / 32768 + (b : Int) / 2 ^ (7 - (0 + (k : Int))).toNat) % 2 = 1 := h2
              rw [eout] at h3
              (first | lia | omega)
            refine ⟨_, rfl, _, _, rfl, rfl, rfl, some (.int (0 + (k : Int))), some (.int (((f : Int) / 32768 + (b : Int) / 2 ^ (7 - (0 + (k : Int))).toNat) % 2)), ?_⟩
            rw [est]
            unfold lstep
            rw [if_pos ho']
            show [some (V.ref p), some (.int (Builtin.bitXor ((f : Int) * 2 % 65536) 4129)), some (.int b), some (.int (0 + (k : Int))), some (.int (((f : Int) / 32768 + (b : Int) / 2 ^ (7 - (0 + (k : Int))).toNat) % 2))] = _
            rw [edbl, show (4129 : Int) = ((4129 : Nat) : Int) from rfl, bxor]
          · have ho' : ¬ (f / 32768 + b / 2 ^ (7 - k)) % 2 = 1 := fun z => ho (decide_eq_true (by
              show V.int (((f : Int) / 32768 + (b : Int) / 2 ^ (7 - (0 + (k : Int))).toNat) % 2) = V.int 1
              rw [eout, z]
              rfl))
            refine ⟨rfl, some (.int (0 + (k : Int))), some (.int (((f : Int) / 32768 + (b : Int) / 2 ^ (7 - (0 + (k : Int))).toNat) % 2)), ?_⟩
            rw [est]
            unfold lstep
            rw [if_neg ho']
            show [some (V.ref p), some (.int ((f : Int) * 2 % 65536)), some (.int b), some (.int (0 + (k : Int))), some (.int (((f : Int) / 32768 + (b : Int) / 2 ^ (7 - (0 + (k : Int))).toNat) % 2))] = _
            rw [edbl]
        · rintro σ H'' ⟨rfl, v3, v4, rfl⟩
          refine ⟨hi, rfl, some (.int b), v3, v4, ?_⟩
          rw [et, crcL_snoc, hv]
    · rintro σ H' ⟨_, rfl, v2, v3, v4, e⟩
      rw [natV_len, List.take_length] at e
      subst e
      exact ⟨_, rfl, q⟩
end
end K4

set_option genSizeOf false
namespace K4
open PySem L2
theorem mid_bits (N : Nat) {a b c : Nat} (h : b + c ≤ a) : N % 2 ^ a / 2 ^ b % 2 ^ c = N / 2 ^ b % 2 ^ c := by
  apply Nat.eq_of_testBit_eq
  intro i
  rw [Nat.testBit_mod_two_pow, Nat.testBit_mod_two_pow, Nat.testBit_div_two_pow, Nat.testBit_div_two_pow, Nat.testBit_mod_two_pow]
  by_cases hi : i < c
  · rw [decide_eq_true (show i + b < a by (first | lia | omega)), Bool.true_and]
  · rw [decide_eq_false hi, Bool.false_and, Bool.false_and]
theorem shr_step (X w t : Nat) : X / 2 ^ (w * t) / 2 ^ w = X / 2 ^ (w * (t + 1)) := by rw [Nat.mul_succ, Nat.pow_add, ← Nat.div_div_eq_div_mul]
theorem held_byte (N : Nat) {j b t : Nat} (h : b + t = 8 * j) : N % 2 ^ (8 * (j + 1)) / 2 ^ t = N % 2 ^ (8 * j) / 2 ^ t + dig N j * 2 ^ b := by
  unfold dig
  have e : N % 2 ^ (8 * (j + 1)) = N % 2 ^ (8 * j) + 2 ^ (8 * j) * (N / 256 ^ j % 256) := by
    rw [← pow256, ← pow256]
    exact Nat.mod_pow_succ
  rw [e, ← h, Nat.pow_add, Nat.mul_comm (2 ^ b * 2 ^ t), ← Nat.mul_assoc, Nat.add_mul_div_right _ _ (Nat.pow_pos (by decide))]
theorem natV_take_succ {ns : List Nat} {t n : Nat} (h : ns[t]? = some n) : natV (ns.take t) ++ [V.int (n : Int)] = natV (ns.take (t + 1)) := by
  unfold natV
  rw [List.take_add_one, h, List.map_append]
  rfl
theorem rowV_get {N r j : Nat} (h : j < r) : (rowV N r)[j]? = some (V.int ((dig N j : Nat) : Int)) := by
  unfold rowV
  rw [List.getElem?_map, List.getElem?_range h]
  rfl
section
variable {P : Program} {w : World} {K : PySem.W.Frag} {mg : Str → Option Value} {base : Heap} {a : Ad}
noncomputable def sp_unpacked (K : PySem.W.Frag) : Sp := fun vs H Q _ => ∃ (p : Addr) (ns : List Nat) (wd : Nat), vs = [.ref p, .int (ns.length : Nat), .int wd] ∧ H p = some (.lst (rowV (val wd ns) ((wd * ns.length + 7) / 8))) ∧ 1 ≤ wd ∧ wd ≤ 8 ∧ ns.length ≤ 100 ∧ (∀ n ∈ ns, n < 2 ^ wd) ∧
  ∀ q, H q = none → Q (.ref q) (upd H q (.lst (natV ns)))
set_option maxHeartbeats 1000000 in
theorem ok_unpacked (T : Tx K mg a) : FnOk P w K mg base CX0 1 a.f_unpacked a.d_unpacked ["row", "many", "width"] (sp_unpacked K) := by
  refine T.d_unpacked.F.ok sc_unpacked (fun vs H Q E h => ?_) (fun cdv A outer s H vs Q E hr h => ?_)
  · obtain ⟨p, ns, wd, rfl, _⟩ := h
    rfl
  · obtain ⟨p, ns, wd, rfl, hp, hw1, hw8, hlen, hns, q⟩ := h
    refine ⟨_, pss_cons (ps_set (i := 3) sc_unpacked.nd rfl (Or.inl rfl) (pe_lst pa_nil))
      (pss_cons (ps_set (i := 4) sc_unpacked.nd rfl (Or.inl rfl) pe_int)
      (pss_cons (ps_set (i := 5) sc_unpacked.nd rfl (Or.inl rfl) pe_int)
      (pss_cons (ps_for PassesOwn.never rfl (pi_list (pv 0)) (pg_name (i := 6) sc_unpacked.nd rfl (Or.inl rfl))
        (pss_cons (ps_set (i := 4) sc_unpacked.nd rfl (Or.inl rfl) (pe_op op_add (pv 4) (pe_op op_shl (pv 6) (pv 5))))
          (pss_cons (ps_set (i := 5) sc_unpacked.nd rfl (Or.inl rfl) (pe_op op_add (pv 5) pe_int))
          (pss_one (ps_while PassesOwn.never (PW.pt (pw_and (pt_cmpR op_ge (pv 5) (pv 2) (nomark _)) (pw_and1 (pt_cmpR op_lt (pe_callB call_len_seq (by rfl) T.len bt_len (pa_cons (pv 3) pa_nil)) (pv 1) (nomark _)))))
            (pss_cons (ps_expr (pe_bm PySem.F.plainAttrs_list PySem.F.slot_list_append PySem.F.type_list_append mt_append (pv 3) (pa_cons (pe_op op_mod (pv 4) (pe_op op_shl pe_int (pv 2))) pa_nil)))
              (pss_cons (ps_set (i := 4) sc_unpacked.nd rfl (Or.inl rfl) (pe_op op_shr (pv 4) (pv 2)))
              (pss_one (ps_set (i := 5) sc_unpacked.nd rfl (Or.inl rfl) (pe_op op_sub (pv 5) (pv 2)))))))))))
      (pss_one (ps_ret (pv 3)))))), ?_⟩
    generalize hN : val wd ns = N at *
    have hR : (wd * ns.length + 7) / 8 ≤ 101 := by
      have : wd * ns.length ≤ 800 := Nat.le_trans (Nat.mul_le_mul hw8 hlen) (by decide)
      (first | lia | omega)
    refine ⟨by decide, fun qa hq => ⟨_, rfl, p, rfl, ⟨_, SqL.of (keepH hp hq)⟩, ?_⟩⟩
    have hpq : p ≠ qa := ne_of_none hp hq
    refine for_list (xs := rowV N ((wd * ns.length + 7) / 8)) (fun j σ H' => j ≤ (wd * ns.length + 7) / 8 ∧ ∃ (t b : Nat) (v6 : Option V), b + wd * t = 8 * j ∧ t ≤ ns.length ∧ (b < wd ∨ t = ns.length) ∧ H' = upd H qa (.lst (natV (ns.take t))) ∧
        σ = [some (.ref p), some (.int (ns.length : Nat)), some (.int wd), some (.ref qa), some (.int ((N % 2 ^ (8 * j) / 2 ^ (wd * t) : Nat) : Int)), some (.int (b : Nat)), v6])
      ⟨Nat.zero_le _, 0, 0, none, by simp, Nat.zero_le _, .inl hw1, by simp [natV], by simp [Nat.mod_one]; rfl⟩ (fun i σ H' _ h => by obtain ⟨_, t, b, v6, _, _, _, rfl, _⟩ := h; exact SqL.of (by rw [upd_ne hpq]; exact hp)) ?_ ?_
    · rintro j x σ H' hx ⟨hj, t, b, v6, hbt, htl, hbw, rfl, rfl⟩
      have hjr : j < (wd * ns.length + 7) / 8 := by
        have := (List.getElem?_eq_some_iff.mp hx).1
        rw [rowV_len] at this
        exact this
      rw [rowV_get hjr] at hx
      cases hx
      have hd : dig N j < 256 := Nat.mod_lt _ (by decide)
      have eheld : ((N % 2 ^ (8 * j) / 2 ^ (wd * t) : Nat) : Int) + ((dig N j : Nat) : Int) * 2 ^ ((b : Int)).toNat = ((N % 2 ^ (8 * (j + 1)) / 2 ^ (wd * t) : Nat) : Int) := by
        rw [held_byte N hbt, Int.toNat_natCast]
        simp
      refine ⟨_, rfl, _, rfl, _, rfl, _, _, rfl, rfl, ⟨by (first | lia | omega), by (first | lia | omega), by simp; (first | lia | omega)⟩, _, _, rfl, rfl, ?_⟩
      refine ⟨_, rfl, _, _, rfl, rfl, ?_⟩
      refine ⟨fun m σ H' => ∃ (t b : Nat), b + wd * t = 8 * (j + 1) ∧ t ≤ ns.length ∧ m = ns.length - t ∧ H' = upd H qa (.lst (natV (ns.take t))) ∧
        σ = [some (.ref p), some (.int (ns.length : Nat)), some (.int wd), some (.ref qa), some (.int ((N % 2 ^ (8 * (j + 1)) / 2 ^ (wd * t) : Nat) : Int)), some (.int (b : Nat)), some (.int ((dig N j : Nat) : Int))], ⟨_, t, b + 8, by (first | lia | omega), htl, rfl, rfl, ?_⟩, ?_⟩
      · show [some (V.ref p), some (.int (ns.length : Nat)), some (.int wd), some (.ref qa), some (.int (((N % 2 ^ (8 * j) / 2 ^ (wd * t) : Nat) : Int) + ((dig N j : Nat) : Int) * 2 ^ ((b : Int)).toNat)), some (.int ((b : Int) + 8)), some (.int ((dig N j : Nat) : Int))] = _
        rw [eheld]
        rfl
      rintro m σ H' ⟨t, b, hbt, htl, rfl, rfl, rfl⟩
      have done : (b < wd ∨ t = ns.length) → j + 1 ≤ (wd * ns.length + 7) / 8 ∧ ∃ (t' b' : Nat) (v6 : Option V), b' + wd * t' = 8 * (j + 1) ∧ t' ≤ ns.length ∧ (b' < wd ∨ t' = ns.length) ∧ upd H qa (.lst (natV (ns.take t))) = upd H qa (.lst (natV (ns.take t'))) ∧
          [some (V.ref p), some (.int (ns.length : Nat)), some (.int wd), some (.ref qa), some (.int ((N % 2 ^ (8 * (j + 1)) / 2 ^ (wd * t) : Nat) : Int)), some (.int (b : Nat)), some (.int ((dig N j : Nat) : Int))] = [some (V.ref p), some (.int (ns.length : Nat)), some (.int wd), some (.ref qa), some (.int ((N % 2 ^ (8 * (j + 1)) / 2 ^ (wd * t') : Nat) : Int)), some (.int (b' : Nat)), v6] := fun hb => ⟨hjr, t, b, _, hbt, htl, hb, rfl, rfl⟩
      refine ⟨_, rfl, _, rfl, _, _, rfl, rfl, _, rfl, ite2 (fun h1 => ?_) (fun h1 => ?_)⟩
      rotate_left
      · have h1' : ¬ (wd : Int) ≤ (b : Int) := of_decide_eq_false (nf h1)
        exact done (.inl (by (first | lia | omega)))
      have h1' : (wd : Int) ≤ (b : Int) := of_decide_eq_true h1
      refine ⟨_, rfl, qa, _, rfl, .inl (SqL.of upd_same), _, rfl, _, _, rfl, rfl, _, rfl, ite2 (fun h2 => ?_) (fun h2 => ?_)⟩
      rotate_left
      · have h2' : ¬ ((natV (ns.take t)).length : Int) < (ns.length : Int) := of_decide_eq_false (nf h2)
        rw [natV_len, List.length_take] at h2'
        exact done (.inr (by (first | lia | omega)))
      have h2' : ((natV (ns.take t)).length : Int) < (ns.length : Int) := of_decide_eq_true h2
      rw [natV_len, List.length_take] at h2'
      have htlt : t < ns.length := by (first | lia | omega)
      have hnt : ns[t]? = some (ns.getD t 0) := by rw [List.getD_eq_getElem?_getD, List.getElem?_eq_getElem htlt]; rfl
      have epow : (1 : Int) * 2 ^ ((wd : Int)).toNat = ((2 ^ wd : Nat) : Int) := by rw [Int.toNat_natCast]; simp
      have hpos : (0 : Int) < (1 : Int) * 2 ^ ((wd : Int)).toNat := by
        rw [epow]
        have : 0 < 2 ^ wd := Nat.pow_pos (by decide)
        (first | lia | omega)
      have etake : N % 2 ^ (8 * (j + 1)) / 2 ^ (wd * t) % 2 ^ wd = ns.getD t 0 := by
        rw [mid_bits N (by (first | lia | omega)), ← hN, val_at wd ns t hns]
      have emod : ((N % 2 ^ (8 * (j + 1)) / 2 ^ (wd * t) : Nat) : Int) % ((1 : Int) * 2 ^ ((wd : Int)).toNat) = ((ns.getD t 0 : Nat) : Int) := by
        rw [epow, ← etake]
        norm_cast
      have eshr : ((N % 2 ^ (8 * (j + 1)) / 2 ^ (wd * t) : Nat) : Int) / 2 ^ ((wd : Int)).toNat = ((N % 2 ^ (8 * (j + 1)) / 2 ^ (wd * (t + 1)) : Nat) : Int) := by
        rw [Int.toNat_natCast, ← shr_step]
        norm_cast
      refine ⟨fun σ' H' => H' = upd H qa (.lst (natV (ns.take (t + 1)))) ∧ σ' = [some (.ref p), some (.int (ns.length : Nat)), some (.int wd), some (.ref qa), some (.int ((N % 2 ^ (8 * (j + 1)) / 2 ^ (wd * (t + 1)) : Nat) : Int)), some (.int ((b - wd : Nat) : Int)), some (.int ((dig N j : Nat) : Int))], ?_, ?_⟩
      · rintro σ' H' ⟨rfl, rfl⟩
        exact ⟨ns.length - (t + 1), by (first | lia | omega), t + 1, b - wd, by rw [Nat.mul_succ]; (first | lia | omega), htlt, rfl, rfl, rfl⟩
      refine ⟨_, rfl, .inl ⟨rfl, _, SqL.of upd_same⟩, _, rfl, _, rfl, _, _, rfl, rfl, ⟨by (first | lia | omega), by (first | lia | omega), by decide⟩, _, _, rfl, rfl, hpos, qa, _, _, rfl, rfl, upd_same, by rw [natV_len, List.length_take]; exact small1000 (by (first | lia | omega)), _, rfl, _, rfl, _, _, rfl, rfl, by (first | lia | omega), _, rfl, _, rfl, _, _, rfl, rfl, ?_⟩
      refine ⟨?_, ?_⟩
      · rw [upd_upd, ← natV_take_succ hnt, ← emod]
      · show [some (V.ref p), some (.int (ns.length : Nat)), some (.int wd), some (.ref qa), some (.int (((N % 2 ^ (8 * (j + 1)) / 2 ^ (wd * t) : Nat) : Int) / 2 ^ ((wd : Int)).toNat)), some (.int ((b : Int) - (wd : Int))), some (.int ((dig N j : Nat) : Int))] = _
        rw [eshr, show ((b : Int) - (wd : Int)) = ((b - wd : Nat) : Int) by (first | lia | omega)]
    · rintro σ H' ⟨_, t, b, v6, hbt, htl, hbw, rfl, rfl⟩
      rw [rowV_len] at hbt
      have ht : t = ns.length := by
        rcases hbw with h | h
        · have h1 : wd * t ≤ wd * ns.length := Nat.mul_le_mul_left _ htl
          by_cases hlt : t < ns.length
          · have h2 : wd * (t + 1) ≤ wd * ns.length := Nat.mul_le_mul_left _ hlt
            rw [Nat.mul_succ] at h2
            (first | lia | omega)
          · (first | lia | omega)
        · exact h
      subst ht
      rw [List.take_length]
      exact ⟨_, rfl, q qa hq⟩
end
end K4

set_option genSizeOf false
namespace K4
open PySem L2
inductive Th (K : PySem.W.Frag) (H : Hp) : V → Prop where
  | non : Th K H .non
  | bl (b : Bool) : Th K H (.bl b)
  | int (i : Int) : Th K H (.int i)
  | str (z : Str) : Th K H (.str z)
  | obj {p : Addr} {t : String} (h : TyOf K H (.ref p) (.type t)) (ht : t = "list" ∨ t = "tuple" ∨ t = "dict") : Th K H (.ref p)
noncomputable def isI : V → Bool
  | .int _ => true
  | .bl _ => true
  | _ => false
noncomputable def isB : V → Bool
  | .bl _ => true
  | _ => false
noncomputable def isS : V → Bool
  | .str _ => true
  | _ => false
theorem TyOf.same {K : PySem.W.Frag} {H H' : Hp} {p : Addr} {t : String} (s : Same H H') (h : TyOf K H (.ref p) (.type t)) : TyOf K H' (.ref p) (.type t) := by
  cases h with
  | lst e => exact .lst (s _ _ e)
  | frz e => exact .frz (s _ _ e)
  | tup e => exact .tup (s _ _ e)
  | dK e => exact .dK (s _ _ e)
  | dT e => exact .dT (s _ _ e)
theorem Th.same {K : PySem.W.Frag} {H H' : Hp} {x : V} (s : Same H H') (h : Th K H x) : Th K H' x := by
  cases h with
  | non => exact .non
  | bl b => exact .bl b
  | int i => exact .int i
  | str z => exact .str z
  | obj h ht => exact .obj (TyOf.same s h) ht
section
variable {P : Program} {w : World} {K : PySem.W.Frag} {mg : Str → Option Value} {base : Heap} {a : Ad}
theorem th_kit (T : Tx K mg a) {H : Hp} {x : V} (h : Th K H x) : ∃ t, TyOf K H x t ∧ PySem.W.kitOne K t (.type "int") = some (isI x) ∧ PySem.W.kitOne K t (.type "bool") = some (isB x) ∧ PySem.W.kitOne K t (.type "str") = some (isS x) := by
  cases h with
  | non => exact ⟨_, .non, T.q_NoneType_int, T.q_NoneType_bool, T.q_NoneType_str⟩
  | bl b => exact ⟨_, .bl b, T.q_bool_int, kit_self, T.q_bool_str⟩
  | int i => exact ⟨_, .int i, kit_self, T.q_int_bool, T.q_int_str⟩
  | str z => exact ⟨_, .str z, T.q_str_int, T.q_str_bool, kit_self⟩
  | obj h ht =>
    rcases ht with rfl | rfl | rfl
    · exact ⟨_, h, T.q_list_int, T.q_list_bool, T.q_list_str⟩
    · exact ⟨_, h, T.q_tuple_int, T.q_tuple_bool, T.q_tuple_str⟩
    · exact ⟨_, h, T.q_dict_int, T.q_dict_bool, T.q_dict_str⟩
noncomputable def amV : V → Int → Int → Bool
  | .int i, l, m => decide (l ≤ i) && decide (i ≤ m)
  | _, _, _ => false
theorem amV_int (i l m : Int) : amV (.int i) l m = (decide (l ≤ i) && decide (i ≤ m)) := rfl
noncomputable def sp_is_whole (K : PySem.W.Frag) : Sp := fun vs H Q _ => ∃ x, vs = [x] ∧ Th K H x ∧ Q (.bl (isI x && !isB x)) H
noncomputable def sp_is_among (K : PySem.W.Frag) : Sp := fun vs H Q _ => ∃ x l m, vs = [x, .int l, .int m] ∧ Th K H x ∧ Q (.bl (amV x l m)) H
theorem ok_is_whole (T : Tx K mg a) : FnOk P w K mg base CX0 1 a.f_is_whole a.d_is_whole ["thing"] (sp_is_whole K) := by
  refine T.d_is_whole.F.ok sc_is_whole (fun vs H Q E h => ?_) (fun cdv A outer s H vs Q E hr h => ?_)
  · obtain ⟨x, rfl, _⟩ := h
    rfl
  · obtain ⟨x, rfl, hx, q⟩ := h
    obtain ⟨t, ty, k1, k2, k3⟩ := th_kit T hx
    refine ⟨_, pss_one (ps_ret (pe_and (pe_callB (call_isinstK K rfl) rfl T.isinstance bt_isinstance (pa_cons (pv 0) (pa_cons (pty T.int bt_int) pa_nil))) (pe_one (pe_not (pe_callB (call_isinstK K rfl) rfl T.isinstance bt_isinstance (pa_cons (pv 0) (pa_cons (pty T.bool bt_bool) pa_nil))))))), ?_⟩
    refine ⟨_, rfl, x, .ty "int", t, _, _, rfl, ty, rfl, k1, _, rfl, ite2 (fun h => ?_) (fun h => ?_)⟩
    · rw [h, Bool.true_and] at q
      exact ⟨_, rfl, x, .ty "bool", t, _, _, rfl, ty, rfl, k2, _, rfl, q⟩
    · have h' : isI x = false := by simpa using h
      rw [h', Bool.false_and] at q
      exact q
theorem amV_of {x : V} {l m : Int} (h : isI x = true ∧ isB x = false) : ∃ i, x = .int i := by
  cases x <;> simp [isI, isB] at h
  exact ⟨_, rfl⟩
theorem ok_is_among (T : Tx K mg a) : FnOk P w K mg base CX0 2 a.f_is_among a.d_is_among ["thing", "least", "most"] (sp_is_among K) := by
  have G_is_whole : FnOk P w K mg base CX0 1 a.f_is_whole a.d_is_whole ["thing"] (sp_is_whole K) := ok_is_whole T
  refine T.d_is_among.F.ok sc_is_among (fun vs H Q E h => ?_) (fun cdv A outer s H vs Q E hr h => ?_)
  · obtain ⟨x, l, m, rfl, _⟩ := h
    rfl
  · obtain ⟨x, l, m, rfl, hx, q⟩ := h
    refine ⟨_, pss_one (ps_ret (pe_and (pe_call G_is_whole (hr.mono (by decide)) rfl T.d_is_whole.m T.d_is_whole.F.kp T.d_is_whole.b .nil pass0 (pa_cons (pv 0) pa_nil)) (pe_one (pe_chain op_le op_le (pv 1) (pv 0) (pv 2))))), ?_⟩
    refine ⟨_, rfl, x, rfl, hx, _, rfl, ite2 (fun h => ?_) (fun h => ?_)⟩
    · obtain ⟨i, rfl⟩ := amV_of (l := l) (m := m) (by simpa using h)
      refine ⟨_, rfl, _, rfl, _, _, rfl, rfl, _, rfl, ite2 (fun h1 => ?_) (fun h1 => ?_)⟩
      · refine ⟨_, rfl, _, _, rfl, rfl, ?_⟩
        rw [show amV (.int i) l m = decide (i ≤ m) by rw [amV_int, h1, Bool.true_and]] at q
        exact q
      · rw [show amV (.int i) l m = false by rw [amV_int, show decide (l ≤ i) = false by simpa using h1, Bool.false_and]] at q
        exact q
    · rw [show amV x l m = false by cases x <;> simp [isI, isB] at h <;> rfl] at q
      exact q
noncomputable def sp_need_among (K : PySem.W.Frag) (bn : Addr) : Sp := fun vs H Q E => ∃ x lo hi, vs = [x, .int lo, .int hi] ∧ Th K H x ∧ if amV x lo hi = true then Q .non H else E (.ref bn) none H
theorem ok_need_among (T : Tx K mg a) : FnOk P w K mg base (XC P w true) 3 a.f_need_among a.d_need_among ["number", "least", "most"] (sp_need_among K a.BadNumber) := by
  have G_is_among : FnOk P w K mg base CX0 2 a.f_is_among a.d_is_among ["thing", "least", "most"] (sp_is_among K) := ok_is_among T
  refine T.d_need_among.F.okX sc_need_among (fun vs H Q E h => ?_) (fun cdv A outer s H vs Q E hr h => ?_)
  · obtain ⟨x, lo, hi, rfl, _⟩ := h
    rfl
  · obtain ⟨x, lo, hi, rfl, hx, q⟩ := h
    refine ⟨_, pss_one (ps_if (pt_not (pt_val (pe_call G_is_among (hr.mono (by decide)) rfl T.d_is_among.m T.d_is_among.F.kp T.d_is_among.b .nil pass0 (pa_cons (pv 0) (pa_cons (pv 1) (pa_cons (pv 2) pa_nil))))))
        (pss_one (ps_raise rfl rfl T.m_BadNumber T.e_BadNumber PySem.F.excBase_ValueError (by decide +kernel) raises_fn (pa_cons pe_str pa_nil)))
        pss_nil), ?_⟩
    refine ⟨_, rfl, _, rfl, _, rfl, x, lo, hi, rfl, hx, _, rfl, ?_⟩
    cases e : amV x lo hi with
    | true =>
      rw [e, if_pos rfl] at q
      exact iteF q
    | false =>
      rw [e, if_neg Bool.false_ne_true] at q
      exact iteT ⟨by show 1 ≤ sizeLine; decide, q⟩
theorem am_int {x : V} {lo hi : Int} (h : amV x lo hi = true) : ∃ i, x = .int i ∧ lo ≤ i ∧ i ≤ hi := by
  cases x with
  | int i =>
    rw [amV_int, Bool.and_eq_true] at h
    exact ⟨i, rfl, of_decide_eq_true h.1, of_decide_eq_true h.2⟩
  | _ => exact absurd h Bool.false_ne_true
noncomputable def foldI (i : Int) : Int := if i < 0 then -2 * i - 1 else 2 * i
noncomputable def unfoldI (i : Int) : Int := if i % 2 = 1 then -(i / 2) - 1 else i / 2
noncomputable def MW : Int := 57896044618658097711785492504343953926634992332820282019728792003956564819967
noncomputable def MN : Int := 115792089237316195423570985008687907853269984665640564039457584007913129639935
noncomputable def sp_folded (K : PySem.W.Frag) (bn : Addr) : Sp := fun vs H Q E => ∃ x, vs = [x] ∧ Th K H x ∧ if amV x (-MW - 1) MW = true then (∀ i, x = .int i → Q (.int (foldI i)) H) else E (.ref bn) none H
noncomputable def sp_unfolded (K : PySem.W.Frag) (bn : Addr) : Sp := fun vs H Q E => ∃ x, vs = [x] ∧ Th K H x ∧ if amV x 0 MN = true then (∀ i, x = .int i → Q (.int (unfoldI i)) H) else E (.ref bn) none H
theorem ok_folded (T : Tx K mg a) : FnOk P w K mg base (XC P w true) 4 a.f_folded a.d_folded ["number"] (sp_folded K a.BadNumber) := by
  have G_need_among : FnOk P w K mg base (XC P w true) 3 a.f_need_among a.d_need_among ["number", "least", "most"] (sp_need_among K a.BadNumber) := ok_need_among T
  refine T.d_folded.F.okX sc_folded (fun vs H Q E h => ?_) (fun cdv A outer s H vs Q E hr h => ?_)
  · obtain ⟨x, rfl, _⟩ := h
    rfl
  · obtain ⟨x, rfl, hx, q⟩ := h
    obtain ⟨_, C_MOST_WHOLE⟩ := T.c_MOST_WHOLE
    refine ⟨_, pss_cons (ps_expr (pe_call G_need_among (hr.mono (by decide)) rfl T.d_need_among.m T.d_need_among.F.kp T.d_need_among.b .nil (pass_fn (fun z => z)) (pa_cons (pv 0) (pa_cons (pe_op op_sub (pe_un un_neg (pgi C_MOST_WHOLE)) pe_int) (pa_cons (pgi C_MOST_WHOLE) pa_nil)))))
      (PSs.nox (pss_cons (ps_if (pt_cmpR op_lt (pv 0) pe_int (nomark _))
        (pss_one (ps_ret (pe_op op_sub (pe_op op_mul (pe_un un_neg pe_int) (pv 0)) pe_int)))
        pss_nil)
      (pss_one (ps_ret (pe_op op_mul pe_int (pv 0)))))), ?_⟩
    refine ⟨_, rfl, _, rfl, _, _, rfl, rfl, x, _, _, rfl, hx, ?_⟩
    show if amV x (-MW - 1) MW = true then _ else _
    cases e : amV x (-MW - 1) MW with
    | false =>
      rw [e, if_neg Bool.false_ne_true] at q
      exact iteF q
    | true =>
      rw [e, if_pos rfl] at q
      obtain ⟨i, rfl, _, _⟩ := am_int e
      have q' := q i rfl
      unfold foldI at q'
      refine iteT ⟨_, rfl, _, _, rfl, rfl, _, rfl, ite2 (fun h => ?_) (fun h => ?_)⟩
      · rw [if_pos (of_decide_eq_true h)] at q'
        exact ⟨_, rfl, _, rfl, _, _, rfl, rfl, .inl ⟨by decide, by decide⟩, _, _, rfl, rfl, q'⟩
      · rw [if_neg (of_decide_eq_false (nf h))] at q'
        exact ⟨_, rfl, _, _, rfl, rfl, .inl ⟨by decide, by decide⟩, q'⟩
theorem ok_unfolded (T : Tx K mg a) : FnOk P w K mg base (XC P w true) 4 a.f_unfolded a.d_unfolded ["number"] (sp_unfolded K a.BadNumber) := by
  have G_need_among : FnOk P w K mg base (XC P w true) 3 a.f_need_among a.d_need_among ["number", "least", "most"] (sp_need_among K a.BadNumber) := ok_need_among T
  refine T.d_unfolded.F.okX sc_unfolded (fun vs H Q E h => ?_) (fun cdv A outer s H vs Q E hr h => ?_)
  · obtain ⟨x, rfl, _⟩ := h
    rfl
  · obtain ⟨x, rfl, hx, q⟩ := h
    obtain ⟨_, C_MOST_NUMBER⟩ := T.c_MOST_NUMBER
    refine ⟨_, pss_cons (ps_expr (pe_call G_need_among (hr.mono (by decide)) rfl T.d_need_among.m T.d_need_among.F.kp T.d_need_among.b .nil (pass_fn (fun z => z)) (pa_cons (pv 0) (pa_cons pe_int (pa_cons (pgi C_MOST_NUMBER) pa_nil)))))
      (PSs.nox (pss_cons (ps_set (i := 1) sc_unfolded.nd rfl (Or.inl rfl) (pe_op op_fdiv (pv 0) pe_int))
      (pss_cons (ps_if (pt_cmpR op_eq (pe_op op_mod (pv 0) pe_int) pe_int (nomark _))
        (pss_one (ps_ret (pe_op op_sub (pe_un un_neg (pv 1)) pe_int)))
        pss_nil)
      (pss_one (ps_ret (pv 1)))))), ?_⟩
    refine ⟨_, rfl, x, _, _, rfl, hx, ?_⟩
    show if amV x 0 MN = true then _ else _
    cases e : amV x 0 MN with
    | false =>
      rw [e, if_neg Bool.false_ne_true] at q
      exact iteF q
    | true =>
      rw [e, if_pos rfl] at q
      obtain ⟨i, rfl, _, _⟩ := am_int e
      have q' := q i rfl
      unfold unfoldI at q'
      refine iteT ⟨_, rfl, _, _, rfl, rfl, ⟨by decide, by decide⟩, ?_⟩
      refine ⟨_, rfl, _, _, rfl, rfl, (by show (0 : Int) < 2; decide), rfl, _, rfl, ite2 (fun h => ?_) (fun h => ?_)⟩
      · have h1 : i % 2 = 1 := by
          have := of_decide_eq_true h
          injection this
        rw [if_pos h1] at q'
        exact ⟨_, rfl, _, rfl, _, _, rfl, rfl, q'⟩
      · have h1 : ¬ i % 2 = 1 := fun z => h (decide_eq_true (congrArg V.int z))
        rw [if_neg h1] at q'
        exact ⟨_, rfl, q'⟩
end
end K4

set_option genSizeOf false
namespace K4
open PySem L2
theorem PI.or {X : Cx} {tg l : Expr} {w1 w2 : TI} (h1 : PI X tg l w1) (h2 : PI X tg l w2) : PI X tg l (fun σ H R => w1 σ H R ∨ w2 σ H R) := by
  intro pins s σ H R I h
  rcases h with h | h
  · exact h1 pins s σ H R I h
  · exact h2 pins s σ H R I h
theorem comp_listM {K : PySem.W.Frag} {l : Addr} {xs : List V} {σ0 : L2.St} {g : TG} {te : TE} {Q : VK} {H1 : Hp} (f : V → V) (hq : SqL K H1 l xs) (hz : xs.length ≤ 1000)
    (hs : ∀ x ∈ xs, ∀ (H : Hp) (R : VK), Same H1 H → R (f x) H → g x σ0 H fun σ2 H2 => Sub σ0 σ2 ∧ te σ2 H2 R)
    (hd : ∀ D, H1 D = none → Q (.ref D) (upd H1 D (.lst (xs.map f)))) : CompW (Itl K l) H1 σ0 g tTrue te Q := by
  intro D hD
  refine ⟨fun i m ys H => m = xs.length - i ∧ i ≤ xs.length ∧ ys = (xs.take i).map f ∧ H = upd H1 D (.lst ys), ⟨xs.length, by simp, Nat.zero_le _, rfl, rfl⟩, ?_⟩
  rintro i m ys H ⟨rfl, hi, rfl, rfl⟩
  refine ⟨upd_same, ?_⟩
  have hL : SqL K (upd H1 D (.lst ((xs.take i).map f))) l xs := (sameU hD).seq hq
  by_cases hlt : i < xs.length
  · refine .inr ⟨⟨_, xs[i], hL, List.getElem?_eq_getElem hlt⟩, fun x H' y => ?_⟩
    obtain ⟨e, y⟩ := y
    subst e
    have hx := y _ hL
    refine hs x (List.mem_of_getElem? hx) _ _ (sameU hD) ?_
    refine ⟨upd_same, ?_, xs.length - (i + 1), Nat.sub_succ_lt_self _ _ hlt, rfl, hlt, ?_, by rw [upd_upd]⟩
    · rw [List.length_map, List.length_take]
      exact small1000 (by (first | lia | omega))
    · rw [List.take_add_one, hx, List.map_append]
      rfl
  · have e : i = xs.length := by (first | lia | omega)
    subst e
    refine .inl ⟨⟨_, hL, Nat.le_refl _⟩, ?_⟩
    rw [List.take_length]
    exact hd D hD
theorem comp_tupM {K : PySem.W.Frag} {l : Addr} {xs : List V} {σ0 : L2.St} {g : TG} {te : TE} {Q : VK} {H1 : Hp} (f : V → V) (hq : SqT K H1 l xs) (hz : xs.length ≤ 1000)
    (hs : ∀ x ∈ xs, ∀ (H : Hp) (R : VK), Same H1 H → R (f x) H → g x σ0 H fun σ2 H2 => Sub σ0 σ2 ∧ te σ2 H2 R)
    (hd : ∀ D, H1 D = none → Q (.ref D) (upd H1 D (.lst (xs.map f)))) : CompW (Itt K l) H1 σ0 g tTrue te Q := by
  intro D hD
  refine ⟨fun i m ys H => m = xs.length - i ∧ i ≤ xs.length ∧ ys = (xs.take i).map f ∧ H = upd H1 D (.lst ys), ⟨xs.length, by simp, Nat.zero_le _, rfl, rfl⟩, ?_⟩
  rintro i m ys H ⟨rfl, hi, rfl, rfl⟩
  refine ⟨upd_same, ?_⟩
  have hL : SqT K (upd H1 D (.lst ((xs.take i).map f))) l xs := (sameU hD).seqT hq
  by_cases hlt : i < xs.length
  · refine .inr ⟨⟨_, xs[i], hL, List.getElem?_eq_getElem hlt⟩, fun x H' y => ?_⟩
    obtain ⟨e, y⟩ := y
    subst e
    have hx := y _ hL
    refine hs x (List.mem_of_getElem? hx) _ _ (sameU hD) ?_
    refine ⟨upd_same, ?_, xs.length - (i + 1), Nat.sub_succ_lt_self _ _ hlt, rfl, hlt, ?_, by rw [upd_upd]⟩
    · rw [List.length_map, List.length_take]
      exact small1000 (by (first | lia | omega))
    · rw [List.take_add_one, hx, List.map_append]
      rfl
  · have e : i = xs.length := by (first | lia | omega)
    subst e
    refine .inl ⟨⟨_, hL, Nat.le_refl _⟩, ?_⟩
    rw [List.take_length]
    exact hd D hD
theorem kit_lt {K : PySem.W.Frag} {t : Value} {b1 b2 : Bool} (h1 : PySem.W.kitOne K t (.type "list") = some b1) (h2 : PySem.W.kitOne K t (.type "tuple") = some b2) : PySem.W.kitAny K t (["list", "tuple"].map Value.type) = some (b1 || b2) := by
  show PySem.W.kitAny K t [.type "list", .type "tuple"] = _
  unfold PySem.W.kitAny
  rw [h1]
  cases b1 with
  | true => rfl
  | false =>
    show PySem.W.kitAny K t [.type "tuple"] = _
    unfold PySem.W.kitAny
    rw [h2]
    cases b2 with
    | true => rfl
    | false => rfl
theorem ndY : ((["byte"] : List Str) ++ ([] : List Str)).Nodup := by decide +kernel
section
variable {P : Program} {w : World} {K : PySem.W.Frag} {mg : Str → Option Value} {base : Heap} {a : Ad}
/-- what may be handed in as a row, and whether it is one -/
noncomputable def Rw (K : PySem.W.Frag) (H : Hp) (x : V) (good : Bool) : Prop :=
  (∃ (p : Addr) (xs : List V), x = .ref p ∧ (H p = some (.lst xs) ∨ H p = some (.tup xs)) ∧ xs.length ≤ 1000 ∧ (∀ v ∈ xs, Th K H v) ∧ good = xs.all fun v => amV v 0 255) ∨
  (good = false ∧ ∃ t, TyOf K H x t ∧ PySem.W.kitOne K t (.type "list") = some false ∧ PySem.W.kitOne K t (.type "tuple") = some false ∧ (∀ H', Same H H' → TyOf K H' x t))
noncomputable def sp_need_row (K : PySem.W.Frag) (br : Addr) : Sp := fun vs H Q E => ∃ x good, vs = [x] ∧ Rw K H x good ∧ ∀ H', Same H H' → if good = true then Q .non H' else E (.ref br) none H'
noncomputable def sp_is_row (K : PySem.W.Frag) : Sp := fun vs H Q _ => ∃ x good, vs = [x] ∧ Rw K H x good ∧ ∀ H', Same H H' → Q (.bl good) H'
set_option maxHeartbeats 1000000 in
theorem ok_is_row (T : Tx K mg a) : FnOk P w K mg base CX0 3 a.f_is_row a.d_is_row ["row"] (sp_is_row K) := by
  have G_is_among : FnOk P w K mg base CX0 2 a.f_is_among a.d_is_among ["thing", "least", "most"] (sp_is_among K) := ok_is_among T
  refine T.d_is_row.F.ok sc_is_row (fun vs H Q E h => ?_) (fun cdv A outer s H vs Q E hr h => ?_)
  · obtain ⟨x, good, rfl, _⟩ := h
    rfl
  · obtain ⟨x, good, rfl, hx, q⟩ := h
    refine ⟨_, pss_one (ps_ret (pe_and (pe_callB (call_isinstT K rfl) rfl T.isinstance bt_isinstance (pa_cons (pv 0) (pa_cons (pe_tup (pa_cons (pty T.list bt_list) (pa_cons (pty T.tuple bt_tuple) pa_nil))) pa_nil)))
      (pe_one (pe_callB (call_all_bl rfl) rfl T.all bt_all (pa_cons (pe_comp (ts := ["byte"]) (xs := []) (js := []) rfl ⟨rfl, rfl, by decide +kernel, by decide +kernel, freeIn rfl⟩ .nil (by decide +kernel) (PI.or (pi_list (pv 0)) (pi_tup (pv 0)))
          (fun C s₀ H₀ fp => pg_name (X := cxC _ _ _ C s₀ H₀ fp) (i := 0) ndY rfl (Or.inl rfl) (Or.inr rfl))
          (fun C s₀ H₀ fp => pif_nil (X := cxC _ _ _ C s₀ H₀ fp))
          (fun C s₀ H₀ fp => pe_call (X := cxC _ _ _ C s₀ H₀ fp) G_is_among (hr.mono (by decide)) rfl T.d_is_among.m T.d_is_among.F.kp T.d_is_among.b .nil pass0 (pa_cons (pv 0) (pa_cons pe_int (pa_cons pe_int pa_nil))))) pa_nil))))), ?_⟩
    refine ⟨_, rfl, small (by show 2 ≤ 1000; decide), fun tp htp => ?_⟩
    have s1 : Same H (upd H tp (.tup (["list", "tuple"].map V.ty))) := sameU htp
    rcases hx with ⟨p, xs, rfl, hp, hz, hth, rfl⟩ | ⟨rfl, t, ty, k1, k2, ty'⟩
    rotate_left
    · exact ⟨x, tp, t, _, ["list", "tuple"], rfl, upd_same, ty' _ s1, kit_lt k1 k2, _, rfl, iteF (q _ s1)⟩
    have emap : xs.map (fun v => V.bl (amV v 0 255)) = (xs.map fun v => amV v 0 255).map V.bl := by rw [List.map_map]; rfl
    have eall : (xs.map fun v => amV v 0 255).all id = xs.all fun v => amV v 0 255 := by rw [List.all_map]; rfl
    have hs : ∀ x ∈ xs, ∀ (Hx : Hp) (R : VK), Same (upd H tp (.tup (["list", "tuple"].map V.ty))) Hx → R (V.bl (amV x 0 255)) Hx → sp_is_among K [x, .int 0, .int 255] Hx R E0 := fun x hx Hx R sx hR => ⟨x, 0, 255, rfl, (hth x hx).same (s1.trans sx), hR⟩
    have fin : ∀ D, (upd H tp (.tup (["list", "tuple"].map V.ty))) D = none → Q (.bl (xs.all fun v => amV v 0 255)) (upd (upd H tp (.tup (["list", "tuple"].map V.ty))) D (.lst ((xs.map fun v => amV v 0 255).map V.bl))) := fun D hD => q _ (s1.trans (sameU hD))
    rcases hp with hp | hp
    · refine ⟨.ref p, tp, .type "list", _, ["list", "tuple"], rfl, upd_same, .lst (s1 _ _ hp), kit_lt kit_self T.q_list_tuple, _, rfl, iteT (.inl ⟨_, rfl, p, rfl, ⟨_, SqL.of (s1 _ _ hp)⟩, comp_listM (fun v => .bl (amV v 0 255)) (SqL.of (s1 _ _ hp)) hz (fun x hx Hx R sx hR => ⟨Sub.set rfl, _, rfl, hs x hx Hx R sx hR⟩) fun D hD => ?_⟩)⟩
      rw [emap]
      refine ⟨D, _, rfl, upd_same, ?_⟩
      rw [eall]
      exact fin D hD
    · refine ⟨.ref p, tp, .type "tuple", _, ["list", "tuple"], rfl, upd_same, .tup (s1 _ _ hp), kit_lt T.q_tuple_list kit_self, _, rfl, iteT (.inr ⟨_, rfl, p, rfl, ⟨_, SqT.of (s1 _ _ hp)⟩, comp_tupM (fun v => .bl (amV v 0 255)) (SqT.of (s1 _ _ hp)) hz (fun x hx Hx R sx hR => ⟨Sub.set rfl, _, rfl, hs x hx Hx R sx hR⟩) fun D hD => ?_⟩)⟩
      rw [emap]
      refine ⟨D, _, rfl, upd_same, ?_⟩
      rw [eall]
      exact fin D hD
theorem ok_need_row (T : Tx K mg a) : FnOk P w K mg base (XC P w true) 4 a.f_need_row a.d_need_row ["row"] (sp_need_row K a.BadRow) := by
  have G_is_row : FnOk P w K mg base CX0 3 a.f_is_row a.d_is_row ["row"] (sp_is_row K) := ok_is_row T
  refine T.d_need_row.F.okX sc_need_row (fun vs H Q E h => ?_) (fun cdv A outer s H vs Q E hr h => ?_)
  · obtain ⟨x, good, rfl, _⟩ := h
    rfl
  · obtain ⟨x, good, rfl, hx, q⟩ := h
    refine ⟨_, pss_one (ps_if (pt_not (pt_val (pe_call G_is_row (hr.mono (by decide)) rfl T.d_is_row.m T.d_is_row.F.kp T.d_is_row.b .nil pass0 (pa_cons (pv 0) pa_nil))))
        (pss_one (ps_raise rfl rfl T.m_BadRow T.e_BadRow PySem.F.excBase_ValueError (by decide +kernel) raises_fn (pa_cons pe_str pa_nil)))
        pss_nil), ?_⟩
    refine ⟨_, rfl, x, good, rfl, hx, fun H' hs => ⟨_, rfl, ?_⟩⟩
    have := q H' hs
    cases good with
    | true =>
      rw [if_pos rfl] at this
      exact iteF this
    | false =>
      rw [if_neg Bool.false_ne_true] at this
      exact iteT ⟨by show 1 ≤ sizeLine; decide, this⟩
end
end K4

set_option genSizeOf false
namespace K4
open PySem L2
theorem pstep_lt {v : Nat} (h : v < 65536) : pstep v < 65536 := by
  unfold pstep
  split
  · exact xor_lt (by (first | lia | omega)) (by decide)
  · (first | lia | omega)
theorem ploop_lt : ∀ (n v : Nat), v < 65536 → ploop n v < 65536
  | 0, _, h => h
  | n + 1, v, h => ploop_lt n _ (pstep_lt h)
section
variable {P : Program} {w : World} {K : PySem.W.Frag} {mg : Str → Option Value} {base : Heap} {a : Ad}
/-- a row of bytes, a list or a tuple -/
noncomputable def Row (H : Hp) (x : V) (bs : List Nat) : Prop := ∃ p, x = .ref p ∧ (H p = some (.lst (natV bs)) ∨ H p = some (.tup (natV bs))) ∧ bs.length ≤ 1000 ∧ ∀ b ∈ bs, b < 256
theorem Row.rw {H : Hp} {x : V} {bs : List Nat} (h : Row H x bs) : Rw K H x true := by
  obtain ⟨p, rfl, hp, hl, hb⟩ := h
  refine .inl ⟨p, natV bs, rfl, hp, by rw [natV_len]; exact hl, fun v hv => ?_, ?_⟩
  · obtain ⟨b, _, rfl⟩ := List.mem_map.mp hv
    exact .int _
  · symm
    rw [List.all_eq_true]
    intro v hv
    obtain ⟨b, hbm, rfl⟩ := List.mem_map.mp hv
    have := hb b hbm
    show amV (.int (b : Int)) 0 255 = true
    rw [amV_int, decide_eq_true (show (0 : Int) ≤ (b : Int) by (first | lia | omega)), decide_eq_true (show (b : Int) ≤ 255 by (first | lia | omega))]
    rfl
noncomputable def sp_check (K : PySem.W.Frag) (br : Addr) : Sp := fun vs H Q E => ∃ x, vs = [x] ∧ ((∃ bs, Row H x bs ∧ ∀ H', Same H H' → Q (.int ((crcL bs : Nat) : Int)) H') ∨ (Rw K H x false ∧ ∀ H', Same H H' → E (.ref br) none H'))
set_option maxHeartbeats 1000000 in
theorem ok_check (T : Tx K mg a) : FnOk P w K mg base (XC P w true) 5 a.f_check a.d_check ["row"] (sp_check K a.BadRow) := by
  have G_need_row : FnOk P w K mg base (XC P w true) 4 a.f_need_row a.d_need_row ["row"] (sp_need_row K a.BadRow) := ok_need_row T
  refine T.d_check.F.okX sc_check (fun vs H Q E h => ?_) (fun cdv A outer s H vs Q E hr h => ?_)
  · obtain ⟨x, rfl, _⟩ := h
    rfl
  · obtain ⟨x, rfl, h⟩ := h
    obtain ⟨_, C_CHECK_START⟩ := T.c_CHECK_START
    obtain ⟨_, C_CHECK_END⟩ := T.c_CHECK_END
    obtain ⟨_, C_CHECK_LAID_OVER⟩ := T.c_CHECK_LAID_OVER
    refine ⟨_, pss_cons (ps_expr (pe_call G_need_row (hr.mono (by decide)) rfl T.d_need_row.m T.d_need_row.F.kp T.d_need_row.b .nil (pass_fn (fun z => z)) (pa_cons (pv 0) pa_nil)))
      (PSs.nox (pss_cons (ps_set (i := 1) sc_check.nd rfl (Or.inl rfl) (pgi C_CHECK_START))
      (pss_cons (ps_for PassesOwn.never rfl (PI.or (pi_list (pv 0)) (pi_tup (pv 0))) (pg_name (i := 2) sc_check.nd rfl (Or.inl rfl))
        (pss_cons (ps_set (i := 1) sc_check.nd rfl (Or.inl rfl) (pe_op op_xor (pv 1) (pe_op op_shl (pv 2) pe_int)))
          (pss_one (ps_for PassesOwn.never rfl (pi_range1 rfl T.range (pa_cons pe_int pa_nil)) (pg_name (i := 3) sc_check.nd rfl (Or.inl rfl))
            (pss_cons (ps_set (i := 1) sc_check.nd rfl (Or.inl rfl) (pe_op op_shl (pv 1) pe_int))
              (pss_one (ps_if (pt_cmpR op_ge (pv 1) (pgi C_CHECK_END) (nomark _))
                (pss_one (ps_set (i := 1) sc_check.nd rfl (Or.inl rfl) (pe_op op_xor (pe_op op_sub (pv 1) (pgi C_CHECK_END)) (pgi C_CHECK_LAID_OVER))))
                pss_nil)))))))
      (pss_one (ps_ret (pv 1)))))), ?_⟩
    rcases h with ⟨bs, hx, q⟩ | ⟨hx, q⟩
    rotate_left
    · refine ⟨_, rfl, x, false, rfl, hx, fun H' s' => ?_⟩
      rw [if_neg Bool.false_ne_true]
      exact q _ s'
    refine ⟨_, rfl, x, true, rfl, hx.rw, fun H0 s0 => ?_⟩
    rw [if_pos rfl]
    obtain ⟨p, rfl, hp, hl, hb⟩ := hx
    have step : ∀ (D : Ends) (i : Nat) (x : V) (σ : L2.St) (H' : Hp), (natV bs)[i]? = some x → (i ≤ bs.length ∧ H' = H0 ∧ ∃ v2 v3, σ = [some (.ref p), some (.int ((crcL (bs.take i) : Nat) : Int)), v2, v3]) →
        gName 2 x σ H' fun σ2 H2 => tSeq (tAsg (tOp (rI0 fun i j => .int (Builtin.bitXor i j)) (tVar 1) (tOp (rI CPow fun i j => .int (i * 2 ^ j.toNat)) (tVar 2) (tC (.int 8)))) (gName 1))
          (tFor (iRng1 (tCons (tC (.int 8)) tNil)) (gName 3) (tSeq (tAsg (tOp (rI CPow fun i j => .int (i * 2 ^ j.toNat)) (tVar 1) (tC (.int 1))) (gName 1)) (tIfS (tTest (tOp (rI0 fun i j => .bl (decide (j ≤ i))) (tVar 1) (tC (.int 65536)))) (tAsg (tOp (rI0 fun i j => .int (Builtin.bitXor i j)) (tOp (rI0 fun i j => .int (i - j)) (tVar 1) (tC (.int 65536))) (tC (.int 4129))) (gName 1)) tNext)))
          { D with nx := fun σ H' => i + 1 ≤ bs.length ∧ H' = H0 ∧ ∃ v2 v3, σ = [some (.ref p), some (.int ((crcL (bs.take (i + 1)) : Nat) : Int)), v2, v3], ct := fun σ H' => i + 1 ≤ bs.length ∧ H' = H0 ∧ ∃ v2 v3, σ = [some (.ref p), some (.int ((crcL (bs.take (i + 1)) : Nat) : Int)), v2, v3], bk := D.nx } σ2 H2 := by
      rintro D i x σ H' hx ⟨hil, rfl, v2, v3, rfl⟩
      unfold natV at hx
      rw [List.getElem?_map] at hx
      cases hn : bs[i]? with
      | none => rw [hn] at hx; cases hx
      | some b =>
        rw [hn] at hx
        cases hx
        have hi : i < bs.length := (List.getElem?_eq_some_iff.mp hn).1
        have hb256 := hb b (List.mem_of_getElem? hn)
        have et : bs.take (i + 1) = bs.take i ++ [b] := by rw [List.take_add_one, hn]; rfl
        have hcl := crcL_lt (bs.take i)
        have ecrc : crcL (bs.take (i + 1)) = ploop 8 (crcL (bs.take i) ^^^ (b * 2 ^ 8)) := by rw [et, crcL_snoc, byte hb256 hcl]
        generalize hv : crcL (bs.take i) = v at hcl ecrc
        have hv0 : v ^^^ (b * 2 ^ 8) < 65536 := xor_lt hcl (by show b * 256 < 65536; (first | lia | omega))
        refine ⟨_, rfl, _, rfl, _, _, rfl, rfl, ⟨by decide, by decide, by simp; (first | lia | omega)⟩, _, _, rfl, rfl, ?_⟩
        refine ⟨8, rfl, by decide, by decide, for_range (n := 8) (fun k σ H'' => H'' = H' ∧ ∃ v3, σ = [some (.ref p), some (.int ((ploop k (v ^^^ (b * 2 ^ 8)) : Nat) : Int)), some (.int b), v3]) ⟨rfl, v3, ?_⟩ ?_ ?_⟩
        · show [some (V.ref p), some (.int (Builtin.bitXor (v : Int) ((b : Int) * 2 ^ (8 : Int).toNat))), some (.int b), v3] = _
          rw [show ((b : Int) * 2 ^ (8 : Int).toNat) = ((b * 2 ^ 8 : Nat) : Int) by norm_cast, bxor]
          rfl
        · rintro k σ H'' hk ⟨rfl, v3', rfl⟩
          have hf := ploop_lt k _ hv0
          have est : ploop (k + 1) (v ^^^ (b * 2 ^ 8)) = pstep (ploop k (v ^^^ (b * 2 ^ 8))) := ploop_snoc k _
          generalize ploop k (v ^^^ (b * 2 ^ 8)) = f at hf est
          have e2 : (f : Int) * 2 ^ (1 : Int).toNat = ((f * 2 : Nat) : Int) := by norm_cast
          refine ⟨_, rfl, _, _, rfl, rfl, ⟨by decide, by decide, by simp; (first | lia | omega)⟩, ?_⟩
          refine ⟨_, rfl, _, _, rfl, rfl, _, rfl, ite2 (fun ho => ?_) (fun ho => ?_)⟩
          · have ho' : 65536 ≤ f * 2 := by
              have h1 : (65536 : Int) ≤ (f : Int) * 2 ^ (1 : Int).toNat := of_decide_eq_true ho
              rw [e2] at h1
              (first | lia | omega)
            refine ⟨_, rfl, _, _, rfl, rfl, _, _, rfl, rfl, rfl, some (.int (0 + (k : Int))), ?_⟩
            rw [est]
            unfold pstep
            rw [if_pos ho']
            show [some (V.ref p), some (.int (Builtin.bitXor ((f : Int) * 2 ^ (1 : Int).toNat - 65536) 4129)), some (.int b), some (.int (0 + (k : Int)))] = _
            rw [e2, show ((f * 2 : Nat) : Int) - 65536 = ((f * 2 - 65536 : Nat) : Int) by (first | lia | omega), show (4129 : Int) = ((4129 : Nat) : Int) from rfl, bxor]
          · have ho' : ¬ 65536 ≤ f * 2 := by
              have h1 : ¬ (65536 : Int) ≤ (f : Int) * 2 ^ (1 : Int).toNat := of_decide_eq_false (nf ho)
              rw [e2] at h1
              (first | lia | omega)
            refine ⟨rfl, some (.int (0 + (k : Int))), ?_⟩
            rw [est]
            unfold pstep
            rw [if_neg ho']
            show [some (V.ref p), some (.int ((f : Int) * 2 ^ (1 : Int).toNat)), some (.int b), some (.int (0 + (k : Int)))] = _
            rw [e2]
        · rintro σ H'' ⟨rfl, v3', rfl⟩
          refine ⟨hi, rfl, some (.int b), v3', ?_⟩
          rw [ecrc]
    rcases hp with hp | hp
    · refine .inl ⟨_, rfl, p, rfl, ⟨_, SqL.of (s0 _ _ hp)⟩, ?_⟩
      refine for_list (xs := natV bs) (fun i σ H' => i ≤ bs.length ∧ H' = H0 ∧ ∃ v2 v3, σ = [some (.ref p), some (.int ((crcL (bs.take i) : Nat) : Int)), v2, v3]) ⟨Nat.zero_le _, rfl, none, none, rfl⟩ (fun i σ H' _ h => by obtain ⟨_, rfl, _⟩ := h; exact SqL.of (s0 _ _ hp)) (fun i x σ H' hx h => step _ i x σ H' hx h) ?_
      rintro σ H' ⟨_, rfl, v2, v3, e⟩
      rw [natV_len, List.take_length] at e
      subst e
      exact ⟨_, rfl, q _ s0⟩
    · refine .inr ⟨_, rfl, p, rfl, ⟨_, SqT.of (s0 _ _ hp)⟩, ?_⟩
      refine for_tup (xs := natV bs) (fun i σ H' => i ≤ bs.length ∧ H' = H0 ∧ ∃ v2 v3, σ = [some (.ref p), some (.int ((crcL (bs.take i) : Nat) : Int)), v2, v3]) ⟨Nat.zero_le _, rfl, none, none, rfl⟩ (fun i σ H' _ h => by obtain ⟨_, rfl, _⟩ := h; exact SqT.of (s0 _ _ hp)) (fun i x σ H' hx h => step _ i x σ H' hx h) ?_
      rintro σ H' ⟨_, rfl, v2, v3, e⟩
      rw [natV_len, List.take_length] at e
      subst e
      exact ⟨_, rfl, q _ s0⟩
end
end K4

set_option genSizeOf false
namespace K4
open PySem L2
theorem pgs {X : Cx} {x y : Str} {t : Tok} {pos : Pos} (hm : X.mg x = some (.str y t)) (hg : Gl X x := by rfl) (hd : (x == ("__debug__" : Str)) = false := by decide) : PE X (.Name x pos) (tC (.str y)) := pe_glob hg hm ⟨t, rfl⟩ hd
noncomputable abbrev sg (z : Str) : List Nat := z.cps.toList
noncomputable def SIG : Str := "0123456789abcdef"
theorem sig_list : sg SIG = [48, 49, 50, 51, 52, 53, 54, 55, 56, 57, 97, 98, 99, 100, 101, 102] := by decide +kernel
noncomputable def one (c : Nat) : Str := ⟨#[c]⟩
noncomputable def hx (d : Nat) : Nat := (sg SIG).getD d 0
theorem hx_at {d : Nat} (h : d < 16) : atI (sg SIG) (d : Int) = some (hx d) := by
  apply atI_nat
  unfold hx
  rw [sig_list]
  revert d
  decide
noncomputable def hex2 (b : Nat) : Str := one (hx (b / 16)) ++ one (hx (b % 16))
noncomputable def rtext (bs : List Nat) : Str := Txt.join (Str.ofString "") (bs.map hex2)
theorem hex2_len (b : Nat) : (hex2 b).length = 2 := by
  show (one (hx (b / 16)) ++ one (hx (b % 16))).cps.size = 2
  rw [PySem.Str.cps_append, Array.size_append]
  rfl
theorem hex_sum (bs : List Nat) : ((bs.map hex2).map (·.length)).sum = 2 * bs.length := by
  induction bs with
  | nil => rfl
  | cons b r ih => rw [List.map_cons, List.map_cons, List.sum_cons, ih, hex2_len, List.length_cons]; (first | lia | omega)
theorem ndB2 : ((["_law_byte"] : List Str) ++ ([] : List Str)).Nodup := by decide +kernel
noncomputable def fillB (bs : List Nat) (many wd : Nat) : Bool := decide (many * wd % 8 = 0) || decide (bs.getLastD 0 / 2 ^ (many * wd % 8) = 0)
theorem natV_ints (ns : List Nat) : natV ns = (ns.map fun (n : Nat) => (n : Int)).map V.int := by unfold natV; rw [List.map_map]; rfl
section
variable {P : Program} {w : World} {K : PySem.W.Frag} {mg : Str → Option Value} {base : Heap} {a : Ad}
noncomputable def sp_fill_bits : Sp := fun vs H Q _ => ∃ (p : Addr) (bs : List Nat) (many wd : Nat), vs = [.ref p, .int many, .int wd] ∧ H p = some (.lst (natV bs)) ∧ many ≤ 1000 ∧ (many * wd % 8 ≠ 0 → bs ≠ []) ∧ Q (.bl (fillB bs many wd)) H
theorem ok_fill_bits (T : Tx K mg a) : FnOk P w K mg base CX0 1 a.f_fill_bits a.d_fill_bits ["row", "many", "width"] sp_fill_bits := by
  refine T.d_fill_bits.F.ok sc_fill_bits (fun vs H Q E h => ?_) (fun cdv A outer s H vs Q E hr h => ?_)
  · obtain ⟨p, bs, many, wd, rfl, _⟩ := h
    rfl
  · obtain ⟨p, bs, many, wd, rfl, hp, hm, hne, q⟩ := h
    refine ⟨_, pss_cons (ps_set (i := 3) sc_fill_bits.nd rfl (Or.inl rfl) (pe_op op_mod (pe_op op_mul (pv 1) (pv 2)) pe_int))
      (pss_one (ps_ret (pe_or (pe_cmpR op_eq (pv 3) pe_int (nomark _)) (pe_one (pe_cmpR op_eq (pe_op op_shr (pe_ix ix_list (pv 0) (pe_un un_neg pe_int) (fun _ _ => rfl)) (pv 3)) pe_int (nomark _)))))), ?_⟩
    have eu : (many : Int) * (wd : Int) % 8 = ((many * wd % 8 : Nat) : Int) := by norm_cast
    refine ⟨_, rfl, _, rfl, _, _, rfl, rfl, .inl ⟨by (first | lia | omega), by (first | lia | omega)⟩, _, _, rfl, rfl, (by show (0 : Int) < 8; decide), ?_⟩
    unfold fillB at q
    refine ⟨_, rfl, rfl, _, rfl, ite2 (fun h => ?_) (fun h => ?_)⟩
    · have h' : many * wd % 8 = 0 := by
        have h1 := of_decide_eq_true h
        injection h1 with h2
        have h3 : (many : Int) * (wd : Int) % 8 = 0 := h2
        rw [eu] at h3
        (first | lia | omega)
      rw [decide_eq_true h', Bool.true_or] at q
      exact q
    · have h' : ¬ many * wd % 8 = 0 := fun z => h (decide_eq_true (by
        show V.int ((many : Int) * (wd : Int) % 8) = V.int 0
        rw [eu, z]
        rfl))
      rw [decide_eq_false h', Bool.false_or] at q
      have hb := hne h'
      have eb : bs = bs.dropLast ++ [bs.getLastD 0] := by
        rw [List.getLastD_eq_getLast?, List.getLast?_eq_some_getLast hb]
        exact (List.dropLast_concat_getLast hb).symm
      have ev : natV bs = natV bs.dropLast ++ [V.int ((bs.getLastD 0 : Nat) : Int)] := by
        conv => lhs; rw [eb]
        unfold natV
        rw [List.map_append]
        rfl
      refine ⟨_, rfl, _, rfl, p, _, _, _, rfl, rfl, SqL.of hp, by rw [ev]; exact atI_last _ _, _, rfl, _, _, rfl, rfl, by rw [eu]; (first | lia | omega), rfl, ?_⟩
      have ed : ((bs.getLastD 0 : Nat) : Int) / 2 ^ ((many : Int) * (wd : Int) % 8).toNat = ((bs.getLastD 0 / 2 ^ (many * wd % 8) : Nat) : Int) := by
        rw [eu, Int.toNat_natCast]
        norm_cast
      show Q (.bl (decide (V.int (((bs.getLastD 0 : Nat) : Int) / 2 ^ ((many : Int) * (wd : Int) % 8).toNat) = V.int 0))) H
      rw [ed]
      rw [show decide (V.int ((bs.getLastD 0 / 2 ^ (many * wd % 8) : Nat) : Int) = V.int 0) = decide (bs.getLastD 0 / 2 ^ (many * wd % 8) = 0) by
        rw [decide_eq_decide]
        constructor
        · intro z
          injection z with z
          (first | lia | omega)
        · intro z
          rw [z]
          rfl]
      exact q
noncomputable def sp_bytes : Sp := fun vs H Q _ => ∃ (p d : Addr) (ns : List Nat), vs = [.ref p, .ref d] ∧ H p = some (.lst (natV ns)) ∧ H d = some (.lst (natV ns)) ∧ ns.length ≤ 1000 ∧ ∀ H', Same H H' → Q (.bl true) H'
theorem ok_bytes (T : Tx K mg a) : FnOk P w K mg base CX0 1 a.f_bytes a.d_bytes ["_law_found", "_law_due"] sp_bytes := by
  refine T.d_bytes.F.ok sc_bytes (fun vs H Q E h => ?_) (fun cdv A outer s H vs Q E hr h => ?_)
  · obtain ⟨p, d, ns, rfl, _⟩ := h
    rfl
  · obtain ⟨p, d, ns, rfl, hp, hd, hz, q⟩ := h
    have hu := hr.units
    rw [natV_ints] at hp hd
    generalize hms : ns.map (fun (n : Nat) => (n : Int)) = ms at hp hd
    refine ⟨_, pss_cons (ps_if (PW.pt (pw_or (pt_not (pt_val (pe_callB (call_isinstK K rfl) rfl T.isinstance bt_isinstance (pa_cons (pv 0) (pa_cons (pty T.list bt_list) pa_nil))))) (pw_or1 (pt_cmpR (op_neD hu) (pv 0) (pv 1) (nomark _)))))
        (pss_one (ps_ret pe_bl))
        pss_nil)
      (pss_one (ps_ret (pe_cmpR (op_eqD hu) (pe_comp (ts := ["_law_byte"]) (xs := []) (js := []) rfl ⟨rfl, rfl, by decide +kernel, by decide +kernel, freeIn rfl⟩ .nil (by decide +kernel) (pi_list (pv 0))
          (fun C s₀ H₀ fp => pg_name (X := cxC _ _ _ C s₀ H₀ fp) (i := 0) ndB2 rfl (Or.inl rfl) (Or.inr rfl))
          (fun C s₀ H₀ fp => pif_one (X := cxC _ _ _ C s₀ H₀ fp) (PW.pt (pw_or (pt_val (pe_callB (call_isinstK K rfl) rfl T.isinstance bt_isinstance (pa_cons (pv 0) (pa_cons (pty T.bool bt_bool) pa_nil)))) (pw_or1 (pt_not (pt_val (pe_callB (call_isinstK K rfl) rfl T.isinstance bt_isinstance (pa_cons (pv 0) (pa_cons (pty T.int bt_int) pa_nil)))))))))
          (fun C s₀ H₀ fp => pv (X := cxC _ _ _ C s₀ H₀ fp) 0)) (pe_lst pa_nil) (nomark _)))), ?_⟩
    refine ⟨_, rfl, .ref p, .ty "list", .type "list", .type "list", true, rfl, .lst hp, rfl, kit_self, true, rfl, iteF ?_⟩
    refine ⟨_, rfl, _, rfl, .list (ms.map PyData.int), .list (ms.map PyData.int), .lst (SqL.of hp) (datVs_ints ms), .lst (SqL.of hd) (datVs_ints ms), shaped_ints ms, shaped_ints ms, _, rfl, ?_⟩
    rw [eqv_ints, decide_eq_true rfl]
    refine iteF ?_
    refine ⟨_, rfl, p, rfl, ⟨_, SqL.of hp⟩, comp_none hp ?_ ?_⟩
    · intro i x hx H' R hR
      rw [List.getElem?_map] at hx
      cases e : ms[i]? with
      | none => rw [e] at hx; cases hx
      | some n =>
        rw [e] at hx
        have hx' : x = V.int n := (Option.some.inj hx).symm
        subst hx'
        refine ⟨Sub.set rfl, ?_⟩
        refine ⟨_, rfl, .int n, .ty "bool", .type "int", .type "bool", false, rfl, .int n, rfl, T.q_int_bool, false, rfl, iteF ?_⟩
        exact ⟨_, rfl, .int n, .ty "int", .type "int", .type "int", true, rfl, .int n, rfl, kit_self, true, rfl, hR _⟩
    · intro D hD
      refine ⟨by decide, fun l2 h2 => ?_⟩
      refine ⟨.list [], .list [], .lst (SqL.of (keepH upd_same h2)) .nil, .lst (SqL.of upd_same) .nil, by decide, by decide, ?_⟩
      exact q _ fun b o z => keepH (keepH z hD) h2
noncomputable def sp_row_text (K : PySem.W.Frag) (br : Addr) : Sp := fun vs H Q E => ∃ x, vs = [x] ∧ ((∃ bs, Row H x bs ∧ ∀ H', Same H H' → Q (.str (rtext bs)) H') ∨ (Rw K H x false ∧ ∀ H', Same H H' → E (.ref br) none H'))
set_option maxHeartbeats 1000000 in
theorem ok_row_text (T : Tx K mg a) : FnOk P w K mg base (XC P w true) 5 a.f_row_text a.d_row_text ["row"] (sp_row_text K a.BadRow) := by
  have G_need_row : FnOk P w K mg base (XC P w true) 4 a.f_need_row a.d_need_row ["row"] (sp_need_row K a.BadRow) := ok_need_row T
  refine T.d_row_text.F.okX sc_row_text (fun vs H Q E h => ?_) (fun cdv A outer s H vs Q E hr h => ?_)
  · obtain ⟨x, rfl, _⟩ := h
    rfl
  · obtain ⟨x, rfl, h⟩ := h
    obtain ⟨_, C_SIGNS⟩ := T.c_SIGNS
    refine ⟨_, pss_cons (ps_expr (pe_call G_need_row (hr.mono (by decide)) rfl T.d_need_row.m T.d_need_row.F.kp T.d_need_row.b .nil (pass_fn (fun z => z)) (pa_cons (pv 0) pa_nil)))
      (PSs.nox (pss_one (ps_ret (pe_bm PySem.F.plainAttrs_str PySem.F.slot_str_join PySem.F.type_str_join mt_join pe_str (pa_cons (pe_comp (ts := ["byte"]) (xs := []) (js := []) rfl ⟨rfl, rfl, by decide +kernel, by decide +kernel, freeIn rfl⟩ .nil (by decide +kernel) (PI.or (pi_list (pv 0)) (pi_tup (pv 0)))
          (fun C s₀ H₀ fp => pg_name (X := cxC _ _ _ C s₀ H₀ fp) (i := 0) ndY rfl (Or.inl rfl) (Or.inr rfl))
          (fun C s₀ H₀ fp => pif_nil (X := cxC _ _ _ C s₀ H₀ fp))
          (fun C s₀ H₀ fp => pe_op (X := cxC _ _ _ C s₀ H₀ fp) op_add_str (pe_ix ix_str (pgs C_SIGNS) (pe_op op_fdiv (pv 0) pe_int) (fun _ _ => rfl)) (pe_ix ix_str (pgs C_SIGNS) (pe_op op_mod (pv 0) pe_int) (fun _ _ => rfl)))) pa_nil))))), ?_⟩
    rcases h with ⟨bs, hx, q⟩ | ⟨hx, q⟩
    rotate_left
    · refine ⟨_, rfl, x, false, rfl, hx, fun H' s' => ?_⟩
      rw [if_neg Bool.false_ne_true]
      exact q _ s'
    refine ⟨_, rfl, x, true, rfl, hx.rw, fun H0 s0 => ?_⟩
    rw [if_pos rfl]
    obtain ⟨p, rfl, hp, hl, hb⟩ := hx
    have siz : SIG.length ≤ sizeLine := small (by decide +kernel)
    have toV : V → V := fun v => v
    have elt : ∀ x ∈ natV bs, ∀ (Hx : Hp) (R : VK), R ((fun v => match v with | .int i => V.str (hex2 i.toNat) | v => v) x) Hx → ∃ b : Nat, x = .int b ∧ b < 256 ∧ R (.str (hex2 b)) Hx := fun x hx Hx R hR => by
      obtain ⟨b, hbm, rfl⟩ := List.mem_map.mp hx
      exact ⟨b, rfl, hb b hbm, hR⟩
    have emap : (natV bs).map (fun v => match v with | .int i => V.str (hex2 i.toNat) | v => v) = (bs.map hex2).map V.str := by
      unfold natV
      rw [List.map_map, List.map_map]
      rfl
    have fin : ∀ D, H0 D = none → ∃ (z : Str) (p : Addr) (ys : List Str), V.str (Str.ofString "") = .str z ∧ [V.ref D] = [.ref p] ∧ SqL K (upd H0 D (.lst ((bs.map hex2).map V.str))) p (ys.map V.str) ∧ (ys.map (·.length)).sum + ys.length * z.length ≤ 16777216 ∧ Q (.str (Txt.join z ys)) (upd H0 D (.lst ((bs.map hex2).map V.str))) := fun D hD =>
      ⟨_, D, bs.map hex2, rfl, rfl, SqL.of upd_same, by rw [hex_sum]; show 2 * bs.length + _ * 0 ≤ _; (first | lia | omega), q _ (s0.trans (sameU hD))⟩
    rcases hp with hp | hp
    · refine ⟨rfl, .inl ⟨_, rfl, p, rfl, ⟨_, SqL.of (s0 _ _ hp)⟩, comp_listM (fun v => match v with | .int i => V.str (hex2 i.toNat) | v => v) (SqL.of (s0 _ _ hp)) (by rw [natV_len]; exact hl) (fun x hmem Hx R _ hR => ?_) fun D hD => by rw [emap]; exact fin D hD⟩⟩
      obtain ⟨b, rfl, hb2, hR'⟩ := elt x hmem Hx R hR
      refine ⟨Sub.set rfl, _, rfl, _, _, rfl, rfl, ⟨by decide, by decide⟩, SIG, _, hx (b / 16), rfl, rfl, siz, ?_, _, rfl, _, _, rfl, rfl, (by show (0 : Int) < 16; decide), SIG, _, hx (b % 16), rfl, rfl, siz, ?_, _, _, rfl, rfl, small (by show 1 + 1 ≤ 1000; decide), hR'⟩
      · rw [show (b : Int) / 16 = ((b / 16 : Nat) : Int) by (first | lia | omega)]
        exact hx_at (by (first | lia | omega))
      · rw [show (b : Int) % 16 = ((b % 16 : Nat) : Int) by (first | lia | omega)]
        exact hx_at (by (first | lia | omega))
    · refine ⟨rfl, .inr ⟨_, rfl, p, rfl, ⟨_, SqT.of (s0 _ _ hp)⟩, comp_tupM (fun v => match v with | .int i => V.str (hex2 i.toNat) | v => v) (SqT.of (s0 _ _ hp)) (by rw [natV_len]; exact hl) (fun x hmem Hx R _ hR => ?_) fun D hD => by rw [emap]; exact fin D hD⟩⟩
      obtain ⟨b, rfl, hb2, hR'⟩ := elt x hmem Hx R hR
      refine ⟨Sub.set rfl, _, rfl, _, _, rfl, rfl, ⟨by decide, by decide⟩, SIG, _, hx (b / 16), rfl, rfl, siz, ?_, _, rfl, _, _, rfl, rfl, (by show (0 : Int) < 16; decide), SIG, _, hx (b % 16), rfl, rfl, siz, ?_, _, _, rfl, rfl, small (by show 1 + 1 ≤ 1000; decide), hR'⟩
      · rw [show (b : Int) / 16 = ((b / 16 : Nat) : Int) by (first | lia | omega)]
        exact hx_at (by (first | lia | omega))
      · rw [show (b : Int) % 16 = ((b % 16 : Nat) : Int) by (first | lia | omega)]
        exact hx_at (by (first | lia | omega))
end
end K4

set_option genSizeOf false
namespace K4
open PySem L2
section
variable {P : Program} {w : World} {K : PySem.W.Frag} {mg : Str → Option Value} {base : Heap} {a : Ad}
theorem app_len {x y : Str} {n m : Nat} (hx : x.length ≤ n) (hy : y.length ≤ m) : (x ++ y).length ≤ n + m := by
  rw [strLen_append]
  (first | lia | omega)
theorem place_len : ∀ p : Nat, p ≤ 100 → (Str.ofString (toString (p : Int))).length ≤ 3 ∧ (p : Int).natAbs.log2 < 1920 := by decide +kernel
/-- how a refusal of this class lies: its dict -/
noncomputable def textX (bt : Addr) (H : Hp) (p : Int) (E : XK) : Prop := ∀ d (H' : Hp), H d = none → Same H H' → H' d = some (.xd [("place", .int p)]) → E (.ref bt) (some d) H'
noncomputable def sp_BadText_init (C : Addr) : Sp := fun vs H Q _ => ∃ (e : Addr) (p : Nat), vs = [.ref e, .int p] ∧ H e = some (xcO e C none) ∧ p ≤ 100 ∧
  ∀ d (H' : Hp), H d = none → (∀ b o, b ≠ e → H b = some o → H' b = some o) → H' e = some (xcO e C (some d)) → H' d = some (.xd [("place", .int p)]) → Q .non H'
theorem ok_BadText_init (T : Tx K mg a) : FnOk P w K mg base CX0 1 a.f_BadText_init a.d_BadText_init ["self", "place"] (sp_BadText_init a.BadText) := by
  refine T.d_BadText_init.F.ok sc_BadText_init (fun vs H Q E h => ?_) (fun cdv A outer s H vs Q E hr h => ?_)
  · obtain ⟨e, p, rfl, _⟩ := h
    rfl
  · obtain ⟨e, p, rfl, he, hp, q⟩ := h
    refine ⟨_, pss_cons (ps_expr (pe_xinit rfl T.m_FormError T.b_FormError T.k_BadText (pa_cons (pv 0) (pa_cons (pe_joined (pj_cons pe_str (pj_cons (pe_fmt (pv 1)) pj_nil))) pa_nil))))
      (pss_one (ps_xfld T.k_BadText (pv 0) (pv 1) rfl)), ?_⟩
    obtain ⟨hp3, hlog⟩ := place_len p hp
    have l1 : (Str.empty ++ ("no such text at " : Str)).length ≤ 100 := by decide +kernel
    have l4 := app_len l1 hp3
    refine ⟨_, rfl, _, rfl, small (by (first | lia | omega)), _, rfl, .inr ⟨_, rfl, hlog, _, rfl, small (by (first | lia | omega)), small (by (first | lia | omega)), e, _, _, rfl, he, by show 1 ≤ sizeLine; decide, ?_⟩⟩
    refine ⟨_, rfl, _, rfl, e, rfl, T.n_place, .inl ⟨he, fun d hd => ?_⟩⟩
    have hde : d ≠ e := fun z => by rw [z, he] at hd; cases hd
    refine q d _ hd (fun b o hb z => ?_) ?_ ?_
    · rw [upd_ne hb, upd_ne (fun z2 => by rw [z2, hd] at z; cases z)]
      exact z
    · rw [upd_same]
    · rw [upd_ne hde, upd_same]
end
end K4

set_option genSizeOf false
namespace K4
open PySem L2
noncomputable def half (c : Nat) : Int := Txt.find SIG ⟨#[c]⟩
noncomputable def bad (c : Nat) : Bool := decide (half c < 0)
noncomputable def byteAt (cs : List Nat) (k : Nat) : Int := half (cs.getD (2 * k) 0) * 16 + half (cs.getD (2 * k + 1) 0)
theorem for_enum {z : Str} {g : TG} {tb : TS} {D : Ends} {σ : L2.St} {H : Hp} (Pv : Nat → L2.St → Hp → Prop) (h0 : Pv 0 σ H)
    (hs : ∀ i c T σ H, (sg z)[i]? = some c → Pv i σ H → H T = none → g (.ref T) σ (upd H T (.tup [.int (i : Nat), .str ⟨#[c]⟩])) fun σ2 H2 => tb { D with nx := Pv (i + 1), ct := Pv (i + 1), bk := D.nx } σ2 H2) (hd : ∀ σ H, Pv z.length σ H → D.nx σ H) :
    ∃ W : Nat → Nat → L2.St → Hp → Prop, (∃ m, W 0 m σ H) ∧ ∀ i m σ H, W i m σ H →
      ((Ite z).stop i H ∧ D.nx σ H) ∨ ((Ite z).go i H ∧ ∃ N : L2.St → Hp → Prop, (∀ σ' H', N σ' H' → ∃ m', m' < m ∧ W (i + 1) m' σ' H') ∧ ∀ x H', (Ite z).yld i H x H' → g x σ H' fun σ2 H2 => tb { D with nx := N, ct := N, bk := D.nx } σ2 H2) := by
  refine ⟨fun i m σ H => m = z.length - i ∧ i ≤ z.length ∧ Pv i σ H, ⟨z.length, by simp, Nat.zero_le _, h0⟩, ?_⟩
  rintro i m σ H ⟨rfl, hi, p⟩
  by_cases hlt : i < z.length
  · refine .inr ⟨hlt, Pv (i + 1), fun σ' H' p' => ⟨z.length - (i + 1), Nat.sub_succ_lt_self _ _ hlt, rfl, hlt, p'⟩, fun x H' y => ?_⟩
    obtain ⟨T, c, rfl, hT, rfl, hc⟩ := y
    exact hs i c T σ _ (by rw [Array.getElem?_toList]; exact hc) p hT
  · have e : i = z.length := by (first | lia | omega)
    subst e
    exact .inl ⟨rfl, hd σ H p⟩
theorem range_half : ∀ n : Nat, n ≤ 100 → Builtin.Range.small 0 n 2 = true ∧ Builtin.Range.rangeSize 0 n 2 = (((n + 1) / 2 : Nat) : Int) := by decide +kernel
theorem comp_rangeS {lo c : Int} {n : Nat} {σ0 : L2.St} {g : TG} {te : TE} {Q : VK} {H1 : Hp} (f : Nat → V) (hn : n ≤ 1000)
    (hs : ∀ i, i < n → ∀ (H : Hp) (R : VK), Same H1 H → R (f i) H → g (.int (lo + i * c)) σ0 H fun σ2 H2 => Sub σ0 σ2 ∧ te σ2 H2 R)
    (hd : ∀ D, H1 D = none → Q (.ref D) (upd H1 D (.lst ((List.range n).map f)))) : CompW (ItrS lo c n) H1 σ0 g tTrue te Q := by
  intro D hD
  refine ⟨fun i m ys H => m = n - i ∧ i ≤ n ∧ ys = (List.range i).map f ∧ H = upd H1 D (.lst ys), ⟨n, by simp, Nat.zero_le _, rfl, rfl⟩, ?_⟩
  rintro i m ys H ⟨rfl, hi, rfl, rfl⟩
  refine ⟨upd_same, ?_⟩
  by_cases hlt : i < n
  · refine .inr ⟨hlt, fun x H' y => ?_⟩
    obtain ⟨e, y⟩ := y
    subst e y
    refine hs i hlt _ _ (sameU hD) ?_
    refine ⟨upd_same, ?_, n - (i + 1), Nat.sub_succ_lt_self _ _ hlt, rfl, hlt, ?_, ?_⟩
    · rw [List.length_map, List.length_range]; exact small1000 (by (first | lia | omega))
    · rw [List.range_succ, List.map_append]; rfl
    · rw [upd_upd]
  · have e : i = n := by (first | lia | omega)
    subst e
    exact .inl ⟨Nat.le_refl _, hd D hD⟩
theorem ndAt : ((["at"] : List Str) ++ (["halves"] : List Str)).Nodup := by decide +kernel
section
variable {P : Program} {w : World} {K : PySem.W.Frag} {mg : Str → Option Value} {base : Heap} {a : Ad}
theorem textX.mono {bt : Addr} {H H1 : Hp} {p : Int} {E : XK} (k : textX bt H p E) (s : Same H H1) : textX bt H1 p E := fun d H' hd s' h => k d H' (s.free hd) (s.trans s') h
theorem text_raise {C : Addr} {H1 : Hp} {p : Nat} {E : XK} (hp : p ≤ 100) (k : textX C H1 p E) : ∀ e, H1 e = none → sp_BadText_init C (.ref e :: [.int p]) (upd H1 e (xcO e C none)) (fun v H2 => v = .non ∧ ∃ dx, H2 e = some (xcO e C dx) ∧ E (.ref C) dx (untr H2 e)) E0 := fun e he => by
  refine ⟨e, p, rfl, upd_same, hp, fun d H' hd kp he' hd' => ⟨rfl, some d, he', ?_⟩⟩
  have hde : d ≠ e := fun z => by rw [z, upd_same] at hd; cases hd
  refine k d _ (by rw [upd_ne hde] at hd; exact hd) (fun b o z => ?_) (by rw [untr_ne hde]; exact hd')
  have hbe : b ≠ e := fun z2 => by rw [z2, he] at z; cases z
  rw [untr_ne hbe]
  exact kp b o hbe (by rw [upd_ne hbe]; exact z)
noncomputable def sp_row_of (K : PySem.W.Frag) (bt : Addr) : Sp := fun vs H Q E => ∃ x, vs = [x] ∧ ((∃ t, TyOf K H x t ∧ PySem.W.kitOne K t (.type "str") = some false ∧ textX bt H (0 : Nat) E) ∨ ∃ z : Str, x = .str z ∧ z.length ≤ 100 ∧
  (∀ i c, (sg z)[i]? = some c → bad c = true → (∀ c' ∈ (sg z).take i, bad c' = false) → textX bt H (i : Nat) E) ∧
  ((∀ c ∈ sg z, bad c = false) → z.length % 2 = 1 → textX bt H (z.length : Nat) E) ∧
  ((∀ c ∈ sg z, bad c = false) → z.length % 2 = 0 → ∀ q H', H q = none → Same H H' → H' q = some (.lst ((List.range (z.length / 2)).map fun k => V.int (byteAt (sg z) k))) → Q (.ref q) H'))
theorem ix_listK {X : Cx} (K : PySem.W.Frag) (hK : X.K = K) : IxR X (rIxL K) := by
  subst hK
  exact ix_list
end
end K4

set_option genSizeOf false
namespace K4
open PySem L2
seal L2.PE L2.PS L2.PSs L2.PA L2.PT L2.PW L2.PG L2.PGs L2.PI L2.PO
theorem take_bad {l : List Nat} {i c : Nat} (hc : l[i]? = some c) (h : ∀ c ∈ l.take i, bad c = false) (hb : bad c = false) : ∀ c ∈ l.take (i + 1), bad c = false := by
  intro d hd
  rw [List.take_add_one, hc] at hd
  rcases List.mem_append.mp hd with z | z
  · exact h d z
  · have : d = c := by simpa using z
    rw [this]; exact hb
theorem halves_at {cs : List Nat} (k : Nat) {j : Int} (hj : j = (k : Nat)) (h : k < cs.length) : atI ((cs.map half).map V.int) j = some (.int (half (cs.getD k 0))) := by
  rw [hj]
  apply atI_nat
  rw [List.getElem?_map, List.getElem?_map, List.getD_eq_getElem?_getD, List.getElem?_eq_getElem h]
  rfl
section
variable {P : Program} {w : World} {K : PySem.W.Frag} {mg : Str → Option Value} {base : Heap} {a : Ad}
set_option maxHeartbeats 1000000 in
theorem ok_row_of (T : Tx K mg a) : FnOk P w K mg base (XC P w true) 3 a.f_row_of a.d_row_of ["text"] (sp_row_of K a.BadText) := by
  have GI : FnOk P w K mg base CX0 1 a.f_BadText_init a.d_BadText_init ["self", "place"] (sp_BadText_init a.BadText) := ok_BadText_init T
  refine T.d_row_of.F.okX sc_row_of (fun vs H Q E h => ?_) (fun cdv A outer s H vs Q E hr h => ?_)
  · obtain ⟨x, rfl, _⟩ := h
    rfl
  · obtain ⟨x, rfl, h⟩ := h
    obtain ⟨_, C_SIGNS⟩ := T.c_SIGNS
    refine ⟨_, pss_cons (ps_if (pt_not (pt_val (pe_callB (call_isinstK K rfl) rfl T.isinstance bt_isinstance (pa_cons (pv 0) (pa_cons (pty T.str bt_str) pa_nil)))))
        (pss_one (ps_raiseI rfl rfl T.m_BadText T.k_BadText GI hr T.d_BadText_init.b raised_fnD (pa_cons pe_int pa_nil)))
        pss_nil)
      (pss_cons (ps_set (i := 1) sc_row_of.nd rfl (Or.inr rfl) (pe_lst pa_nil))
      (pss_cons (ps_for PassesOwn.leaving rfl (pi_enum rfl T.enumerate (pv 0)) (pg_tup rfl (n := 2) (pgs_cons (pg_name (i := 2) sc_row_of.nd rfl (Or.inl rfl)) (pgs_cons (pg_name (i := 3) sc_row_of.nd rfl (Or.inl rfl)) pgs_nil)))
        (pss_cons (ps_set (i := 4) sc_row_of.nd rfl (Or.inl rfl) (pe_bm PySem.F.plainAttrs_str PySem.F.slot_str_find PySem.F.type_str_find mt_find (pgs C_SIGNS) (pa_cons (pv 3) pa_nil)))
          (pss_cons (ps_if (pt_cmpR op_lt (pv 4) pe_int (nomark _))
            (pss_one (ps_raiseI rfl rfl T.m_BadText T.k_BadText GI hr T.d_BadText_init.b raised_fnD (pa_cons (pv 2) pa_nil)))
            pss_nil)
          (pss_one (ps_expr (pe_bm PySem.F.plainAttrs_list PySem.F.slot_list_append PySem.F.type_list_append mt_append (pv 1) (pa_cons (pv 4) pa_nil)))))))
      (pss_cons (ps_if (pt_cmpR op_eq (pe_op op_mod (pe_callB call_len_seq (by rfl) T.len bt_len (pa_cons (pv 1) pa_nil)) pe_int) pe_int (nomark _))
        (pss_one (ps_raiseI rfl rfl T.m_BadText T.k_BadText GI hr T.d_BadText_init.b raised_fnD (pa_cons (pe_callB call_len_str (by rfl) T.len bt_len (pa_cons (pv 0) pa_nil)) pa_nil)))
        pss_nil)
      (PSs.nox (pss_one (ps_ret (pe_comp (ts := ["at"]) (xs := ["halves"]) (js := [1]) rfl ⟨rfl, rfl, by decide +kernel, by decide +kernel, freeIn rfl⟩ (.cons rfl (.inl rfl) rfl .nil) (by decide +kernel) (pi_range3 rfl T.range (pa_cons pe_int (pa_cons (pe_callB call_len_seq (by rfl) T.len bt_len (pa_cons (pv 1) pa_nil)) (pa_cons pe_int pa_nil))))
          (fun C s₀ H₀ fp => pg_name (X := cxC _ _ _ C s₀ H₀ fp) (i := 0) ndAt rfl (Or.inl rfl) (Or.inr rfl))
          (fun C s₀ H₀ fp => pif_nil (X := cxC _ _ _ C s₀ H₀ fp))
          (fun C s₀ H₀ fp => pe_op (X := cxC _ _ _ C s₀ H₀ fp) op_add (pe_op op_mul (pe_ix (ix_listK K rfl) (pv 1) (pv 0) (fun _ _ => rfl)) pe_int) (pe_ix (ix_listK K rfl) (pv 1) (pe_op op_add (pv 0) pe_int) (fun _ _ => rfl)))))))))), ?_⟩
    refine hide2 fun U hU => ?_
    rcases h with ⟨t, ty, hk, k⟩ | ⟨z, rfl, hz, kb, ko, kq⟩
    · exact ⟨_, rfl, x, .ty "str", t, .type "str", false, rfl, ty, rfl, hk, _, rfl, iteT ⟨by show 1 ≤ sizeLine; decide, text_raise (p := 0) (by decide) k⟩⟩
    refine ⟨_, rfl, .str z, .ty "str", .type "str", .type "str", true, rfl, .str _, rfl, kit_self, _, rfl, iteF ?_⟩
    refine ⟨by show 0 ≤ sizeLine; decide, fun l hl => ?_⟩
    have hsz : (sg z).length = z.length := by simp [sg, PySem.Str.length]
    have inv0 : ∀ H', Same (upd H l (.lst [])) H' → True := fun _ _ => trivial
    refine hU _ _ _ ?_
    clear hU
    refine hide1 fun U hU => ?_
    refine ⟨_, rfl, z, rfl, ?_⟩
    refine for_enum (z := z) (fun i σ H' => (∃ v2 v3 v4, σ = [some (.str z), some (.ref l), v2, v3, v4]) ∧ Same H H' ∧ H' l = some (.lst ((((sg z).take i).map half).map V.int)) ∧ ∀ c ∈ (sg z).take i, bad c = false) ⟨⟨none, none, none, rfl⟩, sameU hl, upd_same, by simp⟩ ?_ ?_
    · rintro i c T0 σ H1 hc ⟨⟨v2, v3, v4, rfl⟩, s1, g1, hbd⟩ hT
      have hi : i < z.length := by rw [← hsz]; exact (List.getElem?_eq_some_iff.mp hc).1
      have s2 : Same H1 (upd H1 T0 (.tup [.int (i : Nat), .str ⟨#[c]⟩])) := sameU hT
      refine ⟨T0, _, rfl, SqT.of upd_same, rfl, _, _, rfl, _, _, rfl, rfl, ?_⟩
      refine ⟨rfl, _, rfl, _, _, rfl, rfl, ?_⟩
      refine ⟨_, rfl, _, _, rfl, rfl, _, rfl, ite2 (fun hb => ?_) (fun hb => ?_)⟩
      · exact ⟨_, rfl, by show 1 ≤ sizeLine; decide, text_raise (by (first | lia | omega)) ((kb i c hc hb hbd).mono (s1.trans s2))⟩
      · have hb' : bad c = false := nf hb
        refine ⟨_, rfl, .inl ⟨rfl, _, SqL.of (s2 _ _ g1)⟩, _, rfl, l, _, _, rfl, rfl, s2 _ _ g1, ?_, ?_⟩
        · rw [List.length_map, List.length_map, List.length_take]
          exact small1000 (by (first | lia | omega))
        refine ⟨⟨_, _, _, rfl⟩, ?_, ?_, take_bad hc hbd hb'⟩
        · exact (s1.trans s2).put hl
        · rw [upd_same, List.take_add_one, hc, List.map_append, List.map_append]
          rfl
    · rintro σ H1 ⟨⟨v2, v3, v4, rfl⟩, s1, g1, hbd⟩
      refine hU _ _ _ ?_
      clear hU
      refine hide1 fun U hU => ?_
      have et : (sg z).take z.length = sg z := by rw [← hsz, List.take_length]
      rw [et] at g1 hbd
      have el : (((sg z).map half).map V.int).length = z.length := by rw [List.length_map, List.length_map, hsz]
      refine ⟨_, rfl, l, _, rfl, .inl (SqL.of g1), _, _, rfl, rfl, (by show (0 : Int) < 2; decide), rfl, _, rfl, ite2 (fun ho => ?_) (fun ho => ?_)⟩
      · have ho' : z.length % 2 = 1 := by
          have := of_decide_eq_true ho
          rw [el] at this
          injection this with this
          (first | lia | omega)
        exact ⟨_, rfl, z, rfl, small (by (first | lia | omega)), by show 1 ≤ sizeLine; decide, text_raise hz ((ko hbd ho').mono s1)⟩
      · have ho' : z.length % 2 = 0 := by
          have := of_decide_eq_false (nf ho)
          rw [el] at this
          have h2 : ¬ ((z.length : Int) % 2 = 1) := fun w => this (by show V.int ((z.length : Int) % 2) = V.int 1; rw [w])
          (first | lia | omega)
        refine hU _ _ _ ?_
        clear hU
        obtain ⟨r1, r2⟩ := range_half z.length hz
        refine ⟨_, rfl, l, _, rfl, .inl (SqL.of g1), _, _, _, rfl, by decide, by decide, ?_, ?_, ?_⟩
        · rw [el]; exact r1
        · rw [el, r2]; (first | lia | omega)
        rw [el, r2]
        refine comp_rangeS (fun k => V.int (byteAt (sg z) k)) (by (first | lia | omega)) (fun i hi Hx R sx hR => ?_) fun D hD => ?_
        · have hi2 : 2 * i + 1 < (sg z).length := by (first | lia | omega)
          refine ⟨Sub.set rfl, _, rfl, _, rfl, l, _, _, _, rfl, rfl, SqL.of (sx _ _ g1), halves_at (2 * i) (by (first | lia | omega)) (by (first | lia | omega)), _, _, rfl, rfl, .inr ⟨by decide, by decide⟩, ?_⟩
          refine ⟨_, rfl, _, rfl, _, _, rfl, rfl, l, _, _, _, rfl, rfl, SqL.of (sx _ _ g1), halves_at (2 * i + 1) (by (first | lia | omega)) hi2, _, _, rfl, rfl, hR⟩
        · refine kq hbd ho' D _ (s1.free hD) (s1.trans (sameU hD)) ?_
          have en : ((((z.length + 1) / 2 : Nat) : Int)).toNat = z.length / 2 := by (first | lia | omega)
          rw [upd_same, en]
end
end K4

set_option genSizeOf false
namespace K4
open PySem L2
seal L2.PE L2.PS L2.PSs L2.PA L2.PT L2.PW L2.PG L2.PGs L2.PI L2.PO
theorem FnOk_or {P : Program} {w : World} {K : PySem.W.Frag} {mg : Str → Option Value} {base : Heap} {CX : CXT} {k : Nat} {f : Addr} {fd : FuncData} {ps : List Str} {sp1 sp2 : Sp} (F1 : FnOk P w K mg base CX k f fd ps sp1) (F2 : FnOk P w K mg base CX k f fd ps sp2) :
    FnOk P w K mg base CX k f fd ps (fun vs H Q E => sp1 vs H Q E ∨ sp2 vs H Q E) :=
  ⟨fun vs H Q E h => h.elim (F1.len vs H Q E) (F2.len vs H Q E), fun A outer s H args us vs Q E hr hc hsm he hb hv hs => hs.elim (F1.run A outer s H args us vs Q E hr hc hsm he hb hv) (F2.run A outer s H args us vs Q E hr hc hsm he hb hv)⟩
theorem lk_place {x : V} : List.lookup ("place" : Str) [(("place" : Str), x)] = some x := by
  rw [List.lookup_cons, show (("place" : Str) == "place") = true from by decide +kernel]
noncomputable def told1 (H : Hp) (Q : VK) (y : Str) : Prop := ∀ r (H' : Hp), H r = none → Same H H' → H' r = some (.lst [.str y]) → Q (.ref r) H'
noncomputable def toldT (H : Hp) (Q : VK) (p : Int) : Prop := ∀ r (H' : Hp), H r = none → Same H H' → H' r = some (.lst [.str "text", .int p, .bl false]) → Q (.ref r) H'
noncomputable def sp_at (bt : Addr) : Sp := fun vs H Q _ => ∃ e d a0 tb p, vs = [.ref e] ∧ H e = some (xHO e (xObj (.ref bt) (some d) a0 tb)) ∧ H d = some (.xd [("place", .int p)]) ∧ toldT H Q p
noncomputable def sp_refused (K : PySem.W.Frag) : Sp := fun vs H Q _ => ∃ (way : Int) (x : V), vs = [.int way, x] ∧
  ((way = 0 ∧ Th K H x ∧ amV x (-MW - 1) MW = false ∧ told1 H Q "number") ∨ (way = 1 ∧ Th K H x ∧ amV x 0 MN = false ∧ told1 H Q "number") ∨ (way = 2 ∧ Rw K H x false ∧ told1 H Q "row") ∨ (way = 3 ∧ Rw K H x false ∧ told1 H Q "row") ∨
   (way = 4 ∧ ((∃ t, TyOf K H x t ∧ PySem.W.kitOne K t (.type "str") = some false ∧ toldT H Q (0 : Nat)) ∨ ∃ z : Str, x = .str z ∧ z.length ≤ 100 ∧
      (∀ i c, (sg z)[i]? = some c → bad c = true → (∀ c' ∈ (sg z).take i, bad c' = false) → toldT H Q (i : Nat)) ∧
      ((∀ c ∈ sg z, bad c = false) → z.length % 2 = 1 → toldT H Q (z.length : Nat)) ∧
      ((∀ c ∈ sg z, bad c = false) → z.length % 2 = 0 → ∀ q H', H q = none → Same H H' → H' q = some (.lst ((List.range (z.length / 2)).map fun k => V.int (byteAt (sg z) k))) → Q (.ref q) H'))))
theorem w_nt : ¬ V.str ("number" : Str) = V.str "text" := fun z => by injection z with z; exact absurd z (by decide +kernel)
theorem w_rt : ¬ V.str ("row" : Str) = V.str "text" := fun z => by injection z with z; exact absurd z (by decide +kernel)
section
variable {P : Program} {w : World} {K : PySem.W.Frag} {mg : Str → Option Value} {base : Heap} {a : Ad}
theorem ok_at (T : Tx K mg a) : FnOk P w K mg base CXS 1 a.f_at a.d_at ["_law_e"] (sp_at a.BadText) := by
  refine T.d_at.F.ok sc_at (fun vs H Q E h => ?_) (fun cdv A outer s H vs Q E hr h => ?_)
  · obtain ⟨e, d, a0, tb, p, rfl, _⟩ := h
    rfl
  · obtain ⟨e, d, a0, tb, p, rfl, hE, hd, q⟩ := h
    refine ⟨_, pss_cons (ps_if (pt_val (pe_callB call_isinstX rfl T.isinstance bt_isinstance (pa_cons (pv 0) (pa_cons (pcl T.m_BadWire) pa_nil))))
        pss_never
        pss_nil)
      (pss_cons (ps_if (pt_val (pe_callB call_isinstX rfl T.isinstance bt_isinstance (pa_cons (pv 0) (pa_cons (pcl T.m_BadText) pa_nil))))
        (pss_one (ps_ret (pe_lst (pa_cons pe_str (pa_cons (pe_xget (pv 0) rfl) (pa_cons (pe_callB (call_isinstK K rfl) rfl T.isinstance bt_isinstance (pa_cons (pe_xget (pv 0) rfl) (pa_cons (pty T.bool bt_bool) pa_nil))) pa_nil))))))
        pss_nil) pss_never), ?_⟩
    refine ⟨_, rfl, e, _, some d, a0, tb, _, _, _, rfl, hE, T.z_BadText, .inr ⟨d, _, rfl, hd⟩, .inl ⟨_, rfl, rfl⟩, T.q_BadText_BadWire, _, rfl, iteF ?_⟩
    refine ⟨_, rfl, e, _, some d, a0, tb, _, _, _, rfl, hE, T.z_BadText, .inr ⟨d, _, rfl, hd⟩, .inl ⟨_, rfl, rfl⟩, T.q_BadText_BadText, _, rfl, iteT ?_⟩
    refine ⟨_, rfl, e, _, d, a0, tb, _, _, rfl, hE, hd, T.z_BadText, T.n_place, lk_place, _, rfl, e, _, d, a0, tb, _, _, rfl, hE, hd, T.z_BadText, T.n_place, lk_place,
      .int _, .ty "bool", .type "int", .type "bool", false, rfl, .int _, rfl, T.q_int_bool, by show 3 ≤ sizeLine; decide, fun r hr => ?_⟩
    exact q r _ hr (sameU hr) upd_same
theorem wd_number (T : Tx K mg a) : Wd K a a.BadNumber [true, false, false, false, false, false, false, false, false, false] := ⟨T.q_BadNumber_BadNumber, T.q_BadNumber_BadRow, T.q_BadNumber_BadBook, T.q_BadNumber_BadValue, T.q_BadNumber_BadText, T.q_BadNumber_BadWire, T.q_BadNumber_BadCheck, T.q_BadNumber_NotKin, T.q_BadNumber_NoKey, T.q_BadNumber_BadVersion, T.q_BadNumber_v, T.z_BadNumber⟩
theorem wd_row (T : Tx K mg a) : Wd K a a.BadRow [false, true, false, false, false, false, false, false, false, false] := ⟨T.q_BadRow_BadNumber, T.q_BadRow_BadRow, T.q_BadRow_BadBook, T.q_BadRow_BadValue, T.q_BadRow_BadText, T.q_BadRow_BadWire, T.q_BadRow_BadCheck, T.q_BadRow_NotKin, T.q_BadRow_NoKey, T.q_BadRow_BadVersion, T.q_BadRow_v, T.z_BadRow⟩
theorem wd_text (T : Tx K mg a) : Wd K a a.BadText [false, false, false, false, true, false, false, false, false, false] := ⟨T.q_BadText_BadNumber, T.q_BadText_BadRow, T.q_BadText_BadBook, T.q_BadText_BadValue, T.q_BadText_BadText, T.q_BadText_BadWire, T.q_BadText_BadCheck, T.q_BadText_NotKin, T.q_BadText_NoKey, T.q_BadText_BadVersion, T.q_BadText_v, T.z_BadText⟩
set_option maxHeartbeats 2000000 in
theorem ok_refused (T : Tx K mg a) : FnOk P w K mg base CX0 6 a.f_refused a.d_refused ["_law_way", "_law_thing"] (sp_refused K) := by
  have GF : FnOk P w K mg base (XC P w true) 4 a.f_folded a.d_folded ["number"] (sp_folded K a.BadNumber) := ok_folded T
  have GU : FnOk P w K mg base (XC P w true) 4 a.f_unfolded a.d_unfolded ["number"] (sp_unfolded K a.BadNumber) := ok_unfolded T
  have GC : FnOk P w K mg base (XC P w true) 5 a.f_check a.d_check ["row"] (sp_check K a.BadRow) := ok_check T
  have GR : FnOk P w K mg base (XC P w true) 5 a.f_row_text a.d_row_text ["row"] (sp_row_text K a.BadRow) := ok_row_text T
  have GO : FnOk P w K mg base (XC P w true) 3 a.f_row_of a.d_row_of ["text"] (sp_row_of K a.BadText) := ok_row_of T
  have GW : FnOk P w K mg base CXS 1 a.f_word a.d_word ["_law_e"] (fun vs H Q E => sp_word a.BadNumber "number" vs H Q E ∨ sp_word a.BadRow "row" vs H Q E ∨ sp_word a.BadText "text" vs H Q E) :=
    FnOk_or (ok_word T (wd_number T) (by decide +kernel)) (FnOk_or (ok_word T (wd_row T) (by decide +kernel)) (ok_word T (wd_text T) (by decide +kernel)))
  have GA : FnOk P w K mg base CXS 1 a.f_at a.d_at ["_law_e"] (sp_at a.BadText) := ok_at T
  refine T.d_refused.F.ok sc_refused (fun vs H Q E h => ?_) (fun cdv A outer s H vs Q E hr h => ?_)
  · obtain ⟨way, x, rfl, _⟩ := h
    rfl
  · obtain ⟨way, x, rfl, h⟩ := h
    refine ⟨_, pss_cons (ps_tryG rfl rfl (fun E => psx_if (pt_cmpR op_eq (pv 0) pe_int (nomark _))
            (psx_expr (pex_call (E := E) GF (hr.mono (by decide)) rfl T.d_folded.m T.d_folded.F.kp T.d_folded.b .nil (fun _ => rfl) (pa_cons (pv 1) pa_nil)))
            (psx_if (pt_cmpR op_eq (pv 0) pe_int (nomark _))
                (psx_expr (pex_call (E := E) GU (hr.mono (by decide)) rfl T.d_unfolded.m T.d_unfolded.F.kp T.d_unfolded.b .nil (fun _ => rfl) (pa_cons (pv 1) pa_nil)))
                (psx_if (pt_cmpR op_eq (pv 0) pe_int (nomark _))
                    (psx_expr (pex_call (E := E) GC hr rfl T.d_check.m T.d_check.F.kp T.d_check.b .nil (fun _ => rfl) (pa_cons (pv 1) pa_nil)))
                    (psx_if (pt_cmpR op_eq (pv 0) pe_int (nomark _))
                        (psx_expr (pex_call (E := E) GR hr rfl T.d_row_text.m T.d_row_text.F.kp T.d_row_text.b .nil (fun _ => rfl) (pa_cons (pv 1) pa_nil)))
                        (psx_ret (pex_call (E := E) GO (hr.mono (by decide)) rfl T.d_row_of.m T.d_row_of.F.kp T.d_row_of.b .nil (fun _ => rfl) (pa_cons (pv 1) pa_nil))))))) rfl T.m_FormError (v0 := .ref a.FormError) rfl
        (fun e => pss_one (ps_ret (pe_ifExp (pt_cmpR op_eq (pe_callS GW (Room_mark (hr.mono (by decide))) rfl T.d_word.m T.d_word.F.kp T.d_word.b (pa_cons (pv 2) pa_nil)) pe_str (nomark _)) (pe_callS GA (Room_mark (hr.mono (by decide))) rfl T.d_at.m T.d_at.F.kp T.d_at.b (pa_cons (pv 2) pa_nil)) (pe_lst (pa_cons (pe_callS GW (Room_mark (hr.mono (by decide))) rfl T.d_word.m T.d_word.F.kp T.d_word.b (pa_cons (pv 2) pa_nil)) pa_nil))))) sc_refused.nd (i := 2) rfl rfl)
      (pss_one (ps_ret (pe_lst pa_nil))), ?_⟩
    have ne : ∀ {m n : Int}, m ≠ n → ¬ V.int m = V.int n := fun h z => h (by injection z)
    rcases h with ⟨rfl, hx, ha, q⟩ | ⟨rfl, hx, ha, q⟩ | ⟨rfl, hx, q⟩ | ⟨rfl, hx, q⟩ | ⟨rfl, h⟩
    · refine ⟨_, rfl, rfl, _, rfl, iteP rfl ?_⟩
      refine ⟨_, rfl, x, rfl, hx, ?_⟩
      rw [ha]
      refine iteF ⟨T.x_BadNumber, fun e a0 tb he => ?_⟩
      refine ⟨_, rfl, ⟨e, _, _, a0, tb, rfl, upd_same⟩, .inl ⟨e, none, a0, tb, rfl, upd_same, .inl rfl, fun H2 s2 => ⟨rfl, _, rfl, iteD w_nt ?_⟩⟩⟩
      refine ⟨_, rfl, ⟨e, _, _, a0, tb, rfl, s2 _ _ upd_same⟩, .inl ⟨e, none, a0, tb, rfl, s2 _ _ upd_same, .inl rfl, fun H3 s3 => ⟨by show 1 ≤ sizeLine; decide, fun r hr3 => ?_⟩⟩⟩
      have s4 := ((sameU he).trans s2).trans s3
      exact q r _ (s4.free hr3) (s4.trans (sameU hr3)) upd_same
    · refine ⟨_, rfl, rfl, _, rfl, iteD (ne (by decide)) ?_⟩
      refine ⟨_, rfl, rfl, _, rfl, iteP rfl ?_⟩
      refine ⟨_, rfl, x, rfl, hx, ?_⟩
      rw [ha]
      refine iteF ⟨T.x_BadNumber, fun e a0 tb he => ?_⟩
      refine ⟨_, rfl, ⟨e, _, _, a0, tb, rfl, upd_same⟩, .inl ⟨e, none, a0, tb, rfl, upd_same, .inl rfl, fun H2 s2 => ⟨rfl, _, rfl, iteD w_nt ?_⟩⟩⟩
      refine ⟨_, rfl, ⟨e, _, _, a0, tb, rfl, s2 _ _ upd_same⟩, .inl ⟨e, none, a0, tb, rfl, s2 _ _ upd_same, .inl rfl, fun H3 s3 => ⟨by show 1 ≤ sizeLine; decide, fun r hr3 => ?_⟩⟩⟩
      have s4 := ((sameU he).trans s2).trans s3
      exact q r _ (s4.free hr3) (s4.trans (sameU hr3)) upd_same
    · refine ⟨_, rfl, rfl, _, rfl, iteD (ne (by decide)) ?_⟩
      refine ⟨_, rfl, rfl, _, rfl, iteD (ne (by decide)) ?_⟩
      refine ⟨_, rfl, rfl, _, rfl, iteP rfl ?_⟩
      refine ⟨_, rfl, x, rfl, .inr ⟨hx, fun H1 s1 => ?_⟩⟩
      refine ⟨T.x_BadRow, fun e a0 tb he => ?_⟩
      refine ⟨_, rfl, ⟨e, _, _, a0, tb, rfl, upd_same⟩, .inr (.inl ⟨e, none, a0, tb, rfl, upd_same, .inl rfl, fun H2 s2 => ⟨rfl, _, rfl, iteD w_rt ?_⟩⟩)⟩
      refine ⟨_, rfl, ⟨e, _, _, a0, tb, rfl, s2 _ _ upd_same⟩, .inr (.inl ⟨e, none, a0, tb, rfl, s2 _ _ upd_same, .inl rfl, fun H3 s3 => ⟨by show 1 ≤ sizeLine; decide, fun r hr3 => ?_⟩⟩)⟩
      have s4 := ((s1.trans (sameU he)).trans s2).trans s3
      exact q r _ (s4.free hr3) (s4.trans (sameU hr3)) upd_same
    · refine ⟨_, rfl, rfl, _, rfl, iteD (ne (by decide)) ?_⟩
      refine ⟨_, rfl, rfl, _, rfl, iteD (ne (by decide)) ?_⟩
      refine ⟨_, rfl, rfl, _, rfl, iteD (ne (by decide)) ?_⟩
      refine ⟨_, rfl, rfl, _, rfl, iteP rfl ?_⟩
      refine ⟨_, rfl, x, rfl, .inr ⟨hx, fun H1 s1 => ?_⟩⟩
      refine ⟨T.x_BadRow, fun e a0 tb he => ?_⟩
      refine ⟨_, rfl, ⟨e, _, _, a0, tb, rfl, upd_same⟩, .inr (.inl ⟨e, none, a0, tb, rfl, upd_same, .inl rfl, fun H2 s2 => ⟨rfl, _, rfl, iteD w_rt ?_⟩⟩)⟩
      refine ⟨_, rfl, ⟨e, _, _, a0, tb, rfl, s2 _ _ upd_same⟩, .inr (.inl ⟨e, none, a0, tb, rfl, s2 _ _ upd_same, .inl rfl, fun H3 s3 => ⟨by show 1 ≤ sizeLine; decide, fun r hr3 => ?_⟩⟩)⟩
      have s4 := ((s1.trans (sameU he)).trans s2).trans s3
      exact q r _ (s4.free hr3) (s4.trans (sameU hr3)) upd_same
    · refine ⟨_, rfl, rfl, _, rfl, iteD (ne (by decide)) ?_⟩
      refine ⟨_, rfl, rfl, _, rfl, iteD (ne (by decide)) ?_⟩
      refine ⟨_, rfl, rfl, _, rfl, iteD (ne (by decide)) ?_⟩
      refine ⟨_, rfl, rfl, _, rfl, iteD (ne (by decide)) ?_⟩
      refine ⟨_, rfl, x, rfl, ?_⟩
      rcases h with ⟨t, ty, hk, q⟩ | ⟨z, rfl, hz, kb, ko, kq⟩
      · refine .inl ⟨t, ty, hk, ?_⟩
        intro d H' hd s1 hd'
        refine ⟨T.x_BadText, fun e a0 tb he => ?_⟩
        refine ⟨_, rfl, ⟨e, _, _, a0, tb, rfl, upd_same⟩, .inr (.inr ⟨e, some d, a0, tb, rfl, upd_same, .inr ⟨d, _, rfl, keepH hd' he⟩, fun H2 s2 => ⟨rfl, _, rfl, iteP rfl ?_⟩⟩)⟩
        refine ⟨_, rfl, ⟨e, _, _, a0, tb, rfl, s2 _ _ upd_same⟩, e, d, a0, tb, _, rfl, s2 _ _ upd_same, s2 _ _ (keepH hd' he), fun r H3 hr3 s3 h3 => ?_⟩
        have s4 := (s1.trans (sameU he)).trans s2
        exact q r H3 (s4.free hr3) (s4.trans s3) h3
      · refine .inr ⟨z, rfl, hz, fun i c h1 h2 h3 => ?_, fun h1 h2 => ?_, kq⟩
        · have q := kb i c h1 h2 h3
          intro d H' hd s1 hd'
          refine ⟨T.x_BadText, fun e a0 tb he => ?_⟩
          refine ⟨_, rfl, ⟨e, _, _, a0, tb, rfl, upd_same⟩, .inr (.inr ⟨e, some d, a0, tb, rfl, upd_same, .inr ⟨d, _, rfl, keepH hd' he⟩, fun H2 s2 => ⟨rfl, _, rfl, iteP rfl ?_⟩⟩)⟩
          refine ⟨_, rfl, ⟨e, _, _, a0, tb, rfl, s2 _ _ upd_same⟩, e, d, a0, tb, _, rfl, s2 _ _ upd_same, s2 _ _ (keepH hd' he), fun r H3 hr3 s3 h3 => ?_⟩
          have s4 := (s1.trans (sameU he)).trans s2
          exact q r H3 (s4.free hr3) (s4.trans s3) h3
        · have q := ko h1 h2
          intro d H' hd s1 hd'
          refine ⟨T.x_BadText, fun e a0 tb he => ?_⟩
          refine ⟨_, rfl, ⟨e, _, _, a0, tb, rfl, upd_same⟩, .inr (.inr ⟨e, some d, a0, tb, rfl, upd_same, .inr ⟨d, _, rfl, keepH hd' he⟩, fun H2 s2 => ⟨rfl, _, rfl, iteP rfl ?_⟩⟩)⟩
          refine ⟨_, rfl, ⟨e, _, _, a0, tb, rfl, s2 _ _ upd_same⟩, e, d, a0, tb, _, rfl, s2 _ _ upd_same, s2 _ _ (keepH hd' he), fun r H3 hr3 s3 h3 => ?_⟩
          have s4 := (s1.trans (sameU he)).trans s2
          exact q r H3 (s4.free hr3) (s4.trans s3) h3
end
end K4

set_option genSizeOf false
namespace K4
open PySem L2
seal L2.PE L2.PS L2.PSs L2.PA L2.PT L2.PW L2.PG L2.PGs L2.PI L2.PO
theorem pa_c {X : Cx} {e : Expr} {es : List Expr} {te : TE} {t : TA} (ha : PE X e te) (hr : PA X es t) (hn : ∀ x p, e ≠ .Starred x p := by intro _ _ h; cases h) : PA X (e :: es) (tCons te t) :=
  pa_cons ha hr (by rw [starEach]; exact fun x p z => hn x p z)
/-! boxes: what stands in them is not unfolded -/
structure PEb (X : Cx) (e : Expr) (t : TE) : Prop where
  out : PE X e t
  ns : ∀ x p, e ≠ .Starred x p
structure PAb (X : Cx) (es : List Expr) (t : TA) : Prop where
  out : PA X es t
theorem pab_nil {X : Cx} : PAb X [] tNil := ⟨pa_nil⟩
theorem pab_c {X : Cx} {e : Expr} {es : List Expr} {te : TE} {t : TA} (ha : PEb X e te) (hr : PAb X es t) : PAb X (e :: es) (tCons te t) := ⟨pa_c ha.out hr.out ha.ns⟩
theorem peb_lst {X : Cx} {es : List Expr} {t : TA} {pos : Pos} (h : PAb X es t) : PEb X (.List es pos) (tLst t) := ⟨pe_lst h.out, fun _ _ z => by cases z⟩
theorem peb_tup {X : Cx} {es : List Expr} {t : TA} {x1 : Nat} {pos : Pos} (h : PAb X es t) : PEb X (.Tuple es x1 pos) (tTup t) := ⟨pe_tup h.out, fun _ _ z => by cases z⟩
theorem peb_non {X : Cx} {j : Nat} {pos : Pos} : PEb X (.Constant .none j pos) (tC .non) := ⟨pe_non, fun _ _ z => by cases z⟩
theorem peb_bl {X : Cx} {b : Bool} {j : Nat} {pos : Pos} : PEb X (.Constant (.bool b) j pos) (tC (.bl b)) := ⟨pe_bl, fun _ _ z => by cases z⟩
theorem peb_int {X : Cx} {i : Int} {j : Nat} {pos : Pos} : PEb X (.Constant (.int i) j pos) (tC (.int i)) := ⟨pe_int, fun _ _ z => by cases z⟩
theorem peb_str {X : Cx} {x : Str} {j : Nat} {pos : Pos} : PEb X (.Constant (.str x) j pos) (tC (.str x)) := ⟨pe_str, fun _ _ z => by cases z⟩
theorem peb_dnewK {X : Cx} {pos : Pos} : PEb X (.Dict [] [] pos) tDNewK := ⟨pe_dnewK, fun _ _ z => by cases z⟩
theorem peb_neg {X : Cx} {e : Expr} {t : TE} {pos : Pos} (h : PEb X e t) : PEb X (.UnaryOp .USub e pos) (tUn (rU fun i => .int (-i)) t) := ⟨pe_un un_neg h.out, fun _ _ z => by cases z⟩
theorem atI_in {α : Type} {xs : List α} {k : Int} (h0 : 0 ≤ k) (h1 : k < xs.length) : ∃ v, atI xs k = some v ∧ v ∈ xs := by
  have hk : k.toNat < xs.length := by (first | lia | omega)
  have e : atI xs ((k.toNat : Nat) : Int) = some xs[k.toNat] := atI_nat (List.getElem?_eq_getElem hk)
  have e2 : ((k.toNat : Nat) : Int) = k := by (first | lia | omega)
  rw [e2] at e
  exact ⟨_, e, List.getElem_mem hk⟩
theorem ixv {K : PySem.W.Frag} {Hx : Hp} {l : Addr} (xs : List V) {k : Int} {Pv Qv : V → Prop} (g : Hx l = some (.lst xs)) (h0 : 0 ≤ k) (h1 : k < xs.length) (hP : ∀ b ∈ xs, Pv b) (c : ∀ b, Pv b → Qv b) :
    ∃ p ys i v, V.ref l = .ref p ∧ V.int k = .int i ∧ SqL K Hx p ys ∧ atI ys i = some v ∧ Qv v := by
  obtain ⟨v, e, hv⟩ := atI_in h0 h1
  exact ⟨l, _, k, _, rfl, rfl, SqL.of g, e, c _ (hP _ hv)⟩
theorem ixi {K : PySem.W.Frag} {Hx : Hp} {l : Addr} (xs : List Int) {k : Int} {Pb : Int → Prop} {Qv : V → Prop} (g : Hx l = some (.lst (xs.map V.int))) (h0 : 0 ≤ k) (h1 : k < xs.length) (hP : ∀ b ∈ xs, Pb b) (c : ∀ b, Pb b → Qv (.int b)) :
    ∃ p ys i v, V.ref l = .ref p ∧ V.int k = .int i ∧ SqL K Hx p ys ∧ atI ys i = some v ∧ Qv v := by
  refine ixv (xs.map V.int) (Pv := fun v => ∃ b, Pb b ∧ v = .int b) g h0 (by rw [List.length_map]; exact h1) (fun v hv => ?_) fun v hv => ?_
  · obtain ⟨b, hb, rfl⟩ := List.mem_map.mp hv
    exact ⟨b, hP b hb, rfl⟩
  · obtain ⟨b, hb, rfl⟩ := hv
    exact c b hb
theorem op_mulG {X : Cx} : OpR X (binaryOp .Mult) (rI (fun i j => IntMulOk i j) fun i j => .int (i * j)) := opI fun _ _ _ _ _ _ _ hc q => PyProof.Rows.mul_int q hc
noncomputable def HF : Int := 57896044618658097711785492504343953926634992332820282019728792003956564819968
theorem hf_eq : ((2 : Int) ^ (63 : Int).toNat * 2 ^ (64 : Int).toNat * (2 ^ (64 : Int).toNat) ^ (2 : Int).toNat) = HF := by decide +kernel
theorem hf_mw : HF = MW + 1 := by decide +kernel
theorem hf_mn : 2 * HF = MN + 1 := by decide +kernel
theorem hf_big : 2147483648 ^ 8 ≤ HF := by decide +kernel
theorem mw_pos : 100 ≤ MW := by decide +kernel
theorem hf_ok : IntMulOk ((2 : Int) ^ (63 : Int).toNat * 2 ^ (64 : Int).toNat) ((2 ^ (64 : Int).toNat) ^ (2 : Int).toNat) := by unfold IntMulOk; decide +kernel
theorem hf_ok2 : IntMulOk ((2 : Int) ^ (63 : Int).toNat) (2 ^ (64 : Int).toNat) := by unfold IntMulOk; decide +kernel
theorem hf_pb : CPowB 2 63 ∧ CPowB 2 64 ∧ CPowB (2 ^ (64 : Int).toNat) 2 := by unfold CPowB; decide +kernel
theorem am_out {i lo hi : Int} (h : i < lo ∨ hi < i) : amV (.int i) lo hi = false := by
  rw [amV_int]
  rcases h with h | h
  · rw [decide_eq_false (by (first | lia | omega)), Bool.false_and]
  · rw [decide_eq_false (show ¬ i ≤ hi by (first | lia | omega)), Bool.and_false]
theorem am_in {i lo hi : Int} (h : lo ≤ i ∧ i ≤ hi) : amV (.int i) lo hi = true := by
  rw [amV_int, decide_eq_true h.1, decide_eq_true h.2]; rfl
theorem unfold_fold (i : Int) : unfoldI (foldI i) = i := by
  unfold foldI unfoldI
  by_cases h : i < 0
  · rw [if_pos h, if_pos (by (first | lia | omega))]; (first | lia | omega)
  · rw [if_neg h, if_neg (by (first | lia | omega))]; (first | lia | omega)
theorem fold_in {i : Int} (h : -MW - 1 ≤ i ∧ i ≤ MW) : 0 ≤ foldI i ∧ foldI i ≤ MN := by
  have e1 := hf_mw
  have e2 := hf_mn
  unfold foldI
  generalize MW = m at *
  generalize MN = n at *
  generalize HF = k at *
  by_cases h : i < 0
  · rw [if_pos h]; (first | lia | omega)
  · rw [if_neg h]; (first | lia | omega)
theorem shaped_w1 {y : Str} (hy : PyData.canLay0 (.str y) = true) : SeqAt.shaped (.list [.str y]) = true := by
  show (PyData.canLay0 _ && decide (PyData.depth _ ≤ 64)) = true
  rw [Bool.and_eq_true]
  constructor
  · show (PyData.canLay0 (.str y) && true) = true
    rw [hy]
    rfl
  · exact decide_eq_true (by simp [PyData.depth, PyData.depthAll])
theorem peb_op {X : Cx} {op : Operator} {r : R2} {a b : Expr} {ta tb : TE} {pos : Pos} (ho : OpR X (binaryOp op) r) (ha : PEb X a ta) (hb : PEb X b tb) : PEb X (.BinOp a op b pos) (tOp r ta tb) := ⟨pe_op ho ha.out hb.out, fun _ _ z => by cases z⟩
theorem pe_ixb {X : Cx} {L i : Expr} {tl ti : TE} {pos : Pos} (hL : PEb X L tl) (hi : PE X i ti) (hs : PlainIx i) : PE X (.Subscript L i pos) (tOp (rIxL X.K) tl ti) := pe_ix ix_list hL.out hi hs
end K4

set_option genSizeOf false
namespace K4
open PySem L2
seal L2.PE L2.PS L2.PSs L2.PA L2.PT L2.PW L2.PG L2.PGs L2.PI L2.PO
noncomputable def sp_unit : Sp := fun vs H Q _ => ∃ c : Nat, vs = [.int c] ∧ c < 2147483647 ∧ ∀ H', Same H H' → Q (.bl true) H'
section
variable {P : Program} {w : World} {K : PySem.W.Frag} {mg : Str → Option Value} {base : Heap} {a : Ad}
set_option maxHeartbeats 4000000 in
theorem ok_folds (T : Tx K mg a) : FnOk P w K mg base CX0 7 a.f_folds a.d_folds ["_law_cell"] sp_unit := by
  have G_great : FnOk P w K mg base CX0 2 a.f_great a.d_great ["_law_cell", "_law_k"] sp_great := ok_great T
  have G_folded : FnOk P w K mg base (XC P w true) 4 a.f_folded a.d_folded ["number"] (sp_folded K a.BadNumber) := ok_folded T
  have G_unfolded : FnOk P w K mg base (XC P w true) 4 a.f_unfolded a.d_unfolded ["number"] (sp_unfolded K a.BadNumber) := ok_unfolded T
  have G_refused : FnOk P w K mg base CX0 6 a.f_refused a.d_refused ["_law_way", "_law_thing"] (sp_refused K) := ok_refused T
  refine T.d_folds.F.ok sc_folds (fun vs H Q E h => ?_) (fun cdv A outer s H vs Q E hr h => ?_)
  · obtain ⟨c, rfl, _⟩ := h
    rfl
  · obtain ⟨c, rfl, hc, q⟩ := h
    have hu := hr.units
    refine ⟨_, pss_cut (ps_set (i := 1) sc_folds.nd rfl (Or.inl rfl) (PEb.out (peb_op op_mulG (peb_op op_mulG (peb_op op_powB peb_int peb_int) (peb_op op_powB peb_int peb_int)) (peb_op op_powB (peb_op op_powB peb_int peb_int) peb_int))))
      (pss_cons (ps_set (i := 2) sc_folds.nd rfl (Or.inl rfl) (pe_ix ix_list (pe_lst (pa_cons (pe_op op_sub (pe_op op_mod (pe_op op_fdiv (pv 0) pe_int) pe_int) pe_int) (pa_cons (pe_op op_sub (pe_op op_sub (pv 1) pe_int) (pe_op op_mod (pe_op op_fdiv (pv 0) pe_int) pe_int)) (pa_cons (pe_op op_sub (pe_op op_mod (pe_op op_fdiv (pv 0) pe_int) pe_int) (pv 1)) (pa_cons pe_int pa_nil))))) (pe_op op_mod (pv 0) pe_int) (fun _ _ => rfl)))
      (pss_cut (ps_if (pt_cmpR op_eq (pe_op op_mod (pe_op op_fdiv (pv 0) pe_int) pe_int) pe_int (nomark _))
        (pss_one (ps_set (i := 2) sc_folds.nd rfl (Or.inl rfl) (pe_op op_mul (pe_call G_great (hr.mono (by decide)) rfl T.d_great.m T.d_great.F.kp T.d_great.b .nil pass0 (pa_cons (pv 0) (pa_cons pe_int pa_nil))) (pe_ixb (peb_lst (pab_c peb_int (pab_c (peb_neg peb_int) pab_nil))) (pe_op op_mod (pe_op op_fdiv (pv 0) pe_int) pe_int) (fun _ _ => rfl)))))
        pss_nil)
      (pss_cons (ps_set (i := 3) sc_folds.nd rfl (Or.inl rfl) (pe_cut (pe_ifExp (pt_cmpR op_ge (pv 2) pe_int (nomark _)) (pe_op op_mul pe_int (pv 2)) (pe_op op_sub (pe_op op_sub pe_int (pe_op op_mul pe_int (pv 2))) pe_int))))
      (pss_cons (ps_set (i := 4) sc_folds.nd rfl (Or.inl rfl) (pe_call G_folded (hr.mono (by decide)) rfl T.d_folded.m T.d_folded.F.kp T.d_folded.b .nil passX (pa_cons (pv 2) pa_nil)))
      (pss_cons (ps_if (PW.pt (pw_or (pt_val (pe_callB (call_isinstK K rfl) rfl T.isinstance bt_isinstance (pa_cons (pv 4) (pa_cons (pty T.bool bt_bool) pa_nil)))) (pw_or (pt_not (pt_val (pe_callB (call_isinstK K rfl) rfl T.isinstance bt_isinstance (pa_cons (pv 4) (pa_cons (pty T.int bt_int) pa_nil))))) (pw_or1 (pt_cmpR op_ne (pv 4) (pv 3) (nomark _))))))
        (pss_one (ps_ret pe_bl))
        pss_nil)
      (pss_cons (ps_set (i := 5) sc_folds.nd rfl (Or.inl rfl) (pe_call G_unfolded (hr.mono (by decide)) rfl T.d_unfolded.m T.d_unfolded.F.kp T.d_unfolded.b .nil passX (pa_cons (pv 3) pa_nil)))
      (pss_cons (ps_if (PW.pt (pw_or (pt_val (pe_callB (call_isinstK K rfl) rfl T.isinstance bt_isinstance (pa_cons (pv 5) (pa_cons (pty T.bool bt_bool) pa_nil)))) (pw_or (pt_not (pt_val (pe_callB (call_isinstK K rfl) rfl T.isinstance bt_isinstance (pa_cons (pv 5) (pa_cons (pty T.int bt_int) pa_nil))))) (pw_or1 (pt_cmpR op_ne (pv 5) (pv 2) (nomark _))))))
        (pss_one (ps_ret pe_bl))
        pss_nil)
      (pss_cons (ps_set (i := 6) sc_folds.nd rfl (Or.inl rfl) (pe_ixb (peb_lst (pab_c peb_non (pab_c peb_bl (pab_c peb_str (pab_c (peb_tup pab_nil) (pab_c (peb_lst (pab_c peb_int pab_nil)) (pab_c peb_bl pab_nil))))))) (pe_op op_mod (pe_op op_fdiv (pv 0) pe_int) pe_int) (fun _ _ => rfl)))
      (pss_cons (ps_set (i := 7) sc_folds.nd rfl (Or.inl rfl) (pe_ix ix_list (pe_lst (pa_cons (pe_op op_add (pv 1) (pe_op op_mod (pe_op op_fdiv (pv 0) pe_int) pe_int)) (pa_cons (pe_op op_sub (pe_op op_sub (pe_op op_sub pe_int (pv 1)) pe_int) (pe_op op_mod (pe_op op_fdiv (pv 0) pe_int) pe_int)) pa_nil))) (pe_op op_mod (pe_op op_fdiv (pv 0) pe_int) pe_int) (fun _ _ => rfl)))
      (pss_cons (ps_set (i := 8) sc_folds.nd rfl (Or.inl rfl) (pe_ix ix_list (pe_lst (pa_cons (pe_op op_add (pe_op op_mul pe_int (pv 1)) (pe_op op_mod (pe_op op_fdiv (pv 0) pe_int) pe_int)) (pa_cons (pe_op op_sub (pe_un un_neg pe_int) (pe_op op_mod (pe_op op_fdiv (pv 0) pe_int) pe_int)) pa_nil))) (pe_op op_mod (pe_op op_fdiv (pv 0) pe_int) pe_int) (fun _ _ => rfl)))
      (pss_cons (ps_for PassesOwn.never rfl (pi_list (pe_lst (pa_cons (pe_tup (pa_cons pe_int (pa_cons (pv 6) pa_nil))) (pa_cons (pe_tup (pa_cons pe_int (pa_cons (pv 6) pa_nil))) (pa_cons (pe_tup (pa_cons pe_int (pa_cons (pv 7) pa_nil))) (pa_cons (pe_tup (pa_cons pe_int (pa_cons (pv 8) pa_nil))) pa_nil)))))) (pg_tup rfl (n := 2) (pgs_cons (pg_name (i := 9) sc_folds.nd rfl (Or.inl rfl)) (pgs_cons (pg_name (i := 10) sc_folds.nd rfl (Or.inl rfl)) pgs_nil)))
        (pss_one (ps_if (pt_cmpR (op_neD hu) (pe_call G_refused hr rfl T.d_refused.m T.d_refused.F.kp T.d_refused.b .nil pass0 (pa_cons (pv 9) (pa_cons (pv 10) pa_nil))) (pe_lst (pa_cons pe_str pa_nil)) (nomark _))
            (pss_one (ps_ret pe_bl))
            pss_nil)))
      (pss_one (ps_ret pe_bl))))))))))))), ?_⟩
    have e1 := hf_mw
    have e2 := hf_mn
    have e3 := hf_big
    have e4 := mw_pos
    have cbit : Builtin.Int.intBits (c : Int) ≤ 1048576 := bits_small (by (first | lia | omega)) (by (first | lia | omega))
    refine ⟨fun σ H' => σ = [some (.int c), some (.int HF), none, none, none, none, none, none, none, none, none] ∧ H' = H, ⟨_, _, rfl, rfl, hf_pb.1, _, _, rfl, rfl, hf_pb.2.1, _, _, rfl, rfl, hf_ok2, _, _, rfl, rfl, hf_pb.2.1, _, _, rfl, rfl, hf_pb.2.2, _, _, rfl, rfl, hf_ok, congrArg (fun z => [some (V.int c), some (.int z), none, none, none, none, none, none, none, none, none]) hf_eq, rfl⟩, ?_⟩
    rintro σ H' ⟨rfl, rfl⟩
    refine hideSC fun U hU => ?_
    generalize HF = hf at *
    refine ⟨_, rfl, _, _, rfl, rfl, ⟨by decide, by decide⟩, _, _, rfl, rfl, (by show (0 : Int) < 41; decide), _, _, rfl, rfl, _, rfl, _, _, rfl, rfl, _, rfl, _, _, rfl, rfl, ⟨by decide, by decide⟩, _, _, rfl, rfl, (by show (0 : Int) < 9; decide), _, _, rfl, rfl, _, rfl, _, _, rfl, rfl, ⟨by decide, by decide⟩, _, _, rfl, rfl, (by show (0 : Int) < 9; decide), _, rfl, _, _, rfl, rfl, by show 4 ≤ sizeLine; decide, fun l1 hl1 => ?_⟩
    refine ⟨_, rfl, _, _, rfl, rfl, (by show (0 : Int) < 4; decide), ixi [(c : Int) / 4 % 41 - 20, hf - 1 - (c : Int) / 4 % 9, (c : Int) / 4 % 9 - hf, 0] (Pb := fun b => -MW - 1 ≤ b ∧ b ≤ MW) upd_same (by (first | lia | omega)) (by show (c : Int) % 4 < 4; (first | lia | omega)) ?_ fun n hn => ?_⟩
    · intro b hb
      simp only [List.mem_cons, List.not_mem_nil, or_false] at hb
      rcases hb with rfl | rfl | rfl | rfl <;> (first | lia | omega)
    have s1 : Same H' (upd H' l1 (.lst (List.map V.int [(c : Int) / 4 % 41 - 20, hf - 1 - (c : Int) / 4 % 9, (c : Int) / 4 % 9 - hf, 0]))) := sameU hl1
    refine ⟨fun σ H2 => Same H' H2 ∧ ∃ n, (-MW - 1 ≤ n ∧ n ≤ MW) ∧ σ = [some (.int c), some (.int hf), some (.int n), none, none, none, none, none, none, none, none], ?_, ?_⟩
    · refine ⟨_, rfl, _, _, rfl, rfl, ⟨by decide, by decide⟩, _, _, rfl, rfl, (by show (0 : Int) < 2; decide), rfl, _, rfl, ite2 (fun _ => ?_) (fun _ => ⟨s1, n, hn, rfl⟩)⟩
      refine ⟨_, rfl, c, 1, rfl, cbit, by decide, by decide, fun g g0 g1 => ?_⟩
      refine ⟨_, rfl, by show 2 ≤ sizeLine; decide, fun l2 hl2 => ?_⟩
      refine ⟨_, rfl, _, _, rfl, rfl, ⟨by decide, by decide⟩, _, _, rfl, rfl, (by show (0 : Int) < 2; decide), ixi [1, -1] (Pb := fun b => b = 1 ∨ b = -1) upd_same (by (first | lia | omega)) (by show (c : Int) / 72 % 2 < 2; (first | lia | omega)) (by simp) fun b hb => ?_⟩
      refine ⟨_, _, rfl, rfl, .inr (by rcases hb with rfl | rfl <;> decide), s1.trans (sameU hl2), g * b, ?_, rfl⟩
      rcases hb with rfl | rfl <;> (first | lia | omega)
    rintro σ H2 ⟨s2, n, hn, rfl⟩
    refine hU _ _ _ ?_
    clear hU
    refine hide1 fun U hU => ?_
    refine ⟨fun v H3 => v = .int (foldI n) ∧ H3 = H2, ?_, ?_⟩
    · refine ⟨_, rfl, _, _, rfl, rfl, _, rfl, ite2 (fun h => ?_) (fun h => ?_)⟩
      · have h' : 0 ≤ n := of_decide_eq_true h
        refine ⟨_, rfl, _, _, rfl, rfl, .inl ⟨by decide, by decide⟩, ?_, rfl⟩
        unfold foldI
        rw [if_neg (by (first | lia | omega))]
      · have h' : ¬ 0 ≤ n := of_decide_eq_false (nf h)
        refine ⟨_, rfl, _, _, rfl, rfl, .inl ⟨by decide, by decide⟩, _, _, rfl, rfl, _, _, rfl, rfl, ?_, rfl⟩
        unfold foldI
        rw [if_pos (by (first | lia | omega))]
        congr 1
        (first | lia | omega)
    rintro v H3 ⟨rfl, rfl⟩
    refine hU _ _ _ ?_
    clear hU
    refine hide2 fun U hU => ?_
    refine ⟨_, rfl, _, rfl, .int n, ?_⟩
    rw [am_in hn]
    refine iteT fun i ei => ?_
    cases ei
    have hf2 := fold_in hn
    refine ⟨_, rfl, .int _, .ty "bool", .type "int", .type "bool", false, rfl, .int _, rfl, T.q_int_bool, false, rfl, iteF ?_⟩
    refine ⟨_, rfl, .int _, .ty "int", .type "int", .type "int", true, rfl, .int _, rfl, kit_self, true, rfl, iteF ?_⟩
    refine ⟨_, rfl, _, rfl, rfl, _, rfl, iteNS rfl ?_⟩
    refine hU _ _ _ ?_
    clear hU
    refine hide2 fun U hU => ?_
    refine ⟨_, rfl, _, rfl, .int _, ?_⟩
    rw [am_in hf2]
    refine iteT fun i ei => ?_
    cases ei
    rw [unfold_fold]
    refine ⟨_, rfl, .int _, .ty "bool", .type "int", .type "bool", false, rfl, .int _, rfl, T.q_int_bool, false, rfl, iteF ?_⟩
    refine ⟨_, rfl, .int _, .ty "int", .type "int", .type "int", true, rfl, .int _, rfl, kit_self, true, rfl, iteF ?_⟩
    refine ⟨_, rfl, _, rfl, rfl, _, rfl, iteNS rfl ?_⟩
    -- odd
    refine hU _ _ _ ?_
    clear hU
    refine hide1 fun U hU => ?_
    refine ⟨by show 0 ≤ sizeLine; decide, fun t1 ht1 => ⟨by show 1 ≤ sizeLine; decide, fun l3 hl3 => ⟨by show 6 ≤ sizeLine; decide, fun l4 hl4 => ?_⟩⟩⟩
    have s3 : Same H3 (upd (upd H3 t1 (.tup [])) l3 (.lst [.int 1])) := (sameU ht1).trans (sameU hl3)
    have gt : (upd (upd H3 t1 (.tup [])) l3 (.lst [.int 1])) t1 = some (.tup []) := keepH upd_same hl3
    have gl : (upd (upd H3 t1 (.tup [])) l3 (.lst [.int 1])) l3 = some (.lst [.int 1]) := upd_same
    generalize upd (upd H3 t1 (.tup [])) l3 (.lst [.int 1]) = H4 at *
    refine ⟨_, rfl, _, _, rfl, rfl, ⟨by decide, by decide⟩, _, _, rfl, rfl, (by show (0 : Int) < 6; decide), ixv [.non, .bl true, .str "1", .ref t1, .ref l3, .bl false] (Pv := fun v => Th K H4 v ∧ ∀ l m, amV v l m = false) upd_same (by (first | lia | omega)) (by show (c : Int) / 144 % 6 < 6; (first | lia | omega)) ?_ fun v6 h6 => ?_⟩
    · intro b hb
      simp only [List.mem_cons, List.not_mem_nil, or_false] at hb
      rcases hb with rfl | rfl | rfl | rfl | rfl | rfl
      · exact ⟨.non, fun _ _ => rfl⟩
      · exact ⟨.bl _, fun _ _ => rfl⟩
      · exact ⟨.str _, fun _ _ => rfl⟩
      · exact ⟨.obj (.tup gt) (.inr (.inl rfl)), fun _ _ => rfl⟩
      · exact ⟨.obj (.lst gl) (.inl rfl), fun _ _ => rfl⟩
      · exact ⟨.bl _, fun _ _ => rfl⟩
    have s4 : Same H4 (upd H4 l4 (.lst [.non, .bl true, .str "1", .ref t1, .ref l3, .bl false])) := sameU hl4
    have h6' : Th K (upd H4 l4 (.lst [.non, .bl true, .str "1", .ref t1, .ref l3, .bl false])) v6 := h6.1.same s4
    have s5 := s3.trans s4
    generalize upd H4 l4 (.lst [.non, .bl true, .str "1", .ref t1, .ref l3, .bl false]) = H5 at *
    -- far
    refine hU _ _ _ ?_
    clear hU
    refine hide1 fun U hU => ?_
    refine ⟨_, rfl, _, rfl, _, _, rfl, rfl, ⟨by decide, by decide⟩, _, _, rfl, rfl, (by show (0 : Int) < 5; decide), _, _, rfl, rfl, _, rfl, _, _, rfl, rfl, _, _, rfl, rfl, _, rfl, _, _, rfl, rfl, ⟨by decide, by decide⟩, _, _, rfl, rfl, (by show (0 : Int) < 5; decide), _, _, rfl, rfl, by show 2 ≤ sizeLine; decide, fun l5 hl5 => ?_⟩
    refine ⟨_, rfl, _, _, rfl, rfl, ⟨by decide, by decide⟩, _, _, rfl, rfl, (by show (0 : Int) < 2; decide), ixi [hf + (c : Int) / 864 % 5, 0 - hf - 1 - (c : Int) / 864 % 5] (Pb := fun b => amV (.int b) (-MW - 1) MW = false) upd_same (by (first | lia | omega)) (by show (c : Int) / 4320 % 2 < 2; (first | lia | omega)) ?_ fun v7 h7 => ?_⟩
    · intro b hb
      simp only [List.mem_cons, List.not_mem_nil, or_false] at hb
      rcases hb with rfl | rfl
      · exact am_out (.inr (by (first | lia | omega)))
      · exact am_out (.inl (by (first | lia | omega)))
    have s6 : Same H5 (upd H5 l5 (.lst [.int (hf + (c : Int) / 864 % 5), .int (0 - hf - 1 - (c : Int) / 864 % 5)])) := sameU hl5
    generalize upd H5 l5 (.lst [.int (hf + (c : Int) / 864 % 5), .int (0 - hf - 1 - (c : Int) / 864 % 5)]) = H6 at *
    -- beyond
    refine hU _ _ _ ?_
    clear hU
    refine hide1 fun U hU => ?_
    refine ⟨_, rfl, _, _, rfl, rfl, .inl ⟨by decide, by decide⟩, _, rfl, _, _, rfl, rfl, ⟨by decide, by decide⟩, _, _, rfl, rfl, (by show (0 : Int) < 5; decide), _, _, rfl, rfl, _, rfl, _, rfl, _, _, rfl, rfl, ⟨by decide, by decide⟩, _, _, rfl, rfl, (by show (0 : Int) < 5; decide), _, _, rfl, rfl, by show 2 ≤ sizeLine; decide, fun l6 hl6 => ?_⟩
    refine ⟨_, rfl, _, _, rfl, rfl, ⟨by decide, by decide⟩, _, _, rfl, rfl, (by show (0 : Int) < 2; decide), ixi [2 * hf + (c : Int) / 864 % 5, -1 - (c : Int) / 864 % 5] (Pb := fun b => amV (.int b) 0 MN = false) upd_same (by (first | lia | omega)) (by show (c : Int) / 4320 % 2 < 2; (first | lia | omega)) ?_ fun v8 h8 => ?_⟩
    · intro b hb
      simp only [List.mem_cons, List.not_mem_nil, or_false] at hb
      rcases hb with rfl | rfl
      · exact am_out (.inr (by (first | lia | omega)))
      · exact am_out (.inl (by (first | lia | omega)))
    have s7 : Same H6 (upd H6 l6 (.lst [.int (2 * hf + (c : Int) / 864 % 5), .int (-1 - (c : Int) / 864 % 5)])) := sameU hl6
    generalize upd H6 l6 (.lst [.int (2 * hf + (c : Int) / 864 % 5), .int (-1 - (c : Int) / 864 % 5)]) = H7 at *
    -- the walk
    refine hU _ _ _ ?_
    clear hU
    refine ⟨_, rfl, by show 2 ≤ sizeLine; decide, fun u1 g1 => ⟨_, rfl, by show 2 ≤ sizeLine; decide, fun u2 g2 => ⟨_, rfl, by show 2 ≤ sizeLine; decide, fun u3 g3 => ⟨_, rfl, by show 2 ≤ sizeLine; decide, fun u4 g4 => ⟨by show 4 ≤ sizeLine; decide, fun l7 g7 => ?_⟩⟩⟩⟩⟩
    have sw : Same H7 (upd (upd (upd (upd H7 u1 (.tup [.int 0, v6])) u2 (.tup [.int 1, v6])) u3 (.tup [.int 0, .int v7])) u4 (.tup [.int 1, .int v8])) := (((sameU g1).trans (sameU g2)).trans (sameU g3)).trans (sameU g4)
    have k1 : (upd (upd (upd (upd H7 u1 (.tup [.int 0, v6])) u2 (.tup [.int 1, v6])) u3 (.tup [.int 0, .int v7])) u4 (.tup [.int 1, .int v8])) u1 = some (.tup [.int 0, v6]) := keepH (keepH (keepH upd_same g2) g3) g4
    have k2 : (upd (upd (upd (upd H7 u1 (.tup [.int 0, v6])) u2 (.tup [.int 1, v6])) u3 (.tup [.int 0, .int v7])) u4 (.tup [.int 1, .int v8])) u2 = some (.tup [.int 1, v6]) := keepH (keepH upd_same g3) g4
    have k3 : (upd (upd (upd (upd H7 u1 (.tup [.int 0, v6])) u2 (.tup [.int 1, v6])) u3 (.tup [.int 0, .int v7])) u4 (.tup [.int 1, .int v8])) u3 = some (.tup [.int 0, .int v7]) := keepH upd_same g4
    have k4 : (upd (upd (upd (upd H7 u1 (.tup [.int 0, v6])) u2 (.tup [.int 1, v6])) u3 (.tup [.int 0, .int v7])) u4 (.tup [.int 1, .int v8])) u4 = some (.tup [.int 1, .int v8]) := upd_same
    generalize upd (upd (upd (upd H7 u1 (.tup [.int 0, v6])) u2 (.tup [.int 1, v6])) u3 (.tup [.int 0, .int v7])) u4 (.tup [.int 1, .int v8]) = H8 at *
    have s8 : Same H8 (upd H8 l7 (.lst [.ref u1, .ref u2, .ref u3, .ref u4])) := sameU g7
    have g8 : (upd H8 l7 (.lst [.ref u1, .ref u2, .ref u3, .ref u4])) l7 = some (.lst [.ref u1, .ref u2, .ref u3, .ref u4]) := upd_same
    have sA : Same H' H8 := ((((s2.trans s5).trans s6).trans s7).trans sw)
    have sB : Same H5 H8 := (s6.trans s7).trans sw
    have item : ∀ (i : Nat) x, [V.ref u1, .ref u2, .ref u3, .ref u4][i]? = some x → ∃ u way v, x = .ref u ∧ H8 u = some (.tup [.int way, v]) ∧ ((way = 0 ∧ Th K H8 v ∧ amV v (-MW - 1) MW = false) ∨ (way = 1 ∧ Th K H8 v ∧ amV v 0 MN = false)) := fun i x hx => by
      rcases i with _ | _ | _ | _ | i <;> simp at hx
      · exact ⟨u1, 0, v6, hx.symm, k1, .inl ⟨rfl, h6'.same sB, h6.2 _ _⟩⟩
      · exact ⟨u2, 1, v6, hx.symm, k2, .inr ⟨rfl, h6'.same sB, h6.2 _ _⟩⟩
      · exact ⟨u3, 0, .int v7, hx.symm, k3, .inl ⟨rfl, .int _, h7⟩⟩
      · exact ⟨u4, 1, .int v8, hx.symm, k4, .inr ⟨rfl, .int _, h8⟩⟩
    generalize upd H8 l7 (.lst [.ref u1, .ref u2, .ref u3, .ref u4]) = H9 at *
    refine ⟨l7, rfl, ⟨_, SqL.of g8⟩, ?_⟩
    refine for_list (xs := [.ref u1, .ref u2, .ref u3, .ref u4]) (fun i σ Hx => Same H9 Hx ∧ ∃ v9 v10, σ = [some (.int c), some (.int hf), some (.int n), some (.int (foldI n)), some (.int (foldI n)), some (.int n), some v6, some (.int v7), some (.int v8), v9, v10]) ⟨Same.refl _, none, none, rfl⟩ (fun i σ Hx _ h => SqL.of (h.1 _ _ g8)) ?_ ?_
    · rintro i x σ Hx hx ⟨sx, v9, v10, rfl⟩
      obtain ⟨u, way, v, rfl, hu, hv⟩ := item i x hx
      have sy := s8.trans sx
      refine ⟨u, _, rfl, SqT.of (sy _ _ hu), rfl, _, _, rfl, _, _, rfl, rfl, ?_⟩
      have key : ∀ Qc : VK, told1 Hx Qc "number" → sp_refused K [.int way, v] Hx Qc E0 := fun Qc k => by
        rcases hv with ⟨rfl, th, am⟩ | ⟨rfl, th, am⟩
        · exact ⟨0, v, rfl, .inl ⟨rfl, th.same sy, am, k⟩⟩
        · exact ⟨1, v, rfl, .inr (.inl ⟨rfl, th.same sy, am, k⟩)⟩
      refine ⟨_, rfl, _, rfl, key _ fun r H2 hr2 sr hr2' => ?_⟩
      refine ⟨by show 1 ≤ sizeLine; decide, fun l9 hl9 => ?_⟩
      refine ⟨.list [.str "number"], .list [.str "number"], .lst (SqL.of (keepH hr2' hl9)) (.cons (.str _) .nil), .lst (SqL.of upd_same) (.cons (.str _) .nil), shaped_w1 (by decide +kernel), shaped_w1 (by decide +kernel), _, rfl, ?_⟩
      rw [show PyData.eqv (.list [.str "number"]) (.list [.str "number"]) = true from by simp [PyData.eqv, PyData.eqvAll]]
      exact iteF ⟨(sx.trans sr).trans (sameU hl9), _, _, rfl⟩
    · rintro σ Hx ⟨sx, v9, v10, rfl⟩
      exact q _ ((sA.trans s8).trans sx)
end
end K4

set_option genSizeOf false
namespace K4
open PySem L2
seal L2.PE L2.PS L2.PSs L2.PA L2.PT L2.PW L2.PG L2.PGs L2.PI L2.PO
noncomputable def digs (N m : Nat) : List Nat := (List.range m).map (dig N)
theorem rowV_digs (N m : Nat) : rowV N m = natV (digs N m) := by unfold rowV natV digs; rw [List.map_map]; rfl
theorem digs_len (N m : Nat) : (digs N m).length = m := by unfold digs; rw [List.length_map, List.length_range]
noncomputable def pads (wd : Nat) (ns : List Nat) : Nat := 8 * ((wd * ns.length + 7) / 8) - wd * ns.length
noncomputable def padB (wd : Nat) (ns : List Nat) : List Nat := bitsOf wd ns ++ List.replicate (pads wd ns) 0
theorem padB_len (wd : Nat) (ns : List Nat) : (padB wd ns).length = 8 * ((wd * ns.length + 7) / 8) := by
  unfold padB pads
  rw [List.length_append, bits_len, List.length_replicate]
  (first | lia | omega)
theorem padB_at {wd : Nat} {ns : List Nat} (h : ∀ n ∈ ns, n < 2 ^ wd) (i : Nat) : (padB wd ns).getD i 0 = val wd ns / 2 ^ i % 2 := by
  rw [← bits_at wd ns i h]
  unfold padB
  by_cases hi : i < (bitsOf wd ns).length
  · rw [List.getD_eq_getElem?_getD, List.getD_eq_getElem?_getD, List.getElem?_append_left hi]
  · rw [List.getD_eq_getElem?_getD, List.getD_eq_getElem?_getD, List.getElem?_append_right (by (first | lia | omega)), List.getElem?_eq_none (show (bitsOf wd ns).length ≤ i by (first | lia | omega)), List.getElem?_replicate]
    split <;> rfl
theorem pad_fmod (n : Nat) : ((0 : Int) - (n : Int).fmod (-8)).toNat = 8 * ((n + 7) / 8) - n ∧ -(2 ^ 63) ≤ (0 : Int) - (n : Int).fmod (-8) ∧ (0 : Int) - (n : Int).fmod (-8) < 2 ^ 63 := by
  have e : (n : Int).fmod (-8) = -((-(n : Int)) % 8) := by
    have h := Int.neg_fmod_neg (-(n : Int)) 8
    rw [Int.neg_neg] at h
    rw [h, Int.fmod_eq_emod_of_nonneg _ (by decide)]
  rw [e]
  (first | lia | omega)
theorem preSum8 (f : Nat → Int) : preSum f 8 = f 0 + f 1 + f 2 + f 3 + f 4 + f 5 + f 6 + f 7 := by
  simp [preSum]
theorem sum_dig (N j : Nat) (f : Nat → Int) (hf : ∀ k, k < 8 → f k = ((N / 2 ^ (8 * j + k) % 2 : Nat) : Int) * 2 ^ k) : preSum f 8 = ((dig N j : Nat) : Int) := by
  have e : ∀ k, N / 2 ^ (8 * j + k) = N / 2 ^ (8 * j) / 2 ^ k := fun k => by rw [Nat.pow_add, Nat.div_div_eq_div_mul]
  have c : ∀ k, k < 8 → f k = ((N / 2 ^ (8 * j) / 2 ^ k % 2 : Nat) : Int) * 2 ^ k := fun k hk => by rw [hf k hk, e k]
  unfold dig
  rw [pow256]
  generalize N / 2 ^ (8 * j) = M at c
  have b := byte8 M
  have c0 : f 0 = ((M % 2 : Nat) : Int) := by rw [c 0 (by decide)]; simp
  have c1 : f 1 = ((M / 2 % 2 : Nat) : Int) * 2 := c 1 (by decide)
  have c2 : f 2 = ((M / 4 % 2 : Nat) : Int) * 4 := c 2 (by decide)
  have c3 : f 3 = ((M / 8 % 2 : Nat) : Int) * 8 := c 3 (by decide)
  have c4 : f 4 = ((M / 16 % 2 : Nat) : Int) * 16 := c 4 (by decide)
  have c5 : f 5 = ((M / 32 % 2 : Nat) : Int) * 32 := c 5 (by decide)
  have c6 : f 6 = ((M / 64 % 2 : Nat) : Int) * 64 := c 6 (by decide)
  have c7 : f 7 = ((M / 128 % 2 : Nat) : Int) * 128 := c 7 (by decide)
  rw [preSum8, c0, c1, c2, c3, c4, c5, c6, c7, b]
  generalize M % 2 = x0
  generalize M / 2 % 2 = x1
  generalize M / 4 % 2 = x2
  generalize M / 8 % 2 = x3
  generalize M / 16 % 2 = x4
  generalize M / 32 % 2 = x5
  generalize M / 64 % 2 = x6
  generalize M / 128 % 2 = x7
  (first | lia | omega)
theorem preSum_long {f : Nat → Int} (hf : ∀ k, 0 ≤ f k ∧ f k ≤ 128) : ∀ j, j ≤ 8 → 0 ≤ preSum f j ∧ preSum f j ≤ 128 * j
  | 0, _ => by simp [preSum]
  | j + 1, h => by
    have ih := preSum_long hf j (by (first | lia | omega))
    have := hf j
    simp only [preSum]
    (first | lia | omega)
theorem lastD_digs {N m : Nat} (h : 0 < m) : (digs N m).getLastD 0 = dig N (m - 1) := by
  unfold digs
  obtain ⟨k, rfl⟩ : ∃ k, m = k + 1 := ⟨m - 1, by (first | lia | omega)⟩
  rw [List.range_succ, List.map_append, List.map_singleton, List.getLastD_concat]
  rfl
theorem last_small {N wd L : Nat} (h : N < 2 ^ (wd * L)) (hr : L * wd % 8 ≠ 0) : dig N ((wd * L + 7) / 8 - 1) / 2 ^ (L * wd % 8) = 0 := by
  rw [Nat.mul_comm L wd] at hr ⊢
  generalize wd * L = t at *
  have e : (t + 7) / 8 - 1 = t / 8 := by (first | lia | omega)
  rw [e]
  unfold dig
  apply Nat.div_eq_of_lt
  refine Nat.lt_of_le_of_lt (Nat.mod_le _ _) ?_
  rw [pow256, Nat.div_lt_iff_lt_mul (Nat.pow_pos (by decide)), ← Nat.pow_add]
  rw [show t % 8 + 8 * (t / 8) = t by (first | lia | omega)]
  exact h
theorem fill_due {N wd L : Nat} (h : N < 2 ^ (wd * L)) : fillB (digs N ((wd * L + 7) / 8)) L wd = true := by
  unfold fillB
  by_cases hr : L * wd % 8 = 0
  · rw [decide_eq_true hr, Bool.true_or]
  · have hm : 0 < (wd * L + 7) / 8 := by rw [Nat.mul_comm] at hr; (first | lia | omega)
    rw [decide_eq_false hr, Bool.false_or, lastD_digs hm, last_small h hr]
    rfl
theorem fill_spoilt {N wd L e : Nat} (hr : L * wd % 8 ≠ 0) (he : L * wd % 8 ≤ e) : fillB ((digs N ((wd * L + 7) / 8)).set ((wd * L + 7) / 8 - 1) (dig N ((wd * L + 7) / 8 - 1) + 2 ^ e)) L wd = false := by
  unfold fillB
  have hm : 0 < (wd * L + 7) / 8 := by rw [Nat.mul_comm] at hr; (first | lia | omega)
  have el : ((digs N ((wd * L + 7) / 8)).set ((wd * L + 7) / 8 - 1) (dig N ((wd * L + 7) / 8 - 1) + 2 ^ e)).getLastD 0 = dig N ((wd * L + 7) / 8 - 1) + 2 ^ e := by
    generalize (wd * L + 7) / 8 = m at *
    rw [List.getLastD_eq_getLast?, List.getLast?_eq_getElem?, List.length_set, digs_len, List.getElem?_set, if_pos rfl, digs_len, if_pos (by (first | lia | omega))]
    rfl
  rw [decide_eq_false hr, Bool.false_or, el, decide_eq_false]
  have : 2 ^ (L * wd % 8) ≤ 2 ^ e := Nat.pow_le_pow_right (by decide) he
  have h1 : 1 ≤ (dig N ((wd * L + 7) / 8 - 1) + 2 ^ e) / 2 ^ (L * wd % 8) := (Nat.le_div_iff_mul_le (Nat.pow_pos (by decide))).mpr (by (first | lia | omega))
  (first | lia | omega)
theorem natV_set (bs : List Nat) (j b : Nat) : (natV bs).set j (.int (b : Int)) = natV (bs.set j b) := by
  unfold natV
  rw [List.map_set]
theorem natV_cat (a b : List Nat) : natV a ++ natV b = natV (a ++ b) := by unfold natV; rw [List.map_append]
theorem natV_rep (k : Nat) : (List.replicate k [V.int 0]).flatten = natV (List.replicate k 0) := by
  induction k with
  | zero => rfl
  | succ k ih =>
    rw [List.replicate_succ, List.flatten_cons, ih, List.replicate_succ]
    rfl
theorem natV_at {ns : List Nat} (k : Nat) {j : Int} (hj : j = (k : Nat)) (h : k < ns.length) : atI (natV ns) j = some (.int ((ns.getD k 0 : Nat) : Int)) := by
  rw [hj]
  apply atI_nat
  unfold natV
  rw [List.getElem?_map, List.getD_eq_getElem?_getD, List.getElem?_eq_getElem h]
  rfl
theorem comp_rangeA {lo : Int} {n : Nat} {σ0 : L2.St} {g : TG} {te : TE} {Q : VK} {H1 : Hp} (f : Nat → V) (hn : n ≤ 1000)
    (hs : ∀ i, i < n → ∀ (H : Hp) (R : VK), Same H1 H → (∀ H', Same H H' → R (f i) H') → g (.int (lo + i)) σ0 H fun σ2 H2 => Sub σ0 σ2 ∧ te σ2 H2 R)
    (hd : ∀ D H', H1 D = none → Same H1 H' → H' D = some (.lst ((List.range n).map f)) → Q (.ref D) H') : CompW (Itr lo n) H1 σ0 g tTrue te Q := by
  intro D hD
  refine ⟨fun i m ys H => m = n - i ∧ i ≤ n ∧ ys = (List.range i).map f ∧ Same H1 H ∧ H D = some (.lst ys), ⟨n, by simp, Nat.zero_le _, rfl, sameU hD, upd_same⟩, ?_⟩
  rintro i m ys H ⟨rfl, hi, rfl, sm, hDy⟩
  refine ⟨hDy, ?_⟩
  by_cases hlt : i < n
  · refine .inr ⟨hlt, fun x H' y => ?_⟩
    obtain ⟨e, y⟩ := y
    subst e y
    refine hs i hlt _ _ sm fun H2 s2 => ?_
    refine ⟨s2 _ _ hDy, ?_, n - (i + 1), Nat.sub_succ_lt_self _ _ hlt, rfl, hlt, ?_, (sm.trans s2).put hD, upd_same⟩
    · rw [List.length_map, List.length_range]
      exact small1000 (by (first | lia | omega))
    · rw [List.range_succ, List.map_append]
      rfl
  · have e : i = n := by (first | lia | omega)
    subst e
    exact .inl ⟨Nat.le_refl _, hd D H hD sm hDy⟩
theorem ndJCW : ((["_law_j"] : List Str) ++ (["_law_cell", "_law_width"] : List Str)).Nodup := by decide +kernel
theorem ndJN : ((["_law_j"] : List Str) ++ (["_law_number"] : List Str)).Nodup := by decide +kernel
theorem ndJB : ((["_law_j"] : List Str) ++ (["_law_bits"] : List Str)).Nodup := by decide +kernel
theorem ndKBJ : ((["_law_k"] : List Str) ++ (["_law_bits", "_law_j"] : List Str)).Nodup := by decide +kernel
theorem ndO : ((["_law_one"] : List Str) ++ ([] : List Str)).Nodup := by decide +kernel
end K4

set_option genSizeOf false
namespace K4
open PySem L2
theorem fr_t {r : Nat} (h : r < 8) : (r + 7) / 8 = if r = 0 then 0 else 1 := by
  revert r; decide
theorem fr_facts {m8 wl : Nat} {fr : Int} (em : (wl + 7) / 8 = m8) (e : (8 : Int) * (m8 : Int) - (wl : Int) = fr) : (0 ≤ fr ∧ fr < 8) ∧ (fr = 0 ↔ wl % 8 = 0) ∧ (fr ≠ 0 → fr = 8 - ((wl % 8 : Nat) : Int)) ∧ (wl % 8 ≠ 0 → 0 < m8) := by
  have hr : wl % 8 < 8 := Nat.mod_lt _ (by decide)
  have d := Nat.div_add_mod wl 8
  generalize wl % 8 = r at hr d
  generalize wl / 8 = q at d
  subst d
  rw [Nat.add_assoc, Nat.mul_add_div (by decide), fr_t hr] at em
  subst em
  have ef : fr = 8 * ((if r = 0 then 0 else 1 : Nat) : Int) - r := by
    rw [← e, Int.natCast_add, Int.natCast_add, Int.natCast_mul, Int.mul_add]
    exact Int.add_sub_add_left _ _ _
  clear e
  by_cases h : r = 0
  · rw [if_pos h] at ef
    subst h
    subst ef
    exact ⟨⟨by decide, by decide⟩, ⟨fun _ => rfl, fun _ => rfl⟩, fun z => absurd rfl z, fun z => absurd rfl z⟩
  · rw [if_neg h] at ef ⊢
    have hr' : (r : Int) < 8 := Int.ofNat_lt.mpr hr
    have h0 : (0 : Int) < r := Int.natCast_pos.mpr (Nat.pos_of_ne_zero h)
    have ef' : fr = 8 - (r : Int) := ef
    have hp : 0 < fr := ef' ▸ Int.sub_pos_of_lt hr'
    exact ⟨⟨Int.le_of_lt hp, ef' ▸ Int.sub_lt_self 8 h0⟩, ⟨fun z => absurd z (Int.ne_of_gt hp), fun z => absurd z h⟩, fun _ => ef', fun _ => Nat.succ_pos q⟩
theorem ex_facts {m : Nat} {fr q : Int} (f8 : fr < 8) (fp : fr = 8 - (m : Int)) (h0 : 0 ≤ q) (h1 : q < fr) : ∃ ex : Nat, (7 : Int) - q = (ex : Int) ∧ m ≤ ex ∧ ex ≤ 7 := by
  obtain ⟨n, rfl⟩ := Int.eq_ofNat_of_zero_le h0
  have h2 : n ≤ 7 := Int.ofNat_le.mp (Int.le_of_lt_add_one (Int.lt_trans h1 f8))
  refine ⟨7 - n, (Int.ofNat_sub h2).symm, ?_, Nat.sub_le _ _⟩
  refine Nat.le_sub_of_add_le ?_
  subst fp
  have h3 := Int.add_lt_of_lt_sub_right h1
  refine Nat.le_of_lt_succ (Int.ofNat_lt.mp ?_)
  rw [Nat.add_comm]
  exact h3
seal L2.PE L2.PS L2.PSs L2.PA L2.PT L2.PW L2.PG L2.PGs L2.PI L2.PO
theorem natV_item {ns : List Nat} {i : Nat} {x : V} (h : (natV ns)[i]? = some x) : ∃ n, ns[i]? = some n ∧ x = .int (n : Int) := by
  unfold natV at h
  rw [List.getElem?_map] at h
  cases e : ns[i]? with
  | none => rw [e] at h; cases h
  | some n => rw [e] at h; exact ⟨n, rfl, (Option.some.inj h).symm⟩
theorem shaped_b2 (x y : Bool) : SeqAt.shaped (.list [.bool x, .bool y]) = true := by cases x <;> cases y <;> decide +kernel
theorem eqv_b2 (x y : Bool) : PyData.eqv (.list [.bool x, .bool y]) (.list [.bool x, .bool y]) = true := by simp [PyData.eqv, PyData.eqvAll]
theorem bitI {n j : Nat} {k : Int} (hk : k = (j : Int)) : Builtin.bitAnd ((n : Int) / 2 ^ k.toNat) 1 = ((n / 2 ^ j % 2 : Nat) : Int) := by
  rw [PyProof.Rows.bitAnd_m1, hk, Int.toNat_natCast]
  norm_cast
theorem eqv_nat (ns : List Nat) : PyData.eqv (.list ((ns.map fun (n : Nat) => (n : Int)).map PyData.int)) (.list ((ns.map fun (n : Nat) => (n : Int)).map PyData.int)) = true := by rw [eqv_ints, decide_eq_true rfl]
section
variable {P : Program} {w : World} {K : PySem.W.Frag} {mg : Str → Option Value} {base : Heap} {a : Ad}
set_option maxHeartbeats 4000000 in
theorem ok_packs (T : Tx K mg a) : FnOk P w K mg base CX0 7 a.f_packs a.d_packs ["_law_cell"] sp_unit := by
  have G_mixed : FnOk P w K mg base CX0 1 a.f_mixed a.d_mixed ["_law_cell", "_law_k"] sp_mixed := ok_mixed T
  have G_packed : FnOk P w K mg base CX0 1 a.f_packed a.d_packed ["numbers", "width"] (sp_packed K) := ok_packed T
  have G_unpacked : FnOk P w K mg base CX0 1 a.f_unpacked a.d_unpacked ["row", "many", "width"] (sp_unpacked K) := ok_unpacked T
  have G_fill_bits : FnOk P w K mg base CX0 1 a.f_fill_bits a.d_fill_bits ["row", "many", "width"] sp_fill_bits := ok_fill_bits T
  have G_bytes : FnOk P w K mg base CX0 1 a.f_bytes a.d_bytes ["_law_found", "_law_due"] sp_bytes := ok_bytes T
  refine T.d_packs.F.ok sc_packs (fun vs H Q E h => ?_) (fun cdv A outer s H vs Q E hr h => ?_)
  · obtain ⟨c, rfl, _⟩ := h
    rfl
  · obtain ⟨c, rfl, hc, q⟩ := h
    have hu := hr.units
    refine ⟨_, pss_cons (ps_set (i := 1) sc_packs.nd rfl (Or.inr rfl) (pe_op op_add pe_int (pe_op op_mod (pv 0) pe_int)))
      (pss_cons (ps_setComp (i := 2) (ts := ["_law_j"]) (xs := ["_law_cell", "_law_width"]) (js := [0, 1]) rfl ⟨rfl, rfl, by decide +kernel, by decide +kernel, freeIn rfl⟩ (.cons rfl (.inl rfl) rfl (.cons rfl (.inl rfl) rfl .nil)) (by decide +kernel) (pi_range1 rfl T.range (pa_cons (pe_op op_mod (pe_op op_fdiv (pv 0) pe_int) (pe_ixb (peb_lst (pab_c peb_int (pab_c peb_int pab_nil))) (pe_op op_mod (pe_op op_fdiv (pv 0) pe_int) pe_int) (fun _ _ => rfl))) pa_nil))
          (fun C s₀ H₀ fp => pg_name (X := cxC _ _ _ C s₀ H₀ fp) (i := 0) ndJCW rfl (Or.inl rfl) (Or.inr rfl))
          (fun C s₀ H₀ fp => pif_nil (X := cxC _ _ _ C s₀ H₀ fp))
          (fun C s₀ H₀ fp => pe_op (X := cxC _ _ _ C s₀ H₀ fp) op_mod (pe_call G_mixed (hr.mono (by decide)) rfl T.d_mixed.m T.d_mixed.F.kp T.d_mixed.b .nil pass0 (pa_cons (pv 1) (pa_cons (pv 0) pa_nil))) (pe_op op_shl pe_int (pv 2)))
          sc_packs.nd rfl (Or.inl rfl) rfl)
      (pss_cons (ps_set (i := 3) sc_packs.nd rfl (Or.inr rfl) (pe_lst pa_nil))
      (pss_cons (ps_for PassesOwn.never rfl (pi_list (pv 2)) (pg_name (i := 4) sc_packs.nd rfl (Or.inr rfl))
        (pss_one (ps_set (i := 3) sc_packs.nd rfl (Or.inr rfl) (pe_op op_cat (pv 3) (pe_comp (ts := ["_law_j"]) (xs := ["_law_number"]) (js := [4]) rfl ⟨rfl, rfl, by decide +kernel, by decide +kernel, freeIn rfl⟩ (.cons rfl (.inl rfl) rfl .nil) (by decide +kernel) (pi_range1 rfl T.range (pa_cons (pv 1) pa_nil))
          (fun C s₀ H₀ fp => pg_name (X := cxC _ _ _ C s₀ H₀ fp) (i := 0) ndJN rfl (Or.inl rfl) (Or.inr rfl))
          (fun C s₀ H₀ fp => pif_nil (X := cxC _ _ _ C s₀ H₀ fp))
          (fun C s₀ H₀ fp => pe_op (X := cxC _ _ _ C s₀ H₀ fp) op_and (pe_op op_shr (pv 1) (pv 0)) pe_int))))))
      (pss_cons (ps_set (i := 3) sc_packs.nd rfl (Or.inr rfl) (pe_op op_cat (pv 3) (pe_op op_rep (pe_lst (pa_cons pe_int pa_nil)) (pe_op op_sub pe_int (pe_op op_modN (pe_callB call_len_seq (by rfl) T.len bt_len (pa_cons (pv 3) pa_nil)) (pe_un un_neg pe_int))))))
      (pss_cons (ps_setCompD (x0 := "_law_j") (i := 5) (ts := ["_law_j"]) (xs := ["_law_bits"]) (js := [3]) rfl ⟨rfl, rfl, by decide +kernel, by decide +kernel, fun _ _ => rfl, fun _ => rfl, by decide +kernel, freeIn rfl⟩ (.cons rfl (.inl rfl) rfl .nil) (pi_range1 rfl T.range (pa_cons (pe_op op_fdiv (pe_callB call_len_seq (by rfl) T.len bt_len (pa_cons (pv 3) pa_nil)) pe_int) pa_nil))
          (fun C s₀ H₀ fp => pg_name (X := cxD _ _ _ _ C s₀ H₀ fp) (i := 0) ndJB rfl (Or.inr rfl) (Or.inl rfl))
          (fun C s₀ H₀ fp => pif_nil (X := cxD _ _ _ _ C s₀ H₀ fp))
          (fun C s₀ H₀ fp => pe_callB (X := cxD _ _ _ _ C s₀ H₀ fp) (call_sum_ints rfl) rfl T.sum bt_sum (pa_cons (pe_comp (ts := ["_law_k"]) (xs := ["_law_bits", "_law_j"]) (js := [1, 0]) rfl ⟨rfl, rfl, by decide +kernel, by decide +kernel, freeIn rfl⟩ (.cons rfl (.inl rfl) rfl (.cons rfl (.inl rfl) rfl .nil)) (by decide +kernel) (pi_range1 rfl T.range (pa_cons pe_int pa_nil))
          (fun C s₀ H₀ fp => pg_name (X := cxC _ _ _ C s₀ H₀ fp) (i := 0) ndKBJ rfl (Or.inl rfl) (Or.inr rfl))
          (fun C s₀ H₀ fp => pif_nil (X := cxC _ _ _ C s₀ H₀ fp))
          (fun C s₀ H₀ fp => pe_op (X := cxC _ _ _ C s₀ H₀ fp) op_shl (pe_ix (ix_listK K rfl) (pv 1) (pe_op op_add (pe_op op_mul pe_int (pv 2)) (pv 0)) (fun _ _ => rfl)) (pv 0))) pa_nil))
          sc_packs.nd rfl (Or.inl rfl) rfl)
      (pss_cons (ps_set (i := 6) sc_packs.nd rfl (Or.inl rfl) (pe_callTy call_list_of rfl T.list bt_list (pa_cons (pv 2) pa_nil)))
      (pss_cons (ps_for PassesOwn.never rfl (pi_range1 rfl T.range (pa_cons pe_int pa_nil)) (pg_name (i := 7) sc_packs.nd rfl (Or.inl rfl))
        (pss_cons (ps_set (i := 8) sc_packs.nd rfl (Or.inl rfl) (pe_call G_packed (hr.mono (by decide)) rfl T.d_packed.m T.d_packed.F.kp T.d_packed.b .nil pass0 (pa_cons (pv 6) (pa_cons (pv 1) pa_nil))))
          (pss_cons (ps_if (PW.pt (pw_or (pt_not (pt_val (pe_call G_bytes (hr.mono (by decide)) rfl T.d_bytes.m T.d_bytes.F.kp T.d_bytes.b .nil pass0 (pa_cons (pv 8) (pa_cons (pv 5) pa_nil))))) (pw_or1 (pt_cmpR (op_neD hu) (pv 6) (pv 2) (nomark _)))))
            (pss_one (ps_ret pe_bl))
            pss_nil)
          (pss_cons (ps_expr (pe_bm PySem.F.plainAttrs_list PySem.F.slot_list_append PySem.F.type_list_append mt_append (pv 8) (pa_cons pe_int pa_nil)))
          (pss_cons (ps_set (i := 9) sc_packs.nd rfl (Or.inl rfl) (pe_call G_unpacked (hr.mono (by decide)) rfl T.d_unpacked.m T.d_unpacked.F.kp T.d_unpacked.b .nil pass0 (pa_cons (pv 5) (pa_cons (pe_callB call_len_seq (by rfl) T.len bt_len (pa_cons (pv 2) pa_nil)) (pa_cons (pv 1) pa_nil)))))
          (pss_cons (ps_if (pt_not (pt_val (pe_call G_bytes (hr.mono (by decide)) rfl T.d_bytes.m T.d_bytes.F.kp T.d_bytes.b .nil pass0 (pa_cons (pv 9) (pa_cons (pv 2) pa_nil)))))
            (pss_one (ps_ret pe_bl))
            pss_nil)
          (pss_one (ps_expr (pe_bm PySem.F.plainAttrs_list PySem.F.slot_list_append PySem.F.type_list_append mt_append (pv 9) (pa_cons pe_int pa_nil))))))))))
      (pss_cons (ps_set (i := 10) sc_packs.nd rfl (Or.inl rfl) (pe_callTy call_list_of rfl T.list bt_list (pa_cons (pv 5) pa_nil)))
      (pss_cons (ps_set (i := 11) sc_packs.nd rfl (Or.inl rfl) (pe_op op_sub (pe_op op_mul pe_int (pe_callB call_len_seq (by rfl) T.len bt_len (pa_cons (pv 5) pa_nil))) (pe_op op_mul (pv 1) (pe_callB call_len_seq (by rfl) T.len bt_len (pa_cons (pv 2) pa_nil)))))
      (pss_cut (ps_if (pt_cmpR op_gt (pv 11) pe_int (nomark _))
        (pss_one (ps_asg (pe_op op_add (pe_ix ix_list (pv 10) (pe_un un_neg pe_int) (fun _ _ => rfl)) (pe_op op_shl pe_int (pe_op op_sub pe_int (pe_op op_mod (pe_op op_fdiv (pv 0) pe_int) (pv 11))))) (pg_sub (pv 10) (pe_un un_neg pe_int) set_list)))
        pss_nil)
      (pss_cons (ps_set (i := 8) sc_packs.nd rfl (Or.inl rfl) (pe_lst (pa_cons (pe_call G_fill_bits (hr.mono (by decide)) rfl T.d_fill_bits.m T.d_fill_bits.F.kp T.d_fill_bits.b .nil pass0 (pa_cons (pv 5) (pa_cons (pe_callB call_len_seq (by rfl) T.len bt_len (pa_cons (pv 2) pa_nil)) (pa_cons (pv 1) pa_nil)))) (pa_cons (pe_call G_fill_bits (hr.mono (by decide)) rfl T.d_fill_bits.m T.d_fill_bits.F.kp T.d_fill_bits.b .nil pass0 (pa_cons (pv 10) (pa_cons (pe_callB call_len_seq (by rfl) T.len bt_len (pa_cons (pv 2) pa_nil)) (pa_cons (pv 1) pa_nil)))) pa_nil))))
      (pss_one (ps_ret (pe_and (pe_cmpR (op_eqD hu) (pe_comp (ts := ["_law_one"]) (xs := []) (js := []) rfl ⟨rfl, rfl, by decide +kernel, by decide +kernel, freeIn rfl⟩ .nil (by decide +kernel) (pi_list (pv 8))
          (fun C s₀ H₀ fp => pg_name (X := cxC _ _ _ C s₀ H₀ fp) (i := 0) ndO rfl (Or.inl rfl) (Or.inr rfl))
          (fun C s₀ H₀ fp => pif_nil (X := cxC _ _ _ C s₀ H₀ fp))
          (fun C s₀ H₀ fp => pe_callB (X := cxC _ _ _ C s₀ H₀ fp) (call_isinstK K rfl) rfl T.isinstance bt_isinstance (pa_cons (pv 0) (pa_cons (pty T.bool bt_bool) pa_nil)))) (pe_lst (pa_cons pe_bl (pa_cons pe_bl pa_nil))) (nomark _)) (pe_one (pe_cmpR (op_eqD hu) (pv 8) (pe_lst (pa_cons pe_bl (pa_cons (pe_cmpR op_eq (pv 11) pe_int (nomark _)) pa_nil))) (nomark _))))))))))))))))), ?_⟩
    refine hide2 fun U hU => ?_
    have cbit : Builtin.Int.intBits (c : Int) ≤ 1048576 := bits_small (by (first | lia | omega)) (by (first | lia | omega))
    refine ⟨_, rfl, _, _, rfl, rfl, (by show (0 : Int) < 8; decide), _, _, rfl, rfl, ?_⟩
    obtain ⟨wd, ewd, w1, w8⟩ : ∃ wd : Nat, (1 : Int) + (c : Int) % 8 = (wd : Int) ∧ 1 ≤ wd ∧ wd ≤ 8 := ⟨1 + c % 8, by (first | lia | omega), by (first | lia | omega), by (first | lia | omega)⟩
    have e2w : (1 : Int) * 2 ^ (wd : Int).toNat = ((2 ^ wd : Nat) : Int) := by rw [Int.toNat_natCast, Int.one_mul]; norm_cast
    have p2w : 0 < 2 ^ wd := Nat.pow_pos (by decide)
    show tSeq _ _ _ [some (.int c), some (.int ((1 : Int) + (c : Int) % 8)), none, none, none, none, none, none, none, none, none, none] H
    rw [ewd]
    -- the numbers
    refine ⟨_, rfl, _, _, rfl, rfl, ⟨by decide, by decide⟩, by show 2 ≤ sizeLine; decide, fun l1 hl1 => ?_⟩
    refine ⟨_, rfl, _, _, rfl, rfl, ⟨by decide, by decide⟩, _, _, rfl, rfl, (by show (0 : Int) < 2; decide), ixi [5, 41] (Pb := fun b => 0 < b ∧ b ≤ 41) upd_same (by (first | lia | omega)) (by show (c : Int) / 328 % 2 < 2; (first | lia | omega)) (by simp) fun b hb => ?_⟩
    obtain ⟨hb0, hb1⟩ := hb
    have hm0 := Int.emod_nonneg ((c : Int) / 8) (show b ≠ 0 by (first | lia | omega))
    have hm1 := Int.emod_lt_of_pos ((c : Int) / 8) hb0
    refine ⟨_, _, rfl, rfl, hb0, _, rfl, by (first | lia | omega), by (first | lia | omega), ?_⟩
    generalize (c : Int) / 8 % b = m at hm0 hm1
    have s1 : Same H (upd H l1 (.lst [.int 5, .int 41])) := sameU hl1
    generalize upd H l1 (.lst [.int 5, .int 41]) = H1 at s1
    refine comp_range (fun i => .int (mixed c (0 + i) % (1 * 2 ^ (wd : Int).toNat))) (Nat.le_of_lt (small1000 (by (first | lia | omega)))) (fun i hi H' R hR => ?_) fun D1 hD1 => ?_
    · refine ⟨Sub.set rfl, _, rfl, _, rfl, c, _, rfl, cbit, by (first | lia | omega), by (first | lia | omega), _, rfl, _, _, rfl, rfl, ⟨by (first | lia | omega), by (first | lia | omega), by decide⟩, _, _, rfl, rfl, ?_, hR⟩
      show (0 : Int) < 1 * 2 ^ (wd : Int).toNat
      rw [e2w]
      (first | lia | omega)
    obtain ⟨ns, en, ln, bn⟩ : ∃ ns : List Nat, ((List.range m.toNat).map fun (i : Nat) => V.int (mixed c (0 + i) % (1 * 2 ^ (wd : Int).toNat))) = natV ns ∧ ns.length ≤ 41 ∧ ∀ n ∈ ns, n < 2 ^ wd := by
      refine ⟨(List.range m.toNat).map fun (i : Nat) => (mixed c (0 + i) % (1 * 2 ^ (wd : Int).toNat)).toNat, ?_, by rw [List.length_map, List.length_range]; (first | lia | omega), fun n hn => ?_⟩
      · unfold natV
        rw [List.map_map]
        apply List.map_congr_left
        intro i _
        have := Int.emod_nonneg (mixed c (0 + i)) (show (1 * 2 ^ (wd : Int).toNat : Int) ≠ 0 by rw [e2w]; (first | lia | omega))
        show V.int _ = V.int _
        rw [Int.toNat_of_nonneg this]
      · obtain ⟨i, _, rfl⟩ := List.mem_map.mp hn
        have h1 := Int.emod_lt_of_pos (mixed c (0 + i)) (show (0 : Int) < 1 * 2 ^ (wd : Int).toNat by rw [e2w]; (first | lia | omega))
        have h2 := Int.emod_nonneg (mixed c (0 + i)) (show (1 * 2 ^ (wd : Int).toNat : Int) ≠ 0 by rw [e2w]; (first | lia | omega))
        rw [e2w] at h1 h2 ⊢
        (first | lia | omega)
    rw [en]
    have s2 := s1.trans (sameU (u := .lst (natV ns)) hD1)
    have g2 : (upd H1 D1 (.lst (natV ns))) D1 = some (.lst (natV ns)) := upd_same
    generalize upd H1 D1 (.lst (natV ns)) = H2 at s2 g2
    refine hU _ _ _ ?_
    clear hU
    refine hide2 fun U hU => ?_
    refine ⟨by show 0 ≤ sizeLine; decide, fun b1 hb1' => ?_⟩
    refine ⟨_, rfl, D1, rfl, ⟨_, SqL.of (keepH g2 hb1')⟩, ?_⟩
    have lbits : ∀ i, i ≤ ns.length → wd * i ≤ 328 := fun i hi => Nat.le_trans (Nat.mul_le_mul w8 (Nat.le_trans hi ln)) (by decide)
    refine for_list (xs := natV ns) (fun i σ H' => i ≤ ns.length ∧ Same H2 H' ∧ ∃ (bp : Addr) (v4 : Option V), σ = [some (.int c), some (.int wd), some (.ref D1), some (.ref bp), v4, none, none, none, none, none, none, none] ∧ H' bp = some (.lst (natV (bitsOf wd (ns.take i))))) ⟨Nat.zero_le _, sameU hb1', b1, none, rfl, upd_same⟩ (fun i σ H' _ h => SqL.of (h.2.1 _ _ g2)) ?_ ?_
    · rintro i x σ H3 hx ⟨hi, s3, bp, v4, rfl, gb⟩
      obtain ⟨n, hn, rfl⟩ := natV_item hx
      have hi' : i < ns.length := (List.getElem?_eq_some_iff.mp hn).1
      have et : ns.take (i + 1) = ns.take i ++ [n] := by rw [List.take_add_one, hn]; rfl
      refine ⟨_, rfl, _, rfl, _, rfl, by (first | lia | omega), by (first | lia | omega), ?_⟩
      refine comp_range (fun j => .int ((n / 2 ^ j % 2 : Nat) : Int)) (small (by (first | lia | omega))) (fun j hj H' R hR => ?_) fun D2 hD2 => ?_
      · refine ⟨Sub.set rfl, _, rfl, _, rfl, _, _, rfl, rfl, (by show (0 : Int) ≤ 0 + (j : Int); (first | lia | omega)), _, _, rfl, rfl, ?_⟩
        show R (.int (Builtin.bitAnd ((n : Int) / 2 ^ (0 + (j : Int)).toNat) 1)) H'
        rw [bitI (j := j) (by (first | lia | omega))]
        exact hR
      have ej : ((List.range (wd : Int).toNat).map fun (j : Nat) => V.int ((n / 2 ^ j % 2 : Nat) : Int)) = natV ((List.range wd).map fun j => n / 2 ^ j % 2) := by
        unfold natV
        rw [List.map_map, Int.toNat_natCast]
        rfl
      rw [ej]
      have lb : (natV (bitsOf wd (ns.take i)) ++ natV ((List.range wd).map fun j => n / 2 ^ j % 2)).length ≤ 1000 := by
        rw [natV_cat, ← bits_snoc, ← et, natV_len, bits_len, List.length_take]
        have := lbits (min (i + 1) ns.length) (Nat.min_le_right _ _)
        (first | lia | omega)
      refine ⟨bp, D2, _, _, rfl, rfl, keepH gb hD2, upd_same, by rw [← List.length_append]; exact small lb, fun l hl => ?_⟩
      refine ⟨hi', (s3.trans (sameU hD2)).trans (sameU hl), l, _, rfl, ?_⟩
      rw [upd_same, natV_cat, ← bits_snoc, ← et]
    rintro σ H3 ⟨_, s3, bp, v4, rfl, gb⟩
    rw [natV_len, List.take_length] at gb
    have s4 := s2.trans s3
    have g4 := s3 _ _ g2
    clear s3 g2
    refine hU _ _ _ ?_
    clear hU
    refine hide1 fun U hU => ?_
    obtain ⟨pf1, pf2, pf3⟩ := pad_fmod (bitsOf wd ns).length
    rw [bits_len] at pf1
    have hl328 := lbits ns.length (Nat.le_refl _)
    refine ⟨_, rfl, by show 1 ≤ sizeLine; decide, fun l2 hl2 => ?_⟩
    refine ⟨_, rfl, bp, _, rfl, .inl (SqL.of (keepH gb hl2)), _, rfl, _, _, rfl, rfl, (by show (-8 : Int) ≠ 0; decide), _, _, rfl, rfl, ?_⟩
    rw [natV_len]
    refine ⟨l2, _, _, rfl, rfl, upd_same, pf2, pf3, ?_, fun l3 hl3 => ?_⟩
    · rw [bits_len, pf1]
      show 1 * _ ≤ sizeLine
      exact small (by (first | lia | omega))
    rw [bits_len, pf1, natV_rep]
    have epad : natV (bitsOf wd ns) ++ natV (List.replicate (8 * ((wd * ns.length + 7) / 8) - wd * ns.length) 0) = natV (padB wd ns) := natV_cat _ _
    refine ⟨bp, l3, _, _, rfl, rfl, keepH (keepH gb hl2) hl3, upd_same, ?_, fun l4 hl4 => ?_⟩
    · rw [← List.length_append, epad, natV_len, padB_len]
      exact small (by (first | lia | omega))
    rw [epad]
    have s5 := ((s4.trans (sameU hl2)).trans (sameU hl3)).trans (sameU (u := .lst (natV (padB wd ns))) hl4)
    have g5 := keepH (keepH (keepH g4 hl2) hl3) (u := .lst (natV (padB wd ns))) hl4
    have gp : (upd (upd (upd H3 l2 (.lst [.int 0])) l3 (.lst (natV (List.replicate (8 * ((wd * ns.length + 7) / 8) - wd * ns.length) 0)))) l4 (.lst (natV (padB wd ns)))) l4 = some (.lst (natV (padB wd ns))) := upd_same
    generalize upd (upd (upd H3 l2 (.lst [.int 0])) l3 (.lst (natV (List.replicate (8 * ((wd * ns.length + 7) / 8) - wd * ns.length) 0)))) l4 (.lst (natV (padB wd ns))) = H4 at s5 g5 gp
    refine hU _ _ _ ?_
    clear hU
    refine hide1 fun U hU => ?_
    obtain ⟨N, eN⟩ : ∃ N, val wd ns = N := ⟨_, rfl⟩
    have hN : N < 2 ^ (wd * ns.length) := eN ▸ val_lt wd ns bn
    have hbit : ∀ i, (padB wd ns).getD i 0 = N / 2 ^ i % 2 := fun i => eN ▸ padB_at bn i
    obtain ⟨m8, em8⟩ : ∃ m8, (wd * ns.length + 7) / 8 = m8 := ⟨_, rfl⟩
    have lpad : (padB wd ns).length = 8 * m8 := by rw [padB_len, em8]
    have lm8 : m8 ≤ 42 := by (first | lia | omega)
    refine ⟨_, rfl, l4, _, rfl, .inl (SqL.of gp), _, _, rfl, rfl, ⟨by decide, by decide⟩, _, rfl, ?_⟩
    rw [natV_len, lpad, show ((8 * m8 : Nat) : Int) / 8 = (m8 : Int) by (first | lia | omega)]
    refine ⟨by (first | lia | omega), by (first | lia | omega), ?_⟩
    refine comp_rangeA (fun j => .int ((dig N j : Nat) : Int)) (by (first | lia | omega)) (fun j hj H5 R s6 hR => ?_) fun D5 H5 hD5 s6 g6 => ?_
    · refine ⟨Sub.set rfl, 8, rfl, by decide, by decide, ?_⟩
      refine comp_rangeA (fun k => .int ((((padB wd ns).getD (8 * j + k) 0 : Nat) : Int) * 2 ^ k)) (by decide) (fun k hk H6 R6 s7 hR6 => ?_) fun D6 H6 hD6 s7 g7 => ?_
      · have hk8 : k < 8 := hk
        have hb2 : (padB wd ns).getD (8 * j + k) 0 < 2 := by rw [hbit]; exact Nat.mod_lt _ (by decide)
        refine ⟨Sub.set rfl, _, rfl, _, rfl, _, _, rfl, rfl, .inl ⟨by decide, by decide⟩, _, rfl, _, _, rfl, rfl, l4, _, _, _, rfl, rfl, SqL.of (s7 _ _ (s6 _ _ gp)), natV_at (8 * j + k) (by (first | lia | omega)) (by (first | lia | omega)), _, rfl, _, _, rfl, rfl, ⟨by (first | lia | omega), by (first | lia | omega), by (first | lia | omega)⟩, ?_⟩
        have e := hR6 H6 (Same.refl _)
        show R6 (.int ((((padB wd ns).getD (8 * j + k) 0 : Nat) : Int) * 2 ^ ((0 : Int) + (k : Int)).toNat)) H6
        rw [show ((0 : Int) + (k : Int)).toNat = k by (first | lia | omega)]
        exact e
      · have hg : ∀ k, ((List.range 8).map fun k => (((padB wd ns).getD (8 * j + k) 0 : Nat) : Int) * 2 ^ k).getD k 0 = if k < 8 then ((N / 2 ^ (8 * j + k) % 2 : Nat) : Int) * 2 ^ k else 0 := fun k => by
          rw [List.getD_eq_getElem?_getD, List.getElem?_map]
          by_cases hk : k < 8
          · rw [if_pos hk, List.getElem?_range hk]
            show (((padB wd ns).getD (8 * j + k) 0 : Nat) : Int) * 2 ^ k = _
            rw [hbit]
          · rw [if_neg hk, List.getElem?_eq_none (by rw [List.length_range]; (first | lia | omega))]
            rfl
        have hle : ∀ k, 0 ≤ ((List.range 8).map fun k => (((padB wd ns).getD (8 * j + k) 0 : Nat) : Int) * 2 ^ k).getD k 0 ∧ ((List.range 8).map fun k => (((padB wd ns).getD (8 * j + k) 0 : Nat) : Int) * 2 ^ k).getD k 0 ≤ 128 := fun k => by
          rw [hg k]
          by_cases hk : k < 8
          · rw [if_pos hk]
            have h2 : N / 2 ^ (8 * j + k) % 2 < 2 := Nat.mod_lt _ (by decide)
            have h3 : ((2 ^ k : Nat) : Int) ≤ 128 := by have := pow_small hk; (first | lia | omega)
            have h4 : ((2 ^ k : Nat) : Int) = (2 : Int) ^ k := by norm_cast
            have h5 : (0 : Int) ≤ ((2 ^ k : Nat) : Int) := Int.natCast_nonneg _
            rw [← h4]
            generalize ((2 ^ k : Nat) : Int) = y at h3 h5
            generalize N / 2 ^ (8 * j + k) % 2 = z at h2
            obtain rfl | rfl : z = 0 ∨ z = 1 := by (first | lia | omega)
            · simp
            · constructor <;> (first | lia | omega)
          · rw [if_neg hk]
            decide
        have hls : ∀ n, n ≤ 8 → InLong (preSum (fun i => ((List.range 8).map fun k => (((padB wd ns).getD (8 * j + k) 0 : Nat) : Int) * 2 ^ k).getD i 0) n) := fun n hn => by
          have := preSum_long hle n hn
          constructor <;> (first | lia | omega)
        have hl8 : ((List.range 8).map fun k => (((padB wd ns).getD (8 * j + k) 0 : Nat) : Int) * 2 ^ k).length = 8 := by rw [List.length_map, List.length_range]
        refine ⟨D6, (List.range 8).map fun k => (((padB wd ns).getD (8 * j + k) 0 : Nat) : Int) * 2 ^ k, rfl, by rw [List.map_map]; exact g7, fun n hn => ?_, ?_⟩
        · rw [hl8] at hn
          refine ⟨?_, hls _ hn⟩
          have := hle n
          constructor <;> (first | lia | omega)
        · rw [hl8, sum_dig N j _ fun k hk => by rw [hg k, if_pos hk]]
          exact hR _ s7
    rw [show ((List.range (m8 : Int).toNat).map fun (j : Nat) => V.int ((dig N j : Nat) : Int)) = natV (digs N m8) by rw [Int.toNat_natCast]; exact rowV_digs N m8] at g6
    have s6' := s5.trans s6
    have g1 := s6 _ _ g5
    clear s6 g5
    refine hU _ _ _ ?_
    clear hU
    refine hide2 fun U hU => ?_
    refine ⟨_, rfl, D1, _, rfl, .inl (SqL.of g1), fun l6 hl6 => ?_⟩
    have s8 := s6'.trans (sameU (u := .lst (natV ns)) hl6)
    have gD : (upd H5 l6 (.lst (natV ns))) D5 = _ := keepH g6 hl6
    have gN := keepH (u := .lst (natV ns)) g1 hl6
    have gH : (upd H5 l6 (.lst (natV ns))) l6 = some (.lst (natV ns)) := upd_same
    generalize upd H5 l6 (.lst (natV ns)) = H6 at s8 gD gN gH
    have ld : (digs N m8).length = m8 := digs_len N m8
    have eNs := natV_ints ns
    -- two turns
    refine ⟨2, rfl, by decide, by decide, for_range (n := 2) (fun i σ H' => Same H6 H' ∧ ∃ v7 v8 v9, σ = [some (.int c), some (.int wd), some (.ref D1), some (.ref l4), v4, some (.ref D5), some (.ref l6), v7, v8, v9, none, none]) ⟨Same.refl _, none, none, none, rfl⟩ ?_ ?_⟩
    · rintro i σ H7 hi ⟨s7, v7, v8, v9, rfl⟩
      refine ⟨_, rfl, _, rfl, l6, ns, wd, rfl, s7 _ _ gH, w1, w8, by (first | lia | omega), bn, fun f1 hf1 => ?_⟩
      rw [eN, em8, rowV_digs]
      have sF := sameU (u := .lst (natV (digs N m8))) hf1
      refine ⟨_, rfl, _, rfl, f1, D5, digs N m8, rfl, upd_same, sF _ _ (s7 _ _ gD), by (first | lia | omega), fun H8 sB => ⟨true, rfl, iteF ?_⟩⟩
      have sC := (s7.trans sF).trans sB
      refine ⟨_, rfl, _, rfl, .list ((ns.map fun (n : Nat) => (n : Int)).map PyData.int), .list ((ns.map fun (n : Nat) => (n : Int)).map PyData.int), .lst (SqL.of (by rw [← eNs]; exact sC _ _ gH)) (datVs_ints _), .lst (SqL.of (by rw [← eNs]; exact sC _ _ gN)) (datVs_ints _), shaped_ints _, shaped_ints _, _, rfl, ?_⟩
      rw [eqv_nat]
      refine iteF ?_
      have gF : H8 f1 = some (.lst (natV (digs N m8))) := sB _ _ upd_same
      refine ⟨_, rfl, .inl ⟨rfl, _, SqL.of gF⟩, f1, _, _, rfl, rfl, gF, by rw [natV_len, ld]; exact small1000 (by (first | lia | omega)), ?_⟩
      have hf1' : H6 f1 = none := s7.free hf1
      have sD : Same H6 (upd H8 f1 (.lst (natV (digs N m8) ++ [.int 1]))) := sC.put hf1'
      generalize upd H8 f1 (.lst (natV (digs N m8) ++ [.int 1])) = H9 at sD
      refine ⟨_, rfl, _, rfl, D1, _, rfl, .inl (SqL.of (sD _ _ gN)), _, rfl, D5, ns, wd, by rw [natV_len]; rfl, by rw [eN, em8, rowV_digs]; exact sD _ _ gD, w1, w8, by (first | lia | omega), bn, fun t1 ht1 => ?_⟩
      have sE := sameU (u := .lst (natV ns)) ht1
      refine ⟨_, rfl, _, rfl, t1, D1, ns, rfl, upd_same, sE _ _ (sD _ _ gN), by (first | lia | omega), fun H10 sG => ⟨true, rfl, iteF ?_⟩⟩
      have gT : H10 t1 = some (.lst (natV ns)) := sG _ _ upd_same
      refine ⟨_, rfl, .inl ⟨rfl, _, SqL.of gT⟩, t1, _, _, rfl, rfl, gT, by rw [natV_len]; exact small1000 (by (first | lia | omega)), ?_⟩
      exact ⟨((sD.trans sE).trans sG).put (sD.free ht1), _, _, _, rfl⟩
    rintro σ H7 ⟨s7, v7, v8, v9, rfl⟩
    refine hU _ _ _ ?_
    clear hU
    refine ⟨_, rfl, D5, _, rfl, .inl (SqL.of (s7 _ _ gD)), fun l10 hl10 => ?_⟩
    have s9 := s7.trans (sameU (u := .lst (natV (digs N m8))) hl10)
    have gS : (upd H7 l10 (.lst (natV (digs N m8)))) l10 = some (.lst (natV (digs N m8))) := upd_same
    generalize upd H7 l10 (.lst (natV (digs N m8))) = H8 at s9 gS
    refine ⟨_, rfl, D5, _, rfl, .inl (SqL.of (s9 _ _ gD)), _, _, rfl, rfl, .inl ⟨by decide, by decide⟩, _, rfl, _, rfl, D1, _, rfl, .inl (SqL.of (s9 _ _ gN)), _, _, rfl, rfl, .inl ⟨by (first | lia | omega), by (first | lia | omega)⟩, _, _, rfl, rfl, ?_⟩
    rw [natV_len, natV_len, ld]
    obtain ⟨fr, efr⟩ : ∃ fr : Int, (8 : Int) * (m8 : Int) - (wd : Int) * (ns.length : Int) = fr := ⟨_, rfl⟩
    have ewl : (wd : Int) * (ns.length : Int) = ((wd * ns.length : Nat) : Int) := by norm_cast
    have hr8 : ns.length * wd % 8 = wd * ns.length % 8 := by rw [Nat.mul_comm]
    obtain ⟨fr0, frz, frp, frm⟩ := fr_facts em8 (show (8 : Int) * (m8 : Int) - ((wd * ns.length : Nat) : Int) = fr by rw [← efr, ewl])
    rw [← hr8] at frz frp frm
    have fd : fillB (digs N m8) ns.length wd = true := em8 ▸ fill_due hN
    refine ⟨fun σ H' => ∃ bs, Same H6 H' ∧ H' l10 = some (.lst (natV bs)) ∧ fillB bs ns.length wd = decide (fr = 0) ∧ (ns.length * wd % 8 ≠ 0 → bs ≠ []) ∧ σ = [some (.int c), some (.int wd), some (.ref D1), some (.ref l4), v4, some (.ref D5), some (.ref l6), v7, v8, v9, some (.ref l10), some (.int fr)], ?_, ?_⟩
    · refine ⟨_, rfl, _, _, rfl, rfl, _, rfl, ?_⟩
      show if decide ((8 : Int) * (m8 : Int) - (wd : Int) * (ns.length : Int) > 0) = true then _ else _
      rw [efr]
      refine ite2 (fun h => ?_) (fun h => ?_)
      · have h' : fr > 0 := of_decide_eq_true h
        have hnz : ns.length * wd % 8 ≠ 0 := fun z => absurd (frz.mpr z) (Int.ne_of_gt h')
        have hmp : 0 < m8 := frm hnz
        have eb : digs N m8 = (digs N m8).dropLast ++ [dig N (m8 - 1)] := by
          have hne : digs N m8 ≠ [] := fun z => by rw [z] at ld; exact absurd ld (Nat.ne_of_lt hmp)
          have := (List.dropLast_concat_getLast hne).symm
          have e2 : (digs N m8).getLast hne = dig N (m8 - 1) := by
            have := lastD_digs (N := N) hmp
            rw [List.getLastD_eq_getLast?, List.getLast?_eq_some_getLast hne] at this
            exact this
          rw [e2] at this
          exact this
        have ev : natV (digs N m8) = natV (digs N m8).dropLast ++ [V.int ((dig N (m8 - 1) : Nat) : Int)] := by
          conv => lhs; rw [eb]
          unfold natV
          rw [List.map_append]
          rfl
        have hx0 := Int.emod_nonneg ((c : Int) / 700) (Int.ne_of_gt h')
        have hx1 := Int.emod_lt_of_pos ((c : Int) / 700) h'
        have frp' := frp (Int.ne_of_gt h')
        obtain ⟨ex, eex, hex, hex7⟩ : ∃ ex : Nat, (7 : Int) - (c : Int) / 700 % fr = (ex : Int) ∧ ns.length * wd % 8 ≤ ex ∧ ex ≤ 7 := ex_facts fr0.2 frp' hx0 hx1
        refine ⟨_, rfl, _, rfl, l10, _, _, _, rfl, rfl, SqL.of gS, by rw [ev]; exact atI_last _ _, ?_⟩
        refine ⟨_, rfl, _, _, rfl, rfl, ⟨by decide, by decide⟩, _, rfl, ?_⟩
        show rI _ _ _ (.int ((8 : Int) * (m8 : Int) - (wd : Int) * (ns.length : Int))) _ _
        rw [efr]
        refine ⟨_, _, rfl, rfl, h', _, _, rfl, rfl, ?_⟩
        show rI _ _ _ (.int ((7 : Int) - (c : Int) / 700 % fr)) _ _
        rw [eex]
        refine ⟨_, _, rfl, rfl, ⟨by (first | lia | omega), by (first | lia | omega), by decide⟩, _, _, rfl, rfl, ?_⟩
        show gSub _ _ _ (.int (((dig N (m8 - 1) : Nat) : Int) + 1 * 2 ^ (ex : Int).toNat)) _ _ _
        have e1 : ((dig N (m8 - 1) : Nat) : Int) + 1 * 2 ^ (ex : Int).toNat = ((dig N (m8 - 1) + 2 ^ ex : Nat) : Int) := by
          rw [Int.toNat_natCast, Int.one_mul]
          norm_cast
        rw [e1]
        have hixn : ixN (natV (digs N m8)).length (-1) = some (m8 - 1) := by
          rw [natV_len, ld]
          unfold ixN
          rw [if_neg (by decide), if_pos (by (first | lia | omega))]
          congr 1
          (first | lia | omega)
        refine ⟨_, rfl, _, rfl, l10, _, _, m8 - 1, rfl, rfl, gS, hixn, ?_⟩
        rw [natV_set]
        refine ⟨_, s9.put (s7.free hl10), upd_same, ?_, fun _ z => ?_, ?_⟩
        · rw [decide_eq_false (Int.ne_of_gt h'), ← em8]
          exact fill_spoilt hnz hex
        · have := congrArg List.length z
          rw [List.length_set, ld] at this
          exact absurd this (Nat.ne_of_gt hmp)
        · rw [← efr]; rfl
      · have h' : ¬ fr > 0 := of_decide_eq_false (nf h)
        have hz : fr = 0 := Int.le_antisymm (Int.not_lt.mp h') fr0.1
        refine ⟨_, s9, gS, by rw [fd, decide_eq_true hz], fun z => absurd (frz.mp hz) z, by rw [← efr]; rfl⟩
    rintro σ H9 ⟨bs, sA, gB, hfill, hbs, rfl⟩
    refine ⟨_, rfl, _, rfl, D1, _, rfl, .inl (SqL.of (sA _ _ gN)), _, rfl, D5, digs N m8, ns.length, wd, by rw [natV_len]; rfl, sA _ _ gD, by (first | lia | omega), fun z y => ?_, ?_⟩
    · have := congrArg List.length y
      rw [ld] at this
      exact absurd this (Nat.ne_of_gt (frm z))
    refine ⟨_, rfl, _, rfl, D1, _, rfl, .inl (SqL.of (sA _ _ gN)), _, rfl, l10, bs, ns.length, wd, by rw [natV_len]; rfl, gB, by (first | lia | omega), hbs, ?_⟩
    rw [fd, hfill]
    refine ⟨by show 2 ≤ sizeLine; decide, fun l12 hl12 => ?_⟩
    have sL := sameU (H := H9) (p := l12) (u := .lst [.bl true, .bl (decide (fr = 0))]) hl12
    have gL : (upd H9 l12 (.lst [.bl true, .bl (decide (fr = 0))])) l12 = some (.lst [.bl true, .bl (decide (fr = 0))]) := upd_same
    generalize upd H9 l12 (.lst [.bl true, .bl (decide (fr = 0))]) = H10 at sL gL
    refine ⟨_, rfl, l12, rfl, ⟨_, SqL.of gL⟩, comp_listM (fun _ => .bl true) (SqL.of gL) (by show 2 ≤ 1000; decide) (fun x hx Hx R sx hR => ?_) fun D7 hD7 => ?_⟩
    · simp only [List.mem_cons, List.not_mem_nil, or_false] at hx
      rcases hx with rfl | rfl
      · exact ⟨Sub.set rfl, _, rfl, .bl _, .ty "bool", .type "bool", .type "bool", true, rfl, .bl _, rfl, kit_self, hR⟩
      · exact ⟨Sub.set rfl, _, rfl, .bl _, .ty "bool", .type "bool", .type "bool", true, rfl, .bl _, rfl, kit_self, hR⟩
    refine ⟨by show 2 ≤ sizeLine; decide, fun l13 hl13 => ?_⟩
    refine ⟨.list [.bool true, .bool true], .list [.bool true, .bool true], .lst (SqL.of (keepH upd_same hl13)) (.cons (.bl _) (.cons (.bl _) .nil)), .lst (SqL.of upd_same) (.cons (.bl _) (.cons (.bl _) .nil)), shaped_b2 _ _, shaped_b2 _ _, _, rfl, ?_⟩
    rw [eqv_b2]
    refine iteT ⟨_, rfl, _, rfl, rfl, by show 2 ≤ sizeLine; decide, fun l14 hl14 => ?_⟩
    have e0 : decide (V.int fr = V.int 0) = decide (fr = 0) := by
      rw [decide_eq_decide]
      exact ⟨fun z => by injection z, fun z => by rw [z]⟩
    rw [e0]
    refine ⟨.list [.bool true, .bool (decide (fr = 0))], .list [.bool true, .bool (decide (fr = 0))], .lst (SqL.of (keepH (keepH (keepH gL hD7) hl13) hl14)) (.cons (.bl _) (.cons (.bl _) .nil)), .lst (SqL.of upd_same) (.cons (.bl _) (.cons (.bl _) .nil)), shaped_b2 _ _, shaped_b2 _ _, ?_⟩
    rw [eqv_b2]
    exact q _ (((((s8.trans sA).trans sL).trans (sameU hD7)).trans (sameU hl13)).trans (sameU hl14))
end
end K4

set_option genSizeOf false
namespace K4
open PySem L2
seal L2.PE L2.PS L2.PSs L2.PA L2.PT L2.PW L2.PG L2.PGs L2.PI L2.PO
theorem occ_bad (c : Nat) : (Builtin.Str.occurrences SIG ⟨#[c]⟩ 0 SIG.length 1).isEmpty = bad c := by
  unfold bad half Txt.find
  cases Builtin.Str.occurrences SIG ⟨#[c]⟩ 0 SIG.length 1 with
  | nil => rfl
  | cons i r =>
    show false = decide ((i : Int) < 0)
    rw [decide_eq_false (by (first | lia | omega))]
theorem occ_half {c : Nat} (h : bad c = false) : ∃ (i : Nat) (rest : List Nat), Builtin.Str.occurrences SIG ⟨#[c]⟩ 0 SIG.length 1 = i :: rest ∧ half c = (i : Int) := by
  have h2 := occ_bad c
  rw [h] at h2
  unfold half Txt.find
  cases e : Builtin.Str.occurrences SIG ⟨#[c]⟩ 0 SIG.length 1 with
  | nil => rw [e] at h2; cases h2
  | cons i r => exact ⟨i, r, rfl, rfl⟩
theorem comp_rangeF {lo : Int} {n : Nat} {σ0 : L2.St} {g : TG} {tif : TT} {te : TE} {Q : VK} {H1 : Hp} (p : Nat → Bool) (f : Nat → V) (hn : n ≤ 1000)
    (hs : ∀ i, i < n → ∀ (H : Hp) (R : VK) (S : Hp → Prop), (p i = true → R (f i) H) → (p i = false → S H) → g (.int (lo + i)) σ0 H fun σ2 H2 => Sub σ0 σ2 ∧ tif σ2 H2 fun b H3 => if b = true then te σ2 H3 R else S H3)
    (hd : ∀ D, H1 D = none → Q (.ref D) (upd H1 D (.lst (((List.range n).filter p).map f)))) : CompW (Itr lo n) H1 σ0 g tif te Q := by
  intro D hD
  refine ⟨fun i m ys H => m = n - i ∧ i ≤ n ∧ ys = ((List.range i).filter p).map f ∧ H = upd H1 D (.lst ys), ⟨n, by simp, Nat.zero_le _, rfl, rfl⟩, ?_⟩
  rintro i m ys H ⟨rfl, hi, rfl, rfl⟩
  refine ⟨upd_same, ?_⟩
  by_cases hlt : i < n
  · refine .inr ⟨hlt, fun x H' y => ?_⟩
    obtain ⟨e, y⟩ := y
    subst e y
    have er : (List.range (i + 1)).filter p = (List.range i).filter p ++ (if p i = true then [i] else []) := by
      rw [List.range_succ, List.filter_append]
      congr 1
      cases hp : p i <;> simp [List.filter, hp]
    refine hs i hlt _ _ _ (fun hp => ?_) (fun hp => ?_)
    · refine ⟨upd_same, ?_, n - (i + 1), Nat.sub_succ_lt_self _ _ hlt, rfl, hlt, ?_, by rw [upd_upd]⟩
      · rw [List.length_map]
        have h1 := List.length_filter_le p (List.range i)
        rw [List.length_range] at h1
        exact small1000 (by (first | lia | omega))
      · rw [er, if_pos hp, List.map_append]
        rfl
    · refine ⟨n - (i + 1), Nat.sub_succ_lt_self _ _ hlt, rfl, hlt, ?_, rfl⟩
      rw [er, if_neg (by rw [hp]; exact Bool.false_ne_true), List.append_nil]
  · have e : i = n := by (first | lia | omega)
    subst e
    exact .inl ⟨Nat.le_refl _, hd D hD⟩
/-- the first bad sign -/
noncomputable def Bad1 (z : Str) (i : Nat) : Prop := (∃ c, (sg z)[i]? = some c ∧ bad c = true) ∧ ∀ c' ∈ (sg z).take i, bad c' = false
noncomputable def Good (z : Str) : Prop := ∀ c ∈ sg z, bad c = false
theorem Bad1.uniq {z : Str} {i j : Nat} (h1 : Bad1 z i) (h2 : Bad1 z j) : i = j := by
  obtain ⟨⟨c, hc, bc⟩, b1⟩ := h1
  obtain ⟨⟨d, hd, bd⟩, b2⟩ := h2
  have mem : ∀ {k l : Nat} {e : Nat}, (sg z)[k]? = some e → k < l → e ∈ (sg z).take l := fun {k l e} he hkl => by
    refine List.mem_of_getElem? (i := k) ?_
    rw [List.getElem?_take_of_lt hkl]
    exact he
  rcases Nat.lt_trichotomy i j with h | h | h
  · have := b2 c (mem hc h)
    rw [bc] at this
    cases this
  · exact h
  · have := b1 d (mem hd h)
    rw [bd] at this
    cases this
theorem wrong_head {z : Str} {i : Nat} {r : List Nat} (h : (List.range (sg z).length).filter (fun k => bad ((sg z).getD k 0)) = i :: r) : Bad1 z i := by
  have hmem : i ∈ (List.range (sg z).length).filter (fun k => bad ((sg z).getD k 0)) := by rw [h]; exact List.mem_cons_self ..
  obtain ⟨hr, hb⟩ := List.mem_filter.mp hmem
  have hi := List.mem_range.mp hr
  refine ⟨⟨(sg z)[i], List.getElem?_eq_getElem hi, ?_⟩, fun c hc => ?_⟩
  · rw [List.getD_eq_getElem?_getD, List.getElem?_eq_getElem hi] at hb
    exact hb
  · obtain ⟨k, hk⟩ := List.getElem?_of_mem hc
    have hki : k < i := by
      have := (List.getElem?_eq_some_iff.mp hk).1
      rw [List.length_take] at this
      (first | lia | omega)
    rw [List.getElem?_take_of_lt hki] at hk
    cases hbc : bad c with
    | false => rfl
    | true =>
      exfalso
      have hs : ((List.range (sg z).length).filter (fun k => bad ((sg z).getD k 0))).Pairwise (· < ·) := List.pairwise_lt_range.filter _
      have hkm : k ∈ (List.range (sg z).length).filter (fun k => bad ((sg z).getD k 0)) := List.mem_filter.mpr ⟨List.mem_range.mpr (by (first | lia | omega)), by rw [List.getD_eq_getElem?_getD, hk]; exact hbc⟩
      rw [h] at hs hkm
      rcases List.mem_cons.mp hkm with e | e
      · (first | lia | omega)
      · have := (List.pairwise_cons.mp hs).1 k e
        (first | lia | omega)
theorem wrong_none {z : Str} (h : (List.range (sg z).length).filter (fun k => bad ((sg z).getD k 0)) = []) : Good z := fun c hc => by
  obtain ⟨k, hk⟩ := List.getElem?_of_mem hc
  have hlt := (List.getElem?_eq_some_iff.mp hk).1
  have := List.filter_eq_nil_iff.mp h k (List.mem_range.mpr hlt)
  rw [List.getD_eq_getElem?_getD, hk] at this
  simpa using this
theorem Bad1.not_good {z : Str} {i : Nat} (h : Bad1 z i) : ¬ Good z := fun g => by
  obtain ⟨⟨c, hc, bc⟩, _⟩ := h
  have := g c (List.mem_of_getElem? hc)
  rw [bc] at this
  cases this
theorem shaped_t3 (p : Int) : SeqAt.shaped (.list [.str "text", .int p, .bool false]) = true := by
  have h0 : PyData.canLay0 (.str "text") = true := by decide +kernel
  show (PyData.canLay0 _ && decide (PyData.depth _ ≤ 64)) = true
  rw [Bool.and_eq_true]
  constructor
  · show (PyData.canLay0 (.str "text") && (PyData.canLay0 (.int p) && (PyData.canLay0 (.bool false) && true))) = true
    rw [h0]
    rfl
  · exact decide_eq_true (by simp [PyData.depth, PyData.depthAll])
theorem eqv_t3 (p : Int) : PyData.eqv (.list [.str "text", .int p, .bool false]) (.list [.str "text", .int p, .bool false]) = true := by simp [PyData.eqv, PyData.eqvAll]
theorem dat_t3 {K : PySem.W.Frag} {H : Hp} {r : Addr} {p : Int} (h : H r = some (.lst [.str "text", .int p, .bl false])) : DatV K H (.ref r) (.list [.str "text", .int p, .bool false]) := .lst (SqL.of h) (.cons (.str _) (.cons (.int _) (.cons (.bl _) .nil)))
theorem byteAt_map (cs : List Nat) (n : Nat) : ((List.range n).map fun k => V.int (byteAt cs k)) = ((List.range n).map (byteAt cs)).map V.int := by rw [List.map_map]; rfl
theorem ndPB : ((["_law_place"] : List Str) ++ (["_law_bent"] : List Str)).Nodup := by decide +kernel
theorem ndJH : ((["_law_j"] : List Str) ++ (["_law_halves"] : List Str)).Nodup := by decide +kernel
theorem eqv_selfI (ns : List Int) : PyData.eqv (.list (ns.map PyData.int)) (.list (ns.map PyData.int)) = true := by rw [eqv_ints, decide_eq_true rfl]
theorem comp_strM {z : Str} {σ0 : L2.St} {g : TG} {te : TE} {Q : VK} {H1 : Hp} (f : Nat → V) (hn : z.length ≤ 1000)
    (hs : ∀ c, c ∈ sg z → ∀ (H : Hp) (R : VK), R (f c) H → g (.str ⟨#[c]⟩) σ0 H fun σ2 H2 => Sub σ0 σ2 ∧ te σ2 H2 R)
    (hd : ∀ D, H1 D = none → Q (.ref D) (upd H1 D (.lst ((sg z).map f)))) : CompW (Its z) H1 σ0 g tTrue te Q := by
  have hsz : (sg z).length = z.length := by simp [sg, PySem.Str.length]
  intro D hD
  refine ⟨fun i m ys H => m = z.length - i ∧ i ≤ z.length ∧ ys = ((sg z).take i).map f ∧ H = upd H1 D (.lst ys), ⟨z.length, by simp, Nat.zero_le _, rfl, rfl⟩, ?_⟩
  rintro i m ys H ⟨rfl, hi, rfl, rfl⟩
  refine ⟨upd_same, ?_⟩
  by_cases hlt : i < z.length
  · refine .inr ⟨hlt, fun x H' y => ?_⟩
    obtain ⟨e, c, hc, y⟩ := y
    subst e y
    have hc' : (sg z)[i]? = some c := by rw [Array.getElem?_toList]; exact hc
    refine hs c (List.mem_of_getElem? hc') _ _ ?_
    refine ⟨upd_same, ?_, z.length - (i + 1), Nat.sub_succ_lt_self _ _ hlt, rfl, hlt, ?_, by rw [upd_upd]⟩
    · rw [List.length_map, List.length_take]
      exact small1000 (by (first | lia | omega))
    · rw [List.take_add_one, hc', List.map_append]
      rfl
  · have e : i = z.length := by (first | lia | omega)
    subst e
    refine .inl ⟨Nat.le_refl _, ?_⟩
    rw [← hsz, List.take_length]
    exact hd D hD
theorem pe_bmK {X : Cx} (K : PySem.W.Frag) (hK : X.K = K) {T : String} {name : Str} {id : String} {r : V → List V → Hp → VK → Prop} {o e : Expr} {es : List Expr} {to : TE} {t : TA} {apos cpos : Pos} (pa : PlainAttrs T) (slot : Slot T name id) (hty : typeOf (.builtin id) = pure (.type "method_descriptor")) (hm : MtR X id r) (ho : PE X o to) (ha : PA X (e :: es) t)
    (hbase : attributeBase o name X.env (eval o X.env) = eval o X.env := by rfl)
    (hfew : ((backTo cpos (starEach (e :: es) X.env)).all (fun x => !x.1) && (backToKw cpos (keywordEach [] X.env)).all (fun x => x.1.isSome)
      && decide ((e :: es).length + ([] : List Keyword).length + (if ([] : List Keyword).isEmpty then 0 else 1) < 30)) = true := by rfl)
    (hline : (apos.endLine == cpos.line) = true := by rfl) (hs : starEach (e :: es) X.env = (false, eval e X.env) :: starEach es X.env := by rfl) (hplain : (backTo cpos (starEach es X.env)).any (·.1) = false := by rfl) :
    PE X (.Call (.Attribute o name apos) (e :: es) [] cpos) (tBM K T r to t) := by
  subst hK
  exact pe_bm pa slot hty hm ho ha hbase hfew hline hs hplain
theorem datV_same {K : PySem.W.Frag} {H H' : Hp} (s : Same H H') {x : V} {d : PyData} (h : DatV K H x d) : DatV K H' x d :=
  DatV.rec (motive_1 := fun x d _ => DatV K H' x d) (motive_2 := fun xs ds _ => DatVs K H' xs ds) .non .bl .int .str (fun h _ r => .lst (s.seq h) r) (fun h _ r => .tup (s.seqT h) r) .nil (fun _ _ h r => .cons h r) h
end K4

set_option genSizeOf false
namespace K4
open PySem L2
seal L2.PE L2.PS L2.PSs L2.PA L2.PT L2.PW L2.PG L2.PGs L2.PI L2.PO
noncomputable def sp_text : Sp := fun vs H Q _ => ∃ (c : Nat) (z : Str), vs = [.int c, .str z] ∧ c < 2147483647 ∧ z.length ≤ 30 ∧ ∀ H', Same H H' → Q (.bl true) H'
noncomputable def DueT (z : Str) (H : Hp) (dv : V) : Prop := (∃ i d, Bad1 z i ∧ dv = .ref d ∧ H d = some (.lst [.str "text", .int (i : Nat), .bl false])) ∨ (∃ d, Good z ∧ z.length % 2 = 1 ∧ dv = .ref d ∧ H d = some (.lst [.str "text", .int (z.length : Nat), .bl false])) ∨ (Good z ∧ z.length % 2 = 0 ∧ dv = .non)
noncomputable def FoundT (z : Str) (H : Hp) (r : Addr) : Prop := (∃ i, Bad1 z i ∧ H r = some (.lst [.str "text", .int (i : Nat), .bl false])) ∨ (Good z ∧ z.length % 2 = 1 ∧ H r = some (.lst [.str "text", .int (z.length : Nat), .bl false])) ∨ (Good z ∧ z.length % 2 = 0 ∧ H r = some (.lst ((List.range (z.length / 2)).map fun k => V.int (byteAt (sg z) k))))
theorem DueT.same {z : Str} {H H' : Hp} {dv : V} (s : Same H H') (h : DueT z H dv) : DueT z H' dv := by
  rcases h with ⟨i, d, b, e, g⟩ | ⟨d, b, o, e, g⟩ | h
  · exact .inl ⟨i, d, b, e, s _ _ g⟩
  · exact .inr (.inl ⟨d, b, o, e, s _ _ g⟩)
  · exact .inr (.inr h)
section
variable {P : Program} {w : World} {K : PySem.W.Frag} {mg : Str → Option Value} {base : Heap} {a : Ad}
set_option maxHeartbeats 4000000 in
theorem ok_text (T : Tx K mg a) : FnOk P w K mg base CX0 7 a.f_text a.d_text ["_law_cell", "_law_text_here"] sp_text := by
  have G_refused : FnOk P w K mg base CX0 6 a.f_refused a.d_refused ["_law_way", "_law_thing"] (sp_refused K) := ok_refused T
  refine T.d_text.F.ok sc_text (fun vs H Q E h => ?_) (fun cdv A outer s H vs Q E hr h => ?_)
  · obtain ⟨c, z, rfl, _⟩ := h
    rfl
  · obtain ⟨c, z0, rfl, hc, hz0, q⟩ := h
    have hu := hr.units
    refine ⟨_, pss_cons (ps_set (i := 2) sc_text.nd rfl (Or.inl rfl) (pe_op op_mod (pv 0) (pe_op op_add (pe_callB call_len_str (by rfl) T.len bt_len (pa_cons (pv 1) pa_nil)) pe_int)))
      (pss_cons (ps_set (i := 3) sc_text.nd rfl (Or.inl rfl) (pe_ixb (peb_lst (pab_c peb_str (pab_c peb_str (pab_c peb_str (pab_c peb_str (pab_c peb_str (pab_c peb_str (pab_c peb_str (pab_c peb_str pab_nil))))))))) (pe_op op_mod (pe_op op_fdiv (pv 0) pe_int) pe_int) (fun _ _ => rfl)))
      (pss_cons (ps_set (i := 4) sc_text.nd rfl (Or.inl rfl) (pe_lst (pa_cons (pe_op op_add_str (pe_slice sl_str (pv 1) po_none (po_some (pv 2))) (pe_slice sl_str (pv 1) (po_some (pe_op op_add (pv 2) pe_int)) po_none)) (pa_cons (pe_op op_add_str (pe_op op_add_str (pe_slice sl_str (pv 1) po_none (po_some (pv 2))) (pv 3)) (pe_slice sl_str (pv 1) (po_some (pv 2)) po_none)) (pa_cons (pe_op op_add_str (pe_op op_add_str (pe_slice sl_str (pv 1) po_none (po_some (pv 2))) (pv 3)) (pe_slice sl_str (pv 1) (po_some (pe_op op_add (pv 2) pe_int)) po_none)) pa_nil)))))
      (pss_cut (ps_set (i := 5) sc_text.nd rfl (Or.inr rfl) (pe_ix ix_list (pv 4) (pe_op op_mod (pe_op op_fdiv (pv 0) pe_int) pe_int) (fun _ _ => rfl)))
      (pss_cons (ps_setComp (i := 6) (ts := ["_law_place"]) (xs := ["_law_bent"]) (js := [5]) rfl ⟨rfl, rfl, by decide +kernel, by decide +kernel, freeIn rfl⟩ (.cons rfl (.inl rfl) rfl .nil) (by decide +kernel) (pi_range1 rfl T.range (pa_cons (pe_callB call_len_str (by rfl) T.len bt_len (pa_cons (pv 5) pa_nil)) pa_nil))
          (fun C s₀ H₀ fp => pg_name (X := cxC _ _ _ C s₀ H₀ fp) (i := 0) ndPB rfl (Or.inl rfl) (Or.inr rfl))
          (fun C s₀ H₀ fp => pif_one (X := cxC _ _ _ C s₀ H₀ fp) (pt_cmpR op_notin_str (pe_ix ix_str (pv 1) (pv 0) (fun _ _ => rfl)) pe_str rfl))
          (fun C s₀ H₀ fp => pv (X := cxC _ _ _ C s₀ H₀ fp) 0)
          sc_text.nd rfl (Or.inl rfl) rfl)
      (pss_cons (ps_set (i := 7) sc_text.nd rfl (Or.inl rfl) pe_non)
      (pss_cut (ps_if (pt_cmpR (op_neD hu) (pv 6) (pe_lst pa_nil) (nomark _))
        (pss_one (ps_set (i := 7) sc_text.nd rfl (Or.inl rfl) (pe_lst (pa_cons pe_str (pa_cons (pe_ix ix_list (pv 6) pe_int (fun _ _ => rfl)) (pa_cons pe_bl pa_nil))))))
        (pss_one (ps_if (pt_cmpR op_eq (pe_op op_mod (pe_callB call_len_str (by rfl) T.len bt_len (pa_cons (pv 5) pa_nil)) pe_int) pe_int (nomark _))
            (pss_one (ps_set (i := 7) sc_text.nd rfl (Or.inl rfl) (pe_lst (pa_cons pe_str (pa_cons (pe_callB call_len_str (by rfl) T.len bt_len (pa_cons (pv 5) pa_nil)) (pa_cons pe_bl pa_nil))))))
            pss_nil)))
      (pss_cut (ps_set (i := 8) sc_text.nd rfl (Or.inl rfl) (pe_call G_refused hr rfl T.d_refused.m T.d_refused.F.kp T.d_refused.b .nil pass0 (pa_cons pe_int (pa_cons (pv 5) pa_nil))))
      (pss_cut (ps_if (pt_cmpR op_isN (pv 7) pe_non (nomark _))
        (pss_cons (ps_set (i := 9) sc_text.nd rfl (Or.inr rfl) (pe_comp (ts := ["_law_one"]) (xs := []) (js := []) rfl ⟨rfl, rfl, by decide +kernel, by decide +kernel, freeIn rfl⟩ .nil (by decide +kernel) (pi_str (pv 5))
          (fun C s₀ H₀ fp => pg_name (X := cxC _ _ _ C s₀ H₀ fp) (i := 0) ndO rfl (Or.inl rfl) (Or.inr rfl))
          (fun C s₀ H₀ fp => pif_nil (X := cxC _ _ _ C s₀ H₀ fp))
          (fun C s₀ H₀ fp => pe_bmK (X := cxC _ _ _ C s₀ H₀ fp) K rfl PySem.F.plainAttrs_str PySem.F.slot_str_index PySem.F.type_str_index mt_index pe_str (pa_cons (pv 0) pa_nil))))
          (pss_one (ps_setComp (i := 7) (ts := ["_law_j"]) (xs := ["_law_halves"]) (js := [9]) rfl ⟨rfl, rfl, by decide +kernel, by decide +kernel, freeIn rfl⟩ (.cons rfl (.inl rfl) rfl .nil) (by decide +kernel) (pi_range3 rfl T.range (pa_cons pe_int (pa_cons (pe_callB call_len_str (by rfl) T.len bt_len (pa_cons (pv 5) pa_nil)) (pa_cons pe_int pa_nil))))
          (fun C s₀ H₀ fp => pg_name (X := cxC _ _ _ C s₀ H₀ fp) (i := 0) ndJH rfl (Or.inl rfl) (Or.inr rfl))
          (fun C s₀ H₀ fp => pif_nil (X := cxC _ _ _ C s₀ H₀ fp))
          (fun C s₀ H₀ fp => pe_op (X := cxC _ _ _ C s₀ H₀ fp) op_add (pe_op op_mul pe_int (pe_ix (ix_listK K rfl) (pv 1) (pv 0) (fun _ _ => rfl))) (pe_ix (ix_listK K rfl) (pv 1) (pe_op op_add (pv 0) pe_int) (fun _ _ => rfl)))
          sc_text.nd rfl (Or.inl rfl) rfl)))
        pss_nil)
      (pss_cut (ps_set (i := 10) sc_text.nd rfl (Or.inl rfl) (pe_ixb (peb_lst (pab_c peb_non (pab_c peb_int (pab_c (peb_lst (pab_c peb_str pab_nil)) (pab_c (peb_tup (pab_c peb_int pab_nil)) (pab_c peb_bl (pab_c peb_dnewK pab_nil))))))) (pe_op op_mod (pe_op op_fdiv (pv 0) pe_int) pe_int) (fun _ _ => rfl)))
      (pss_one (ps_ret (pe_and (pe_cmpR (op_eqD hu) (pv 8) (pv 7) (nomark _)) (pe_one (pe_cmpR (op_eqD hu) (pe_call G_refused hr rfl T.d_refused.m T.d_refused.F.kp T.d_refused.b .nil pass0 (pa_cons pe_int (pa_cons (pv 10) pa_nil))) (pe_lst (pa_cons pe_str (pa_cons pe_int (pa_cons pe_bl pa_nil)))) (nomark _))))))))))))))), ?_⟩
    -- the place, the sign
    refine hide2 fun U hU => ?_
    have hat0 := Int.emod_nonneg (c : Int) (show (z0.length : Int) + 1 ≠ 0 by (first | lia | omega))
    refine ⟨_, rfl, _, rfl, z0, rfl, small (by (first | lia | omega)), _, _, rfl, rfl, _, _, rfl, rfl, (by show (0 : Int) < (z0.length : Int) + 1; (first | lia | omega)), ?_⟩
    obtain ⟨at0, eat⟩ : ∃ at0 : Int, (c : Int) % ((z0.length : Int) + 1) = at0 := ⟨_, rfl⟩
    refine ⟨by show 8 ≤ sizeLine; decide, fun l1 hl1 => ?_⟩
    refine ⟨_, rfl, _, _, rfl, rfl, ⟨by decide, by decide⟩, _, _, rfl, rfl, (by show (0 : Int) < 8; decide), ixv [.str "A", .str "F", .str "g", .str " ", .str "0", .str "-", .str "\n", .str "f"] (Pv := fun v => ∃ y : Str, v = .str y ∧ y.length ≤ 1) upd_same (by (first | lia | omega)) (by show (c : Int) / 25 % 8 < 8; (first | lia | omega)) ?_ fun v hv => ?_⟩
    · intro b hb
      simp only [List.mem_cons, List.not_mem_nil, or_false] at hb
      rcases hb with rfl | rfl | rfl | rfl | rfl | rfl | rfl | rfl <;> exact ⟨_, rfl, by decide +kernel⟩
    obtain ⟨y, rfl, hy⟩ := hv
    have s1 : Same H (upd H l1 (.lst [.str "A", .str "F", .str "g", .str " ", .str "0", .str "-", .str "\n", .str "f"])) := sameU hl1
    generalize upd H l1 (.lst [.str "A", .str "F", .str "g", .str " ", .str "0", .str "-", .str "\n", .str "f"]) = H1 at s1
    refine hU _ _ _ ?_
    clear hU
    refine hideSC fun U hU => ?_
    have sl : ∀ lo hi, (Txt.slice z0 lo hi).length ≤ 30 := fun lo hi => Nat.le_trans (Txt.slice_le z0 _ _) hz0
    have ln : ∀ lo hi lo' hi', ((Txt.slice z0 lo hi) ++ (Txt.slice z0 lo' hi')).length ≤ 30 + 30 := fun lo hi lo' hi' => app_len (sl lo hi) (sl lo' hi')
    have ln2 : ∀ lo hi, ((Txt.slice z0 lo hi) ++ y).length ≤ 30 + 1 := fun lo hi => app_len (sl lo hi) hy
    have ln3 : ∀ lo hi lo' hi', (((Txt.slice z0 lo hi) ++ y) ++ (Txt.slice z0 lo' hi')).length ≤ 30 + 1 + 30 := fun lo hi lo' hi' => app_len (ln2 lo hi) (sl lo' hi')
    have b30 : z0.length ≤ sizeLine := small (by (first | lia | omega))
    refine ⟨_, rfl, _, rfl, _, rfl, z0, rfl, b30, _, rfl, _, rfl, _, _, rfl, rfl, _, rfl, z0, rfl, b30, _, _, rfl, rfl, small (by have := sl none (some at0); have := sl (some (at0 + 1)) none; rw [eat]; (first | lia | omega)), ?_⟩
    refine ⟨_, rfl, _, rfl, _, rfl, z0, rfl, b30, _, rfl, _, _, rfl, rfl, small (by have := sl none (some at0); rw [eat]; (first | lia | omega)), _, rfl, _, rfl, _, rfl, z0, rfl, b30, _, _, rfl, rfl, small (by have := ln2 none (some at0); have := sl (some at0) none; rw [eat]; (first | lia | omega)), ?_⟩
    refine ⟨_, rfl, _, rfl, _, rfl, z0, rfl, b30, _, rfl, _, _, rfl, rfl, small (by have := sl none (some at0); rw [eat]; (first | lia | omega)), _, rfl, _, rfl, _, _, rfl, rfl, _, rfl, z0, rfl, b30, _, _, rfl, rfl, small (by have := ln2 none (some at0); have := sl (some (at0 + 1)) none; rw [eat]; (first | lia | omega)), by show 3 ≤ sizeLine; decide, fun l2 hl2 => ?_⟩
    refine ⟨fun σ H' => Same H H' ∧ ∃ v2 v3 v4 z, z.length ≤ 100 ∧ σ = [some (.int c), some (.str z0), v2, v3, v4, some (.str z), none, none, none, none, none], ?_, ?_⟩
    · refine ⟨_, rfl, _, rfl, _, _, rfl, rfl, ⟨by decide, by decide⟩, _, _, rfl, rfl, (by show (0 : Int) < 3; decide), ixv _ (Pv := fun v => ∃ z : Str, v = .str z ∧ z.length ≤ 100) upd_same (by (first | lia | omega)) (by show (c : Int) / 200 % 3 < 3; (first | lia | omega)) ?_ fun v hv => ?_⟩
      · intro b hb
        simp only [List.mem_cons, List.not_mem_nil, or_false] at hb
        rcases hb with rfl | rfl | rfl
        · exact ⟨_, rfl, Nat.le_trans (ln _ _ _ _) (by decide)⟩
        · exact ⟨_, rfl, Nat.le_trans (ln3 _ _ _ _) (by decide)⟩
        · exact ⟨_, rfl, Nat.le_trans (ln3 _ _ _ _) (by decide)⟩
      obtain ⟨z, rfl, hz⟩ := hv
      exact ⟨s1.trans (sameU hl2), _, _, _, z, hz, rfl⟩
    clear hl2 s1 hl1 sl ln ln2 ln3 hat0 eat
    rintro σ H2 ⟨s2, v2, v3, v4, z, hz, rfl⟩
    refine hU _ _ _ ?_
    clear hU
    refine hideSSC fun U hU => ?_
    have hsz : (sg z).length = z.length := by simp [sg, PySem.Str.length]
    have bz : z.length ≤ sizeLine := small (by (first | lia | omega))
    -- the wrong places
    refine ⟨_, rfl, z, rfl, bz, _, rfl, by (first | lia | omega), by (first | lia | omega), ?_⟩
    refine comp_rangeF (fun k => bad ((sg z).getD k 0)) (fun k => .int (k : Nat)) (by (first | lia | omega)) (fun k hk Hx R S hR hS => ?_) fun D1 hD1 => ?_
    · have hk' : k < (sg z).length := by (first | lia | omega)
      have hat : atI z.cps.toList (0 + (k : Int)) = some ((sg z).getD k 0) := by
        rw [Int.zero_add]
        apply atI_nat
        rw [List.getD_eq_getElem?_getD, List.getElem?_eq_getElem hk']
        rfl
      refine ⟨Sub.set rfl, _, rfl, _, rfl, z, _, _, rfl, rfl, bz, hat, _, _, rfl, rfl, _, rfl, ?_⟩
      show if (!(!(Builtin.Str.occurrences SIG ⟨#[(sg z).getD k 0]⟩ 0 SIG.length 1).isEmpty)) = true then _ else _
      rw [Bool.not_not, occ_bad]
      cases hb : bad ((sg z).getD k 0) with
      | true =>
        refine iteT ⟨_, rfl, ?_⟩
        show R (.int (0 + (k : Int))) _
        rw [Int.zero_add]
        exact hR hb
      | false => exact iteF (hS hb)
    rw [show ((z.length : Int)).toNat = (sg z).length by rw [hsz]; (first | lia | omega)]
    have s3 := s2.trans (sameU (u := .lst (((List.range (sg z).length).filter (fun k => bad ((sg z).getD k 0))).map fun k => V.int (k : Nat))) hD1)
    have g3 : (upd H2 D1 (.lst (((List.range (sg z).length).filter (fun k => bad ((sg z).getD k 0))).map fun k => V.int (k : Nat)))) D1 = some (.lst (((List.range (sg z).length).filter (fun k => bad ((sg z).getD k 0))).map fun k => V.int (k : Nat))) := upd_same
    generalize upd H2 D1 (.lst (((List.range (sg z).length).filter (fun k => bad ((sg z).getD k 0))).map fun k => V.int (k : Nat))) = H3 at s3 g3
    -- what is due, so far
    refine ⟨fun σ H' => Same H H' ∧ ∃ dv, DueT z H' dv ∧ σ = [some (.int c), some (.str z0), v2, v3, v4, some (.str z), some (.ref D1), some dv, none, none, none], ?_, ?_⟩
    · cases ew : (List.range (sg z).length).filter (fun k => bad ((sg z).getD k 0)) with
      | nil =>
        rw [ew] at g3
        have good := wrong_none ew
        refine ⟨_, rfl, by show 0 ≤ sizeLine; decide, fun l3 hl3 => ?_⟩
        refine ⟨.list [], .list [], .lst (SqL.of (keepH g3 hl3)) .nil, .lst (SqL.of upd_same) .nil, by decide, by decide, _, rfl, ?_⟩
        rw [show PyData.eqv (.list []) (.list []) = true from by decide +kernel]
        refine iteF ⟨_, rfl, z, rfl, bz, _, _, rfl, rfl, (by show (0 : Int) < 2; decide), rfl, _, rfl, ite2 (fun ho => ?_) (fun ho => ?_)⟩
        · have ho' : z.length % 2 = 1 := by
            have := of_decide_eq_true ho
            injection this with this
            (first | lia | omega)
          refine ⟨_, rfl, z, rfl, bz, by show 3 ≤ sizeLine; decide, fun l4 hl4 => ?_⟩
          exact ⟨(s3.trans (sameU hl3)).trans (sameU hl4), _, .inr (.inl ⟨l4, good, ho', rfl, upd_same⟩), rfl⟩
        · have ho' : z.length % 2 = 0 := by
            have := of_decide_eq_false (nf ho)
            have h2 : ¬ ((z.length : Int) % 2 = 1) := fun w => this (by show V.int ((z.length : Int) % 2) = V.int 1; rw [w])
            (first | lia | omega)
          exact ⟨s3.trans (sameU hl3), _, .inr (.inr ⟨good, ho', rfl⟩), rfl⟩
      | cons i r =>
        rw [ew] at g3
        have b1 := wrong_head ew
        refine ⟨_, rfl, by show 0 ≤ sizeLine; decide, fun l3 hl3 => ?_⟩
        refine ⟨.list (((i :: r).map fun (k : Nat) => (k : Int)).map PyData.int), .list [], .lst (SqL.of (by rw [List.map_map]; exact keepH g3 hl3)) (datVs_ints _), .lst (SqL.of upd_same) .nil, shaped_ints _, by decide, _, rfl, ?_⟩
        rw [show PyData.eqv (.list (((i :: r).map fun (k : Nat) => (k : Int)).map PyData.int)) (.list []) = false from by simp [PyData.eqv, PyData.eqvAll]]
        refine iteT ⟨_, rfl, D1, _, 0, .int (i : Nat), rfl, rfl, SqL.of (keepH g3 hl3), (show atI _ ((0 : Nat) : Int) = _ from atI_nat rfl), by show 3 ≤ sizeLine; decide, fun l4 hl4 => ?_⟩
        exact ⟨(s3.trans (sameU hl3)).trans (sameU hl4), _, .inl ⟨i, l4, b1, rfl, upd_same⟩, rfl⟩
    clear s3 g3
    rintro σ H4 ⟨s4, dv, hdue, rfl⟩
    refine hU _ _ _ ?_
    clear hU
    refine hideC fun U hU => ?_
    refine ⟨fun σ H' => Same H H' ∧ DueT z H' dv ∧ ∃ r, FoundT z H' r ∧ σ = [some (.int c), some (.str z0), v2, v3, v4, some (.str z), some (.ref D1), some dv, some (.ref r), none, none], ?_, ?_⟩
    · refine ⟨_, rfl, 4, .str z, rfl, .inr (.inr (.inr (.inr ⟨rfl, .inr ⟨z, rfl, hz, fun i c' h1 h2 h3 r H' hr s' hr' => ?_, fun h1 h2 r H' hr s' hr' => ?_, fun h1 h2 r H' hr s' hr' => ?_⟩⟩)))⟩
      · exact ⟨s4.trans s', hdue.same s', r, .inl ⟨i, ⟨⟨c', h1, h2⟩, h3⟩, hr'⟩, rfl⟩
      · exact ⟨s4.trans s', hdue.same s', r, .inr (.inl ⟨h1, h2, hr'⟩), rfl⟩
      · exact ⟨s4.trans s', hdue.same s', r, .inr (.inr ⟨h1, h2, hr'⟩), rfl⟩
    clear s4 hdue
    rintro σ H5 ⟨s5, hdue, r, hfo, rfl⟩
    refine hU _ _ _ ?_
    clear hU
    refine hideC fun U hU => ?_
    refine ⟨fun σ H' => Same H H' ∧ ∃ dv' pd v9, DatV K H' (.ref r) pd ∧ DatV K H' dv' pd ∧ SeqAt.shaped pd = true ∧ PyData.eqv pd pd = true ∧ σ = [some (.int c), some (.str z0), v2, v3, v4, some (.str z), some (.ref D1), some dv', some (.ref r), v9, none], ?_, ?_⟩
    · refine ⟨_, rfl, rfl, _, rfl, ?_⟩
      rcases hdue with ⟨i, d, b1, rfl, g⟩ | ⟨d, good, ho, rfl, g⟩ | ⟨good, he, rfl⟩
      · refine iteD (fun z => by cases z) ⟨s5, _, .list [.str "text", .int (i : Nat), .bool false], none, ?_, dat_t3 g, shaped_t3 _, eqv_t3 _, rfl⟩
        rcases hfo with ⟨j, b2, gf⟩ | ⟨good, _, _⟩ | ⟨good, _, _⟩
        · rw [b1.uniq b2]
          exact dat_t3 gf
        · exact absurd good b1.not_good
        · exact absurd good b1.not_good
      · refine iteD (fun z => by cases z) ⟨s5, _, .list [.str "text", .int (z.length : Nat), .bool false], none, ?_, dat_t3 g, shaped_t3 _, eqv_t3 _, rfl⟩
        rcases hfo with ⟨j, b2, gf⟩ | ⟨_, _, gf⟩ | ⟨_, he, _⟩
        · exact absurd good b2.not_good
        · exact dat_t3 gf
        · (first | lia | omega)
      · have gf : H5 r = some (.lst ((List.range (z.length / 2)).map fun k => V.int (byteAt (sg z) k))) := by
          rcases hfo with ⟨j, b2, gf⟩ | ⟨_, ho, gf⟩ | ⟨_, _, gf⟩
          · exact absurd good b2.not_good
          · (first | lia | omega)
          · exact gf
        refine iteP rfl ?_
        -- the halves
        refine ⟨_, rfl, z, rfl, comp_strM (fun c => .int (half c)) (by (first | lia | omega)) (fun c' hc' Hx R hR => ?_) fun D2 hD2 => ?_⟩
        · obtain ⟨i, rest, eo, eh⟩ := occ_half (good c' hc')
          refine ⟨Sub.set rfl, rfl, _, rfl, _, _, i, rest, rfl, rfl, eo, ?_⟩
          rw [← eh]
          exact hR
        have g2 : (upd H5 D2 (.lst ((sg z).map fun c => V.int (half c)))) D2 = some (.lst (((sg z).map half).map V.int)) := by rw [upd_same, List.map_map]; rfl
        have s6 := sameU (u := .lst ((sg z).map fun c => V.int (half c))) hD2
        generalize upd H5 D2 (.lst ((sg z).map fun c => V.int (half c))) = H6 at s6 g2
        obtain ⟨r1, r2⟩ := range_half z.length hz
        refine ⟨_, rfl, z, rfl, bz, _, _, _, rfl, by decide, by decide, r1, by rw [r2]; (first | lia | omega), ?_⟩
        rw [r2]
        refine comp_rangeS (fun k => V.int (byteAt (sg z) k)) (by (first | lia | omega)) (fun i hi Hx R sx hR => ?_) fun D hD => ?_
        · have hi2 : 2 * i + 1 < (sg z).length := by (first | lia | omega)
          refine ⟨Sub.set rfl, _, rfl, _, rfl, D2, _, _, _, rfl, rfl, SqL.of (sx _ _ g2), halves_at (2 * i) (by (first | lia | omega)) (by (first | lia | omega)), _, _, rfl, rfl, .inl ⟨by decide, by decide⟩, ?_⟩
          refine ⟨_, rfl, _, rfl, _, _, rfl, rfl, D2, _, _, _, rfl, rfl, SqL.of (sx _ _ g2), halves_at (2 * i + 1) (by (first | lia | omega)) hi2, _, _, rfl, rfl, ?_⟩
          show R (.int (16 * half ((sg z).getD (2 * i) 0) + half ((sg z).getD (2 * i + 1) 0))) Hx
          rw [Int.mul_comm]
          exact hR
        · have en : ((((z.length + 1) / 2 : Nat) : Int)).toNat = z.length / 2 := by (first | lia | omega)
          rw [en, byteAt_map] at *
          refine ⟨(s5.trans s6).trans (sameU hD), _, .list (((List.range (z.length / 2)).map (byteAt (sg z))).map PyData.int), _, .lst (SqL.of (keepH (s6 _ _ gf) hD)) (datVs_ints _), .lst (SqL.of upd_same) (datVs_ints _), shaped_ints _, eqv_selfI _, rfl⟩
    clear s5 hdue hfo
    rintro σ H7 ⟨s7, dv', pd, v9, hd1, hd2, hsh, heq, rfl⟩
    refine hU _ _ _ ?_
    clear hU
    refine hideC fun U hU => ?_
    refine ⟨fun σ H' => Same H7 H' ∧ ∃ v, Th K H' v ∧ isS v = false ∧ σ = [some (.int c), some (.str z0), v2, v3, v4, some (.str z), some (.ref D1), some dv', some (.ref r), v9, some v], ?_, ?_⟩
    · refine ⟨by show 1 ≤ sizeLine; decide, fun p1 h1 => ⟨by show 1 ≤ sizeLine; decide, fun p2 h2 => fun p3 h3 => ⟨small (by show 6 ≤ 1000; decide), fun p4 h4 => ?_⟩⟩⟩
      have e1 := keepH (u := .lst [.non, .int 5, .ref p1, .ref p2, .bl true, .ref p3]) (keepH (u := .dK []) (keepH (u := .tup [.int 0]) (upd_same (H := H7) (a := p1) (o := .lst [.str (Str.ofString "00")])) h2) h3) h4
      have e2 := keepH (u := .lst [.non, .int 5, .ref p1, .ref p2, .bl true, .ref p3]) (keepH (u := .dK []) (upd_same (H := upd H7 p1 (.lst [.str (Str.ofString "00")])) (a := p2) (o := .tup [.int 0])) h3) h4
      have e3 := keepH (u := .lst [.non, .int 5, .ref p1, .ref p2, .bl true, .ref p3]) (upd_same (H := upd (upd H7 p1 (.lst [.str (Str.ofString "00")])) p2 (.tup [.int 0])) (a := p3) (o := .dK [])) h4
      have sm := ((sameU (u := .lst [.str (Str.ofString "00")]) h1).trans (sameU (u := .tup [.int 0]) h2)).trans ((sameU (u := .dK []) h3).trans (sameU (u := .lst [.non, .int 5, .ref p1, .ref p2, .bl true, .ref p3]) h4))
      refine ⟨_, rfl, _, _, rfl, rfl, ⟨by decide, by decide⟩, _, _, rfl, rfl, (by show (0 : Int) < 6; decide), ?_⟩
      refine ixv (K := K) [.non, .int 5, .ref p1, .ref p2, .bl true, .ref p3] (Pv := fun v => Th K _ v ∧ isS v = false) upd_same (Int.emod_nonneg _ (by decide)) (Int.emod_lt_of_pos _ (by decide)) (fun v hv => ?_) fun v hv => ⟨sm, v, hv.1, hv.2, rfl⟩
      simp only [List.mem_cons, List.not_mem_nil, or_false] at hv
      rcases hv with rfl | rfl | rfl | rfl | rfl | rfl
      · exact ⟨.non, rfl⟩
      · exact ⟨.int _, rfl⟩
      · exact ⟨.obj (.lst e1) (.inl rfl), rfl⟩
      · exact ⟨.obj (.tup e2) (.inr (.inl rfl)), rfl⟩
      · exact ⟨.bl _, rfl⟩
      · exact ⟨.obj (.dK e3) (.inr (.inr rfl)), rfl⟩
    rintro σ H8 ⟨s8, v, hv, hns, rfl⟩
    refine hU _ _ _ ?_
    clear hU
    obtain ⟨t, ty, _, _, ks⟩ := th_kit T hv
    rw [hns] at ks
    refine ⟨_, rfl, _, rfl, pd, pd, datV_same s8 hd1, datV_same s8 hd2, hsh, hsh, _, rfl, ?_⟩
    rw [heq]
    refine iteT ⟨_, rfl, 4, v, rfl, .inr (.inr (.inr (.inr ⟨rfl, .inl ⟨t, ty, ks, fun r2 H9 hr2 s9 g9 => ?_⟩⟩)))⟩
    refine ⟨by show 3 ≤ sizeLine; decide, fun l9 hl9 => ?_⟩
    refine ⟨_, _, dat_t3 (keepH g9 hl9), dat_t3 upd_same, shaped_t3 _, shaped_t3 _, ?_⟩
    show Q (.bl (PyData.eqv (.list [.str "text", .int 0, .bool false]) (.list [.str "text", .int 0, .bool false]))) _
    rw [eqv_t3]
    exact q _ (((s7.trans s8).trans s9).trans (sameU hl9))
end
end K4

set_option genSizeOf false
namespace K4
open PySem L2
seal L2.PE L2.PS L2.PSs L2.PA L2.PT L2.PW L2.PG L2.PGs L2.PI L2.PO
theorem sg_app (x y : Str) : sg (x ++ y) = sg x ++ sg y := by
  show (x ++ y).cps.toList = _
  rw [PySem.Str.cps_append, Array.toList_append]
theorem foldl_cps (ps : List Str) : ∀ a : Array Nat, (ps.foldl (fun acc p => acc ++ (Str.ofString "").cps ++ p.cps) a).toList = a.toList ++ (ps.map sg).flatten := by
  induction ps with
  | nil => intro a; simp
  | cons p ps ih =>
    intro a
    rw [List.foldl_cons, ih, List.map_cons, List.flatten_cons, Array.toList_append, Array.toList_append]
    show a.toList ++ [] ++ p.cps.toList ++ _ = _
    simp
theorem sg_join (ys : List Str) : sg (Txt.join "" ys) = (ys.map sg).flatten := by
  cases ys with
  | nil => rfl
  | cons y ys =>
    show ((List.drop 1 (y :: ys)).foldl (fun acc p => acc ++ (Str.ofString "").cps ++ p.cps) ((y :: ys).headD Str.empty).cps).toList = _
    rw [foldl_cps]
    rfl
theorem sg_hex2 (b : Nat) : sg (hex2 b) = [hx (b / 16), hx (b % 16)] := by
  unfold hex2
  rw [sg_app]
  rfl
theorem sg_rtext (bs : List Nat) : sg (rtext bs) = (bs.map fun b => [hx (b / 16), hx (b % 16)]).flatten := by
  show sg (Txt.join "" (bs.map hex2)) = _
  rw [sg_join, List.map_map, show (sg ∘ hex2) = fun b => [hx (b / 16), hx (b % 16)] from funext sg_hex2]
theorem half_hx : ∀ d, d < 16 → half (hx d) = (d : Int) ∧ bad (hx d) = false := by decide +kernel
theorem flat_len (bs : List Nat) : ((bs.map fun b => [hx (b / 16), hx (b % 16)]).flatten).length = 2 * bs.length := by
  induction bs with
  | nil => rfl
  | cons b r ih => rw [List.map_cons, List.flatten_cons, List.length_append, ih]; show 2 + 2 * r.length = 2 * (r.length + 1); (first | lia | omega)
theorem flat_at (bs : List Nat) : ∀ k, ((bs.map fun b => [hx (b / 16), hx (b % 16)]).flatten).getD (2 * k) 0 = (if k < bs.length then hx (bs.getD k 0 / 16) else 0) ∧ ((bs.map fun b => [hx (b / 16), hx (b % 16)]).flatten).getD (2 * k + 1) 0 = (if k < bs.length then hx (bs.getD k 0 % 16) else 0) := by
  induction bs with
  | nil => intro k; simp
  | cons b r ih =>
    intro k
    cases k with
    | zero => simp
    | succ k =>
      obtain ⟨h1, h2⟩ := ih k
      have e1 : 2 * (k + 1) = (2 * k) + 1 + 1 := by (first | lia | omega)
      have e2 : 2 * (k + 1) + 1 = (2 * k + 1) + 1 + 1 := by (first | lia | omega)
      rw [List.map_cons, List.flatten_cons, e2, e1]
      simp only [List.cons_append, List.nil_append, List.getD_cons_succ, List.length_cons, Nat.add_lt_add_iff_right]
      exact ⟨h1, h2⟩
theorem rtext_len (bs : List Nat) : (rtext bs).length = 2 * bs.length := by
  have : (sg (rtext bs)).length = (rtext bs).length := by simp [sg, PySem.Str.length]
  rw [← this, sg_rtext, flat_len]
theorem rtext_good {bs : List Nat} (h : ∀ b ∈ bs, b < 256) : ∀ c ∈ sg (rtext bs), bad c = false := by
  rw [sg_rtext]
  intro c hc
  obtain ⟨l, hl, hcl⟩ := List.mem_flatten.mp hc
  obtain ⟨b, hb, rfl⟩ := List.mem_map.mp hl
  have := h b hb
  simp only [List.mem_cons, List.not_mem_nil, or_false] at hcl
  rcases hcl with rfl | rfl
  · exact (half_hx _ (by (first | lia | omega))).2
  · exact (half_hx _ (by (first | lia | omega))).2
theorem rtext_bytes {bs : List Nat} (h : ∀ b ∈ bs, b < 256) : ((List.range ((rtext bs).length / 2)).map fun k => V.int (byteAt (sg (rtext bs)) k)) = natV bs := by
  rw [rtext_len, show 2 * bs.length / 2 = bs.length by (first | lia | omega)]
  unfold natV
  apply List.ext_getElem?
  intro k
  rw [List.getElem?_map, List.getElem?_map]
  by_cases hk : k < bs.length
  · rw [List.getElem?_range hk, List.getElem?_eq_getElem hk]
    show some (V.int (byteAt (sg (rtext bs)) k)) = some (V.int ((bs[k] : Nat) : Int))
    have hb := h _ (List.getElem_mem hk)
    obtain ⟨f1, f2⟩ := flat_at bs k
    rw [if_pos hk] at f1 f2
    rw [List.getD_eq_getElem?_getD (l := bs), List.getElem?_eq_getElem hk] at f1 f2
    unfold byteAt
    rw [sg_rtext, f1, f2]
    simp only [Option.getD_some]
    rw [(half_hx _ (show bs[k] / 16 < 16 by (first | lia | omega))).1, (half_hx _ (show bs[k] % 16 < 16 by (first | lia | omega))).1]
    congr 2
    (first | lia | omega)
  · rw [List.getElem?_eq_none (by rw [List.length_range]; (first | lia | omega)), List.getElem?_eq_none (by (first | lia | omega))]
    rfl
theorem Row.same {H H' : Hp} {x : V} {bs : List Nat} (s : Same H H') (h : Row H x bs) : Row H' x bs := by
  obtain ⟨p, e, g, r⟩ := h
  exact ⟨p, e, g.imp (s _ _) (s _ _), r⟩
theorem Rw.same {K : PySem.W.Frag} {H H' : Hp} {x : V} {g : Bool} (s : Same H H') (h : Rw K H x g) : Rw K H' x g := by
  rcases h with ⟨p, xs, e, g1, hl, ht, hg⟩ | ⟨e, t, ty, k1, k2, k3⟩
  · exact .inl ⟨p, xs, e, g1.imp (s _ _) (s _ _), hl, fun v hv => (ht v hv).same s, hg⟩
  · exact .inr ⟨e, t, k3 _ s, k1, k2, fun H2 s2 => k3 _ (s.trans s2)⟩
theorem ndJC : ((["_law_j"] : List Str) ++ (["_law_cell"] : List Str)).Nodup := by decide +kernel
section
variable {P : Program} {w : World} {K : PySem.W.Frag} {mg : Str → Option Value} {base : Heap} {a : Ad}
set_option maxHeartbeats 4000000 in
theorem ok_rows (T : Tx K mg a) : FnOk P w K mg base CX0 8 a.f_rows a.d_rows ["_law_cell"] sp_unit := by
  have G_mixed : FnOk P w K mg base CX0 1 a.f_mixed a.d_mixed ["_law_cell", "_law_k"] sp_mixed := ok_mixed T
  have G_check : FnOk P w K mg base (XC P w true) 5 a.f_check a.d_check ["row"] (sp_check K a.BadRow) := ok_check T
  have G_row_text : FnOk P w K mg base (XC P w true) 5 a.f_row_text a.d_row_text ["row"] (sp_row_text K a.BadRow) := ok_row_text T
  have G_row_of : FnOk P w K mg base (XC P w true) 3 a.f_row_of a.d_row_of ["text"] (sp_row_of K a.BadText) := ok_row_of T
  have G_l_check : FnOk P w K mg base CX0 1 a.f_l_check a.d_l_check ["_law_row"] sp_l_check := ok_l_check T
  have G_bytes : FnOk P w K mg base CX0 1 a.f_bytes a.d_bytes ["_law_found", "_law_due"] sp_bytes := ok_bytes T
  have G_refused : FnOk P w K mg base CX0 6 a.f_refused a.d_refused ["_law_way", "_law_thing"] (sp_refused K) := ok_refused T
  have G_text : FnOk P w K mg base CX0 7 a.f_text a.d_text ["_law_cell", "_law_text_here"] sp_text := ok_text T
  refine T.d_rows.F.ok sc_rows (fun vs H Q E h => ?_) (fun cdv A outer s H vs Q E hr h => ?_)
  · obtain ⟨c, rfl, _⟩ := h
    rfl
  · obtain ⟨c, rfl, hc, q⟩ := h
    have hu := hr.units
    refine ⟨_, pss_cons (ps_setComp (i := 1) (ts := ["_law_j"]) (xs := ["_law_cell"]) (js := [0]) rfl ⟨rfl, rfl, by decide +kernel, by decide +kernel, freeIn rfl⟩ (.cons rfl (.inl rfl) rfl .nil) (by decide +kernel) (pi_range1 rfl T.range (pa_cons (pe_op op_mod (pv 0) pe_int) pa_nil))
          (fun C s₀ H₀ fp => pg_name (X := cxC _ _ _ C s₀ H₀ fp) (i := 0) ndJC rfl (Or.inl rfl) (Or.inr rfl))
          (fun C s₀ H₀ fp => pif_nil (X := cxC _ _ _ C s₀ H₀ fp))
          (fun C s₀ H₀ fp => pe_op (X := cxC _ _ _ C s₀ H₀ fp) op_mod (pe_call G_mixed (hr.mono (by decide)) rfl T.d_mixed.m T.d_mixed.F.kp T.d_mixed.b .nil pass0 (pa_cons (pv 1) (pa_cons (pe_op op_add pe_int (pv 0)) pa_nil))) pe_int)
          sc_rows.nd rfl (Or.inl rfl) rfl)
      (pss_cons (ps_set (i := 2) sc_rows.nd rfl (Or.inl rfl) (pe_cut (pe_ifExp (pt_cmpR op_eq (pe_op op_mod (pe_op op_fdiv (pv 0) pe_int) pe_int) pe_int (nomark _)) (pe_callTy call_tuple_of rfl T.tuple bt_tuple (pa_cons (pv 1) pa_nil)) (pe_callTy call_list_of rfl T.list bt_list (pa_cons (pv 1) pa_nil)))))
      (pss_cons (ps_set (i := 3) sc_rows.nd rfl (Or.inl rfl) (pe_bm PySem.F.plainAttrs_str PySem.F.slot_str_join PySem.F.type_str_join mt_join pe_str (pa_cons (pe_comp (ts := ["_law_byte"]) (xs := []) (js := []) rfl ⟨rfl, rfl, by decide +kernel, by decide +kernel, freeIn rfl⟩ .nil (by decide +kernel) (pi_list (pv 1))
          (fun C s₀ H₀ fp => pg_name (X := cxC _ _ _ C s₀ H₀ fp) (i := 0) ndB2 rfl (Or.inl rfl) (Or.inr rfl))
          (fun C s₀ H₀ fp => pif_nil (X := cxC _ _ _ C s₀ H₀ fp))
          (fun C s₀ H₀ fp => pe_op (X := cxC _ _ _ C s₀ H₀ fp) op_add_str (pe_ix ix_str pe_str (pe_op op_fdiv (pv 0) pe_int) (fun _ _ => rfl)) (pe_ix ix_str pe_str (pe_op op_mod (pv 0) pe_int) (fun _ _ => rfl)))) pa_nil)))
      (pss_cons (ps_set (i := 4) sc_rows.nd rfl (Or.inl rfl) (pe_call G_check (hr.mono (by decide)) rfl T.d_check.m T.d_check.F.kp T.d_check.b .nil passX (pa_cons (pv 2) pa_nil)))
      (pss_cons (ps_if (PW.pt (pw_or (pt_val (pe_callB (call_isinstK K rfl) rfl T.isinstance bt_isinstance (pa_cons (pv 4) (pa_cons (pty T.bool bt_bool) pa_nil)))) (pw_or (pt_cmpR op_ne (pv 4) (pe_call G_l_check (hr.mono (by decide)) rfl T.d_l_check.m T.d_l_check.F.kp T.d_l_check.b .nil pass0 (pa_cons (pv 1) pa_nil)) (nomark _)) (pw_or (pt_cmpR op_ne (pe_call G_row_text (hr.mono (by decide)) rfl T.d_row_text.m T.d_row_text.F.kp T.d_row_text.b .nil passX (pa_cons (pv 2) pa_nil)) (pv 3) (nomark _)) (pw_or1 (pt_cmpR (op_neD hu) (pe_callTy call_list_of rfl T.list bt_list (pa_cons (pv 2) pa_nil)) (pv 1) (nomark _)))))))
        (pss_one (ps_ret pe_bl))
        pss_nil)
      (pss_cons (ps_for PassesOwn.never rfl (pi_range1 rfl T.range (pa_cons pe_int pa_nil)) (pg_name (i := 5) sc_rows.nd rfl (Or.inl rfl))
        (pss_cons (ps_set (i := 6) sc_rows.nd rfl (Or.inl rfl) (pe_call G_row_of (hr.mono (by decide)) rfl T.d_row_of.m T.d_row_of.F.kp T.d_row_of.b .nil passX (pa_cons (pv 3) pa_nil)))
          (pss_cons (ps_if (pt_not (pt_val (pe_call G_bytes (hr.mono (by decide)) rfl T.d_bytes.m T.d_bytes.F.kp T.d_bytes.b .nil pass0 (pa_cons (pv 6) (pa_cons (pv 1) pa_nil)))))
            (pss_one (ps_ret pe_bl))
            pss_nil)
          (pss_one (ps_expr (pe_bm PySem.F.plainAttrs_list PySem.F.slot_list_append PySem.F.type_list_append mt_append (pv 6) (pa_cons pe_int pa_nil)))))))
      (pss_cut (ps_set (i := 7) sc_rows.nd rfl (Or.inl rfl) (pe_ixb (peb_lst (pab_c peb_non (pab_c peb_int (pab_c peb_str (pab_c peb_dnewK (pab_c (peb_lst (pab_c peb_int pab_nil)) (pab_c (peb_lst (pab_c (peb_neg peb_int) pab_nil)) (pab_c (peb_lst (pab_c peb_bl pab_nil)) (pab_c (peb_lst (pab_c peb_str pab_nil)) (pab_c (peb_lst (pab_c peb_non pab_nil)) (pab_c (peb_tup (pab_c peb_int (pab_c peb_non pab_nil))) (pab_c (peb_lst (pab_c (peb_lst (pab_c peb_int pab_nil)) pab_nil)) (pab_c peb_bl pab_nil))))))))))))) (pe_op op_mod (pe_op op_fdiv (pv 0) pe_int) pe_int) (fun _ _ => rfl)))
      (pss_one (ps_ret (pe_and (pe_cmpR (op_eqD hu) (pe_call G_refused (hr.mono (by decide)) rfl T.d_refused.m T.d_refused.F.kp T.d_refused.b .nil pass0 (pa_cons pe_int (pa_cons (pv 7) pa_nil))) (pe_lst (pa_cons pe_str pa_nil)) (nomark _)) (pe_and (pe_cmpR (op_eqD hu) (pe_call G_refused (hr.mono (by decide)) rfl T.d_refused.m T.d_refused.F.kp T.d_refused.b .nil pass0 (pa_cons pe_int (pa_cons (pv 7) pa_nil))) (pe_lst (pa_cons pe_str pa_nil)) (nomark _)) (pe_one (pe_call G_text hr rfl T.d_text.m T.d_text.F.kp T.d_text.b .nil pass0 (pa_cons (pe_op op_fdiv (pv 0) pe_int) (pa_cons (pv 3) pa_nil)))))))))))))), ?_⟩
    refine hide1 fun U hU => ?_
    have cbit : Builtin.Int.intBits (c : Int) ≤ 1048576 := bits_small (by (first | lia | omega)) (by (first | lia | omega))
    refine ⟨_, rfl, _, _, rfl, rfl, (by show (0 : Int) < 13; decide), _, rfl, by (first | lia | omega), by (first | lia | omega), ?_⟩
    refine comp_range (fun i => .int (mixed c (300 + (0 + i)) % 256)) (Nat.le_of_lt (small1000 (by (first | lia | omega)))) (fun i hi H' R hR => ?_) fun D1 hD1 => ?_
    · exact ⟨Sub.set rfl, _, rfl, _, rfl, _, _, rfl, rfl, c, _, rfl, cbit, by (first | lia | omega), by (first | lia | omega), _, _, rfl, rfl, (by show (0 : Int) < 256; decide), hR⟩
    obtain ⟨ns, en, ln, bn⟩ : ∃ ns : List Nat, ((List.range ((c : Int) % 13).toNat).map fun (i : Nat) => V.int (mixed c (300 + (0 + i)) % 256)) = natV ns ∧ ns.length ≤ 12 ∧ ∀ n ∈ ns, n < 256 := by
      refine ⟨(List.range ((c : Int) % 13).toNat).map fun (i : Nat) => (mixed c (300 + (0 + i)) % 256).toNat, ?_, by rw [List.length_map, List.length_range]; (first | lia | omega), fun n hn => ?_⟩
      · unfold natV
        rw [List.map_map]
        apply List.map_congr_left
        intro i _
        have := Int.emod_nonneg (mixed c (300 + (0 + i))) (show (256 : Int) ≠ 0 by decide)
        show V.int _ = V.int _
        rw [Int.toNat_of_nonneg this]
      · obtain ⟨i, _, rfl⟩ := List.mem_map.mp hn
        omega
    rw [en]
    have s1 := sameU (u := .lst (natV ns)) hD1
    have g1 : (upd H D1 (.lst (natV ns))) D1 = some (.lst (natV ns)) := upd_same
    generalize upd H D1 (.lst (natV ns)) = H1 at s1 g1
    -- handed
    refine hU _ _ _ ?_
    clear hU
    refine hide1 fun U hU => ?_
    refine ⟨fun v H' => Same H1 H' ∧ Row H' v ns, ?_, ?_⟩
    · refine ⟨_, rfl, _, _, rfl, rfl, ⟨by decide, by decide⟩, _, _, rfl, rfl, (by show (0 : Int) < 2; decide), rfl, _, rfl, ite2 (fun _ => ?_) (fun _ => ?_)⟩
      · exact ⟨_, rfl, D1, _, rfl, .inl ⟨SqL.of g1, fun l hl => ⟨sameU hl, l, rfl, .inr upd_same, by (first | lia | omega), bn⟩⟩⟩
      · exact ⟨_, rfl, D1, _, rfl, .inl (SqL.of g1), fun l hl => ⟨sameU hl, l, rfl, .inl upd_same, by (first | lia | omega), bn⟩⟩
    rintro hv H2 ⟨s2, hrow⟩
    have g2 := s2 _ _ g1
    refine hU _ _ _ ?_
    clear hU
    refine hide1 fun U hU => ?_
    -- the text
    have siz : SIG.length ≤ sizeLine := small (by decide +kernel)
    have emap : (natV ns).map (fun v => match v with | .int i => V.str (hex2 i.toNat) | v => v) = (ns.map hex2).map V.str := by
      unfold natV
      rw [List.map_map, List.map_map]
      rfl
    refine ⟨rfl, _, rfl, D1, rfl, ⟨_, SqL.of g2⟩, comp_listM (fun v => match v with | .int i => V.str (hex2 i.toNat) | v => v) (SqL.of g2) (by rw [natV_len]; (first | lia | omega)) (fun x hmem Hx R _ hR => ?_) fun D2 hD2 => ?_⟩
    · obtain ⟨b, hbm, rfl⟩ := List.mem_map.mp hmem
      have hb2 := bn b hbm
      refine ⟨Sub.set rfl, _, rfl, _, _, rfl, rfl, ⟨by decide, by decide⟩, SIG, _, hx (b / 16), rfl, rfl, siz, ?_, _, rfl, _, _, rfl, rfl, (by show (0 : Int) < 16; decide), SIG, _, hx (b % 16), rfl, rfl, siz, ?_, _, _, rfl, rfl, small (by show 1 + 1 ≤ 1000; decide), hR⟩
      · rw [show (b : Int) / 16 = ((b / 16 : Nat) : Int) by (first | lia | omega)]
        exact hx_at (by (first | lia | omega))
      · rw [show (b : Int) % 16 = ((b % 16 : Nat) : Int) by (first | lia | omega)]
        exact hx_at (by (first | lia | omega))
    rw [emap]
    refine ⟨_, D2, ns.map hex2, rfl, rfl, SqL.of upd_same, by rw [hex_sum]; show 2 * ns.length + _ * 0 ≤ _; (first | lia | omega), ?_⟩
    have s3 := s2.trans (sameU (u := .lst ((ns.map hex2).map V.str)) hD2)
    have hrow3 := hrow.same (sameU (u := .lst ((ns.map hex2).map V.str)) hD2)
    generalize upd H2 D2 (.lst ((ns.map hex2).map V.str)) = H3 at s3 hrow3
    have zl : (rtext ns).length = 2 * ns.length := rtext_len ns
    refine hU _ _ _ ?_
    clear hU
    show tSeq _ _ _ [some (.int c), some (.ref D1), some hv, some (.str (rtext ns)), none, none, none, none] H3
    refine hide2 fun U hU => ?_
    refine ⟨_, rfl, hv, rfl, .inl ⟨ns, hrow3, fun H4 s4 => ?_⟩⟩
    have s4' := s3.trans s4
    refine ⟨_, rfl, .int _, .ty "bool", .type "int", .type "bool", false, rfl, .int _, rfl, T.q_int_bool, false, rfl, iteF ?_⟩
    refine ⟨_, rfl, _, rfl, D1, ns, rfl, s4' _ _ g1, bn, rfl, _, rfl, iteNS rfl ?_⟩
    refine ⟨_, rfl, hv, rfl, .inl ⟨ns, hrow3.same s4, fun H5 s5 => ⟨_, rfl, rfl, _, rfl, iteNS rfl ?_⟩⟩⟩
    have s5' := s4'.trans s5
    obtain ⟨p, rfl, hp, _, _⟩ := (hrow3.same s4).same s5
    have eNs := natV_ints ns
    have hp' : SqL K H5 p (natV ns) ∨ SqT K H5 p (natV ns) := hp.imp SqL.of SqT.of
    refine ⟨_, rfl, p, _, rfl, hp', fun l6 hl6 => ⟨_, rfl, ?_⟩⟩
    refine ⟨.list ((ns.map fun (n : Nat) => (n : Int)).map PyData.int), .list ((ns.map fun (n : Nat) => (n : Int)).map PyData.int), .lst (SqL.of (by rw [← eNs]; exact upd_same)) (datVs_ints _), .lst (SqL.of (by rw [← eNs]; exact keepH (s5' _ _ g1) hl6)) (datVs_ints _), shaped_ints _, shaped_ints _, _, rfl, ?_⟩
    rw [eqv_nat]
    refine iteF ?_
    have s6 := (s1.trans s5').trans (sameU (u := .lst (natV ns)) hl6)
    have g6 := keepH (u := .lst (natV ns)) (s5' _ _ g1) hl6
    generalize upd H5 l6 (.lst (natV ns)) = H6 at s6 g6
    -- two turns
    refine hU _ _ _ ?_
    clear hU
    refine hide1 fun U hU => ?_
    refine ⟨2, rfl, by decide, by decide, for_range (n := 2) (fun i σ H' => Same H6 H' ∧ ∃ v5 v6, σ = [some (.int c), some (.ref D1), some (.ref p), some (.str (rtext ns)), some (.int ((crcL ns : Nat) : Int)), v5, v6, none]) ⟨Same.refl _, none, none, rfl⟩ ?_ ?_⟩
    · rintro i σ H7 hi ⟨s7, v5, v6, rfl⟩
      refine ⟨_, rfl, .str (rtext ns), rfl, .inr ⟨rtext ns, rfl, by (first | lia | omega), fun j d h1 h2 _ => ?_, fun _ h2 => absurd h2 (by (first | lia | omega)), fun _ _ t1 H8 ht1 s8 g8 => ?_⟩⟩
      · have := rtext_good bn d (List.mem_of_getElem? h1)
        rw [h2] at this
        cases this
      rw [rtext_bytes bn] at g8
      refine ⟨_, rfl, _, rfl, t1, D1, ns, rfl, g8, s8 _ _ (s7 _ _ g6), by (first | lia | omega), fun H9 s9 => ⟨true, rfl, iteF ?_⟩⟩
      have g9 := s9 _ _ g8
      refine ⟨_, rfl, .inl ⟨rfl, _, SqL.of g9⟩, t1, _, _, rfl, rfl, g9, by rw [natV_len]; exact small1000 (by (first | lia | omega)), ?_⟩
      exact ⟨((s7.trans s8).trans s9).put (s7.free ht1), _, _, rfl⟩
    rintro σ H7 ⟨s7, v5, v6, rfl⟩
    refine hU _ _ _ ?_
    clear hU
    refine hideC fun U hU => ?_
    have s7' := s6.trans s7
    -- odd
    refine ⟨fun σ H' => Same H7 H' ∧ ∃ v, Rw K H' v false ∧ σ = [some (.int c), some (.ref D1), some (.ref p), some (.str (rtext ns)), some (.int ((crcL ns : Nat) : Int)), v5, v6, some v], ?_, ?_⟩
    · refine fun p1 h1 => ⟨by decide, fun p2 h2 => ⟨_, rfl, by decide, fun p3 h3 => ⟨by decide, fun p4 h4 => ⟨by decide, fun p5 h5 => ⟨by decide, fun p6 h6 => ⟨by decide, fun p7 h7 => ⟨by decide, fun p8 h8 => ⟨by show 1 ≤ sizeLine; decide, fun p9 h9 => ⟨small (by show 12 ≤ 1000; decide), fun p10 h10 => ?_⟩⟩⟩⟩⟩⟩⟩⟩⟩
      refine ⟨_, rfl, _, _, rfl, rfl, ⟨by decide, by decide⟩, _, _, rfl, rfl, (by show (0 : Int) < 12; decide), ?_⟩
      refine ixv (K := K) [.non, .int 5, .str "00", .ref p1, .ref p2, .ref p3, .ref p4, .ref p5, .ref p6, .ref p7, .ref p9, .bl true] (Pv := fun v => Rw K _ v false) upd_same (Int.emod_nonneg _ (by decide)) (Int.emod_lt_of_pos _ (by decide)) (fun v hv => ?_) fun v hv => ⟨?_, v, hv, rfl⟩
      · simp only [List.mem_cons, List.not_mem_nil, or_false] at hv
        rcases hv with rfl | rfl | rfl | rfl | rfl | rfl | rfl | rfl | rfl | rfl | rfl | rfl
        · exact .inr ⟨rfl, _, .non, T.q_NoneType_list, T.q_NoneType_tuple, fun _ _ => .non⟩
        · exact .inr ⟨rfl, _, .int _, T.q_int_list, T.q_int_tuple, fun _ _ => .int _⟩
        · exact .inr ⟨rfl, _, .str _, T.q_str_list, T.q_str_tuple, fun _ _ => .str _⟩
        · refine .inr ⟨rfl, _, .dK (kvs := []) ?_, T.q_dict_list, T.q_dict_tuple, fun H9 s => .dK (kvs := []) (s _ _ ?_)⟩
          · repeat (first | exact upd_same | refine keepH ?_ (by assumption))
          · repeat (first | exact upd_same | refine keepH ?_ (by assumption))
        · exact .inl ⟨p2, [.int 256], rfl, .inl (by repeat (first | exact upd_same | refine keepH ?_ (by assumption))), by decide, fun v hv => by rw [List.mem_singleton.mp hv]; exact .int _, rfl⟩
        · exact .inl ⟨p3, [.int (-1)], rfl, .inl (by repeat (first | exact upd_same | refine keepH ?_ (by assumption))), by decide, fun v hv => by rw [List.mem_singleton.mp hv]; exact .int _, rfl⟩
        · exact .inl ⟨p4, [.bl true], rfl, .inl (by repeat (first | exact upd_same | refine keepH ?_ (by assumption))), by decide, fun v hv => by rw [List.mem_singleton.mp hv]; exact .bl _, rfl⟩
        · exact .inl ⟨p5, [.str "0"], rfl, .inl (by repeat (first | exact upd_same | refine keepH ?_ (by assumption))), by decide, fun v hv => by rw [List.mem_singleton.mp hv]; exact .str _, rfl⟩
        · exact .inl ⟨p6, [.non], rfl, .inl (by repeat (first | exact upd_same | refine keepH ?_ (by assumption))), by decide, fun v hv => by rw [List.mem_singleton.mp hv]; exact .non, rfl⟩
        · refine .inl ⟨p7, [.int 0, .non], rfl, .inr (by repeat (first | exact upd_same | refine keepH ?_ (by assumption))), by decide, fun v hv => ?_, rfl⟩
          simp only [List.mem_cons, List.not_mem_nil, or_false] at hv
          rcases hv with rfl | rfl
          · exact .int _
          · exact .non
        · refine .inl ⟨p9, [.ref p8], rfl, .inl (by repeat (first | exact upd_same | refine keepH ?_ (by assumption))), by show 1 ≤ 1000; decide, fun v hv => ?_, rfl⟩
          rw [List.mem_singleton.mp hv]
          exact .obj (.lst (xs := [.int 0]) (by repeat (first | exact upd_same | refine keepH ?_ (by assumption)))) (.inl rfl)
        · exact .inr ⟨rfl, _, .bl _, T.q_bool_list, T.q_bool_tuple, fun _ _ => .bl _⟩
      · exact ((((((((sameU h1).trans (sameU h2)).trans (sameU h3)).trans (sameU h4)).trans (sameU h5)).trans (sameU h6)).trans (sameU h7)).trans (sameU h8)).trans ((sameU h9).trans (sameU h10))
    rintro σ H8 ⟨s8, v, hv, rfl⟩
    refine hU _ _ _ ?_
    clear hU
    refine ⟨_, rfl, 2, v, rfl, .inr (.inr (.inl ⟨rfl, hv, fun r H9 hr9 s9 g9 => ?_⟩))⟩
    refine ⟨by show 1 ≤ sizeLine; decide, fun l9 hl9 => ?_⟩
    refine ⟨.list [.str "row"], .list [.str "row"], .lst (SqL.of (keepH g9 hl9)) (.cons (.str _) .nil), .lst (SqL.of upd_same) (.cons (.str _) .nil), shaped_w1 (by decide +kernel), shaped_w1 (by decide +kernel), _, rfl, ?_⟩
    rw [show PyData.eqv (.list [.str "row"]) (.list [.str "row"]) = true from by simp [PyData.eqv, PyData.eqvAll]]
    have sA := s9.trans (sameU (u := .lst [.str "row"]) hl9)
    refine iteT ⟨_, rfl, 3, v, rfl, .inr (.inr (.inr (.inl ⟨rfl, hv.same sA, fun r2 H10 hr10 s10 g10 => ?_⟩)))⟩
    refine ⟨by show 1 ≤ sizeLine; decide, fun l10 hl10 => ?_⟩
    refine ⟨.list [.str "row"], .list [.str "row"], .lst (SqL.of (keepH g10 hl10)) (.cons (.str _) .nil), .lst (SqL.of upd_same) (.cons (.str _) .nil), shaped_w1 (by decide +kernel), shaped_w1 (by decide +kernel), _, rfl, ?_⟩
    rw [show PyData.eqv (.list [.str "row"]) (.list [.str "row"]) = true from by simp [PyData.eqv, PyData.eqvAll]]
    refine iteT ⟨_, rfl, _, _, rfl, rfl, ⟨by decide, by decide⟩, _, rfl, c / 312, rtext ns, by rw [show ((c / 312 : Nat) : Int) = (c : Int) / 312 by (first | lia | omega)]; rfl, by (first | lia | omega), by (first | lia | omega), fun H11 s11 => ?_⟩
    exact q _ ((((s7'.trans s8).trans sA).trans (s10.trans (sameU hl10))).trans s11)
end
end K4

set_option genSizeOf false
namespace K4
open PySem L2
seal L2.PE L2.PS L2.PSs L2.PA L2.PT L2.PW L2.PG L2.PGs L2.PI L2.PO
noncomputable def mx (n : Int) : Int := if (if 10 < n then 10 else n) > 3 then (if 10 < n then 10 else n) else 3
theorem mx_lo (n : Int) : 3 ≤ mx n := by unfold mx; split <;> (first | lia | omega)
theorem mx_hi (n : Int) : mx n ≤ 10 := by
  unfold mx
  by_cases h : 10 < n
  · rw [if_pos h]; decide
  · rw [if_neg h]; split <;> (first | lia | omega)
theorem mixed_nat (c k : Int) : ∃ m : Nat, mixed c k = (m : Int) := ⟨(mixed c k).toNat, (Int.toNat_of_nonneg (mixed_nn c k)).symm⟩
section
variable {P : Program} {w : World} {K : PySem.W.Frag} {mg : Str → Option Value} {base : Heap} {a : Ad}
set_option maxHeartbeats 4000000 in
theorem ok_law (T : Tx K mg a) : FnOk P w K mg base CX0 9 a.f_law a.d_law ["_law_script"] (spLaw K) := by
  have G_mixed : FnOk P w K mg base CX0 1 a.f_mixed a.d_mixed ["_law_cell", "_law_k"] sp_mixed := ok_mixed T
  have G_cell_at : FnOk P w K mg base CX0 1 a.f_cell_at a.d_cell_at ["_law_script", "_law_k"] (sp_cell_at K) := ok_cell_at T
  have G_folds : FnOk P w K mg base CX0 7 a.f_folds a.d_folds ["_law_cell"] sp_unit := ok_folds T
  have G_packs : FnOk P w K mg base CX0 7 a.f_packs a.d_packs ["_law_cell"] sp_unit := ok_packs T
  have G_rows : FnOk P w K mg base CX0 8 a.f_rows a.d_rows ["_law_cell"] sp_unit := ok_rows T
  refine T.d_law.F.ok sc_law (fun vs H Q E h => ?_) (fun cdv A outer s H vs Q E hr h => ?_)
  · obtain ⟨a, ns, rfl, _⟩ := h
    rfl
  · obtain ⟨sa, ss, rfl, hS, h63, hb, q⟩ := h
    refine ⟨_, pss_cons (ps_for PassesOwn.never rfl (pi_range2 rfl T.range (pa_cons pe_int (pa_cons (pe_callB (call_max2 rfl) rfl T.max bt_max (pa_cons pe_int (pa_cons (pe_callB (call_min2 rfl) rfl T.min bt_min (pa_cons (pe_callB call_len_seq (by rfl) T.len bt_len (pa_cons (pv 0) pa_nil)) (pa_cons pe_int pa_nil))) pa_nil))) pa_nil))) (pg_name (i := 1) sc_law.nd rfl (Or.inl rfl))
        (pss_cons (ps_set (i := 2) sc_law.nd rfl (Or.inl rfl) (pe_call G_mixed (hr.mono (by decide)) rfl T.d_mixed.m T.d_mixed.F.kp T.d_mixed.b .nil pass0 (pa_cons (pe_call G_cell_at (hr.mono (by decide)) rfl T.d_cell_at.m T.d_cell_at.F.kp T.d_cell_at.b .nil pass0 (pa_cons (pv 0) (pa_cons (pv 1) pa_nil))) (pa_cons (pv 1) pa_nil))))
          (pss_one (ps_for PassesOwn.never rfl (pi_range1 rfl T.range (pa_cons pe_int pa_nil)) (pg_name (i := 3) sc_law.nd rfl (Or.inl rfl))
            (pss_cons (ps_set (i := 4) sc_law.nd rfl (Or.inl rfl) (pe_op op_mod (pe_op op_add (pe_op op_mul (pv 3) (pe_ixb (peb_lst (pab_c peb_int (pab_c peb_int pab_nil))) (pe_op op_mod (pe_op op_fdiv (pv 2) pe_int) pe_int) (fun _ _ => rfl))) (pv 2)) pe_int))
              (pss_cut (ps_if (PW.pt (pw_and (pt_cmpR op_eq (pv 4) pe_int (nomark _)) (pw_and1 (pt_not (pt_val (pe_call G_folds (hr.mono (by decide)) rfl T.d_folds.m T.d_folds.F.kp T.d_folds.b .nil pass0 (pa_cons (pe_op op_fdiv (pv 2) pe_int) pa_nil)))))))
                (pss_one (ps_ret pe_bl))
                pss_nil)
              (pss_cut (ps_if (PW.pt (pw_and (pt_cmpR op_eq (pv 4) pe_int (nomark _)) (pw_and1 (pt_not (pt_val (pe_call G_packs (hr.mono (by decide)) rfl T.d_packs.m T.d_packs.F.kp T.d_packs.b .nil pass0 (pa_cons (pe_op op_fdiv (pv 2) pe_int) pa_nil)))))))
                (pss_one (ps_ret pe_bl))
                pss_nil)
              (pss_one (ps_if (PW.pt (pw_and (pt_cmpR op_eq (pv 4) pe_int (nomark _)) (pw_and1 (pt_not (pt_val (pe_call G_rows hr rfl T.d_rows.m T.d_rows.F.kp T.d_rows.b .nil pass0 (pa_cons (pe_op op_fdiv (pv 2) pe_int) pa_nil)))))))
                (pss_one (ps_ret pe_bl))
                pss_nil)))))))))
      (pss_one (ps_ret pe_bl)), ?_⟩
    refine ⟨_, rfl, sa, _, rfl, .inl hS, _, _, rfl, _, _, rfl, _, _, rfl, ⟨by decide, by decide, ?_, ?_⟩, ?_⟩
    · show -(2 ^ 62) ≤ mx ((ss.map V.int).length : Int)
      have := mx_lo ((ss.map V.int).length : Int)
      (first | lia | omega)
    · show mx ((ss.map V.int).length : Int) < 2 ^ 62
      have := mx_hi ((ss.map V.int).length : Int)
      (first | lia | omega)
    refine for_range (lo := 2) (n := (mx ((ss.map V.int).length : Int) - 2).toNat) (fun i σ H' => Same H H' ∧ ∃ v1 v2 v3 v4, σ = [some (.ref sa), v1, v2, v3, v4]) ⟨Same.refl _, none, none, none, none, rfl⟩ ?_ ?_
    · rintro i σ H1 hi ⟨s1, v1, v2, v3, v4, rfl⟩
      have hmx := mx_hi ((ss.map V.int).length : Int)
      have hi12 : i < 12 := by (first | lia | omega)
      refine ⟨_, rfl, _, rfl, sa, ss, 2 + (i : Int), rfl, s1.seq hS, by (first | lia | omega), _, rfl, cellAt ss (2 + (i : Int)), 2 + (i : Int), rfl, cell_bits hb _, by (first | lia | omega), by (first | lia | omega), ?_⟩
      have hl := mixed_lt (cellAt ss (2 + (i : Int))) (2 + (i : Int))
      obtain ⟨m, em⟩ : ∃ m : Nat, mixed (cellAt ss (2 + (i : Int))) (2 + (i : Int)) = (m : Int) := mixed_nat _ _
      rw [em] at hl ⊢
      have e6 : (m : Int) / 6 = ((m / 6 : Nat) : Int) := by (first | lia | omega)
      refine ⟨3, rfl, by decide, by decide, for_range (n := 3) (fun j σ H2 => Same H1 H2 ∧ ∃ v3 v4, σ = [some (.ref sa), some (.int (2 + (i : Int))), some (.int m), v3, v4]) ⟨Same.refl _, v3, v4, rfl⟩ ?_ ?_⟩
      · rintro j σ H2 hj ⟨s2, w3, w4, rfl⟩
        refine ⟨_, rfl, by show 2 ≤ sizeLine; decide, fun l1 hl1 => ?_⟩
        refine ⟨_, rfl, _, _, rfl, rfl, ⟨by decide, by decide⟩, _, _, rfl, rfl, (by show (0 : Int) < 2; decide), ixi [1, 2] (Pb := fun b => b = 1 ∨ b = 2) upd_same (by (first | lia | omega)) (by show (m : Int) / 3 % 2 < 2; (first | lia | omega)) (by simp) fun b hb2 => ?_⟩
        refine ⟨_, _, rfl, rfl, .inl ⟨by (first | lia | omega), by (first | lia | omega)⟩, _, rfl, _, _, rfl, rfl, _, _, rfl, rfl, (by show (0 : Int) < 3; decide), ?_⟩
        obtain ⟨wy, ewy⟩ : ∃ wy : Int, ((0 + (j : Int)) * b + (m : Int)) % 3 = wy := ⟨_, rfl⟩
        have s3 := s2.trans (sameU (u := .lst [.int 1, .int 2]) hl1)
        generalize upd H2 l1 (.lst [.int 1, .int 2]) = H3 at s3
        show tCut _ _ _ [some (.ref sa), some (.int (2 + (i : Int))), some (.int m), some (.int (0 + (j : Int))), some (.int (((0 + (j : Int)) * b + (m : Int)) % 3))] H3
        rw [ewy]
        refine ⟨fun σ H' => Same H1 H' ∧ σ = [some (.ref sa), some (.int (2 + (i : Int))), some (.int m), some (.int (0 + (j : Int))), some (.int wy)], ?_, ?_⟩
        · refine ⟨_, rfl, rfl, _, rfl, ite2 (fun _ => ?_) (fun _ => iteF ⟨s3, rfl⟩)⟩
          exact ⟨_, rfl, _, _, rfl, rfl, ⟨by decide, by decide⟩, m / 6, by rw [← e6]; rfl, by (first | lia | omega), fun H4 s4 => ⟨true, rfl, iteF ⟨s3.trans s4, rfl⟩⟩⟩
        clear s3
        rintro σ H3 ⟨s3, rfl⟩
        refine ⟨fun σ H' => Same H1 H' ∧ σ = [some (.ref sa), some (.int (2 + (i : Int))), some (.int m), some (.int (0 + (j : Int))), some (.int wy)], ?_, ?_⟩
        · refine ⟨_, rfl, rfl, _, rfl, ite2 (fun _ => ?_) (fun _ => iteF ⟨s3, rfl⟩)⟩
          exact ⟨_, rfl, _, _, rfl, rfl, ⟨by decide, by decide⟩, m / 6, by rw [← e6]; rfl, by (first | lia | omega), fun H4 s4 => ⟨true, rfl, iteF ⟨s3.trans s4, rfl⟩⟩⟩
        clear s3
        rintro σ H3 ⟨s3, rfl⟩
        refine ⟨_, rfl, rfl, _, rfl, ite2 (fun _ => ?_) (fun _ => iteF ⟨s3, _, _, rfl⟩)⟩
        exact ⟨_, rfl, _, _, rfl, rfl, ⟨by decide, by decide⟩, m / 6, by rw [← e6]; rfl, by (first | lia | omega), fun H4 s4 => ⟨true, rfl, iteF ⟨s3.trans s4, _, _, rfl⟩⟩⟩
      · rintro σ H2 ⟨s2, w3, w4, rfl⟩
        exact ⟨s1.trans s2, _, _, _, _, rfl⟩
    · rintro σ H' ⟨s1, v1, v2, v3, v4, rfl⟩
      exact q _
end
end K4

set_option genSizeOf false
namespace K4
open PySem L2
theorem vlen1 {us : List Value} (h : us.length = 1) : ∃ u0, us = [u0] := by
  obtain _ | ⟨u0, us⟩ := us
  · simp at h
  obtain _ | ⟨u, us⟩ := us
  · exact ⟨_, rfl⟩
  · simp at h
theorem vlen2 {us : List Value} (h : us.length = 2) : ∃ u0 u1, us = [u0, u1] := by
  obtain _ | ⟨u0, us⟩ := us
  · simp at h
  obtain _ | ⟨u1, us⟩ := us
  · simp at h
  obtain _ | ⟨u, us⟩ := us
  · exact ⟨_, _, rfl⟩
  · simp at h
theorem vlen3 {us : List Value} (h : us.length = 3) : ∃ u0 u1 u2, us = [u0, u1, u2] := by
  obtain _ | ⟨u0, us⟩ := us
  · simp at h
  obtain _ | ⟨u1, us⟩ := us
  · simp at h
  obtain _ | ⟨u2, us⟩ := us
  · simp at h
  obtain _ | ⟨u, us⟩ := us
  · exact ⟨_, _, _, rfl⟩
  · simp at h
theorem vlen4 {us : List Value} (h : us.length = 4) : ∃ u0 u1 u2 u3, us = [u0, u1, u2, u3] := by
  obtain _ | ⟨u0, us⟩ := us
  · simp at h
  obtain _ | ⟨u1, us⟩ := us
  · simp at h
  obtain _ | ⟨u2, us⟩ := us
  · simp at h
  obtain _ | ⟨u3, us⟩ := us
  · simp at h
  obtain _ | ⟨u, us⟩ := us
  · exact ⟨_, _, _, _, rfl⟩
  · simp at h
theorem vlen5 {us : List Value} (h : us.length = 5) : ∃ u0 u1 u2 u3 u4, us = [u0, u1, u2, u3, u4] := by
  obtain _ | ⟨u0, us⟩ := us
  · simp at h
  obtain _ | ⟨u1, us⟩ := us
  · simp at h
  obtain _ | ⟨u2, us⟩ := us
  · simp at h
  obtain _ | ⟨u3, us⟩ := us
  · simp at h
  obtain _ | ⟨u4, us⟩ := us
  · simp at h
  obtain _ | ⟨u, us⟩ := us
  · exact ⟨_, _, _, _, _, rfl⟩
  · simp at h
theorem vlen6 {us : List Value} (h : us.length = 6) : ∃ u0 u1 u2 u3 u4 u5, us = [u0, u1, u2, u3, u4, u5] := by
  obtain _ | ⟨u0, us⟩ := us
  · simp at h
  obtain _ | ⟨u1, us⟩ := us
  · simp at h
  obtain _ | ⟨u2, us⟩ := us
  · simp at h
  obtain _ | ⟨u3, us⟩ := us
  · simp at h
  obtain _ | ⟨u4, us⟩ := us
  · simp at h
  obtain _ | ⟨u5, us⟩ := us
  · simp at h
  obtain _ | ⟨u, us⟩ := us
  · exact ⟨_, _, _, _, _, _, rfl⟩
  · simp at h
theorem all_mk {l : PySem.W.OpenLaw} {w : World} {K : PySem.W.Frag} {h : Heap} {mg : Str → Option Value} {fa C_FormError C_BadNumber C_BadRow C_BadCheck C_NoKey C_BadVersion C_BadBook C_BadValue C_BadText C_BadWire C_NotKin f1 f2 f3 f4 f5 f6 f7 f8 f9 f10 f11 f12 f13 f14 f15 f16 f17 f18 f19 f20 f21 f22 f23 f24 f25 f26 f27 : Addr} (X : K.In h) (G : h.Ns mainGlobals mg) (hfa : mg "law" = some (.ref fa))
    {od1 an1 : Option Addr} {sl1 : Array (Option Value)} {oc1 kV1 dc1 pm1 cd1 ct1 : Value}
    {od2 an2 : Option Addr} {sl2 : Array (Option Value)} {oc2 kV2 dc2 pm2 cd2 ct2 : Value}
    {od3 an3 : Option Addr} {sl3 : Array (Option Value)} {oc3 kV3 dc3 pm3 cd3 ct3 : Value}
    {od4 an4 : Option Addr} {sl4 : Array (Option Value)} {oc4 kV4 dc4 pm4 cd4 ct4 : Value}
    {od5 an5 : Option Addr} {sl5 : Array (Option Value)} {oc5 kV5 dc5 pm5 cd5 ct5 : Value}
    {od6 an6 : Option Addr} {sl6 : Array (Option Value)} {oc6 kV6 dc6 pm6 cd6 ct6 : Value}
    {od7 an7 : Option Addr} {sl7 : Array (Option Value)} {oc7 kV7 dc7 pm7 cd7 ct7 : Value}
    {od8 an8 : Option Addr} {sl8 : Array (Option Value)} {oc8 kV8 dc8 pm8 cd8 ct8 : Value}
    {od9 an9 : Option Addr} {sl9 : Array (Option Value)} {oc9 kV9 dc9 pm9 cd9 ct9 : Value}
    {od10 an10 : Option Addr} {sl10 : Array (Option Value)} {oc10 kV10 dc10 pm10 cd10 ct10 : Value}
    {od11 an11 : Option Addr} {sl11 : Array (Option Value)} {oc11 kV11 dc11 pm11 cd11 ct11 : Value}
    {od12 an12 : Option Addr} {sl12 : Array (Option Value)} {oc12 kV12 dc12 pm12 cd12 ct12 : Value}
    {od13 an13 : Option Addr} {sl13 : Array (Option Value)} {oc13 kV13 dc13 pm13 cd13 ct13 : Value}
    {od14 an14 : Option Addr} {sl14 : Array (Option Value)} {oc14 kV14 dc14 pm14 cd14 ct14 : Value}
    {od15 an15 : Option Addr} {sl15 : Array (Option Value)} {oc15 kV15 dc15 pm15 cd15 ct15 : Value}
    {od16 an16 : Option Addr} {sl16 : Array (Option Value)} {oc16 kV16 dc16 pm16 cd16 ct16 : Value}
    {od17 an17 : Option Addr} {sl17 : Array (Option Value)} {oc17 kV17 dc17 pm17 cd17 ct17 : Value}
    {od18 an18 : Option Addr} {sl18 : Array (Option Value)} {oc18 kV18 dc18 pm18 cd18 ct18 : Value}
    {od19 an19 : Option Addr} {sl19 : Array (Option Value)} {oc19 kV19 dc19 pm19 cd19 ct19 : Value}
    {od20 an20 : Option Addr} {sl20 : Array (Option Value)} {oc20 kV20 dc20 pm20 cd20 ct20 : Value}
    {od21 an21 : Option Addr} {sl21 : Array (Option Value)} {oc21 kV21 dc21 pm21 cd21 ct21 : Value}
    {od22 an22 : Option Addr} {sl22 : Array (Option Value)} {oc22 kV22 dc22 pm22 cd22 ct22 : Value}
    {od23 an23 : Option Addr} {sl23 : Array (Option Value)} {oc23 kV23 dc23 pm23 cd23 ct23 : Value}
    {od24 an24 : Option Addr} {sl24 : Array (Option Value)} {oc24 kV24 dc24 pm24 cd24 ct24 : Value}
    {od25 an25 : Option Addr} {sl25 : Array (Option Value)} {oc25 kV25 dc25 pm25 cd25 ct25 : Value}
    {od26 an26 : Option Addr} {sl26 : Array (Option Value)} {oc26 kV26 dc26 pm26 cd26 ct26 : Value}
    {od27 an27 : Option Addr} {sl27 : Array (Option Value)} {oc27 kV27 dc27 pm27 cd27 ct27 : Value}
    {t_MOST_NUMBER : Tok}
    {t_MOST_WHOLE : Tok}
    {t_CHECK_START : Tok}
    {t_CHECK_END : Tok}
    {t_CHECK_LAID_OVER : Tok}
    {t_SIGNS : Tok}
    {nm_BadText qn_BadText : Str} {N_BadText : Addr} {bs_BadText sub_BadText : List Value} {sn_BadText : List Str} {ab_BadText : Bool} {col_BadText : Option Bool} {dd_BadText : Option Addr} {k0_BadText k1_BadText k2_BadText k3_BadText k5_BadText : Option Value}
    (n_FormError : PySem.W.nsIn K mainGlobals "FormError" = some (some (.ref C_FormError)))
    (n_BadNumber : PySem.W.nsIn K mainGlobals "BadNumber" = some (some (.ref C_BadNumber)))
    (n_BadRow : PySem.W.nsIn K mainGlobals "BadRow" = some (some (.ref C_BadRow)))
    (n_BadCheck : PySem.W.nsIn K mainGlobals "BadCheck" = some (some (.ref C_BadCheck)))
    (n_NoKey : PySem.W.nsIn K mainGlobals "NoKey" = some (some (.ref C_NoKey)))
    (n_BadVersion : PySem.W.nsIn K mainGlobals "BadVersion" = some (some (.ref C_BadVersion)))
    (n_BadBook : PySem.W.nsIn K mainGlobals "BadBook" = some (some (.ref C_BadBook)))
    (n_BadValue : PySem.W.nsIn K mainGlobals "BadValue" = some (some (.ref C_BadValue)))
    (n_BadText : PySem.W.nsIn K mainGlobals "BadText" = some (some (.ref C_BadText)))
    (n_BadWire : PySem.W.nsIn K mainGlobals "BadWire" = some (some (.ref C_BadWire)))
    (n_NotKin : PySem.W.nsIn K mainGlobals "NotKin" = some (some (.ref C_NotKin)))
    (a1 : PySem.W.findIn K (.ref C_BadText) "__init__" = some (some (.ref f1)))
    (i1 : PySem.W.isFn K (.ref f1) = true)
    (l1 : K.lookup f1 = some ⟨oc1, od1, .func (PySem.W.fnOf "__init__" "BadText.__init__" (defArgs s_BadText_init) (defBody s_BadText_init) (defScope s_BadText_init) .none kV1 dc1 pm1 an1 cd1 ct1), sl1⟩)
    (c1 : PySem.W.codeIn K cd1 "BadText.__init__" = true)
    (k1 : PySem.W.keepIn K (.ref f1) = true)
    (a2 : PySem.W.nsIn K mainGlobals "is_whole" = some (some (.ref f2)))
    (l2 : K.lookup f2 = some ⟨oc2, od2, .func (PySem.W.fnOf "is_whole" "is_whole" (defArgs s_is_whole) (defBody s_is_whole) (defScope s_is_whole) .none kV2 dc2 pm2 an2 cd2 ct2), sl2⟩)
    (c2 : PySem.W.codeIn K cd2 "is_whole" = true)
    (k2 : PySem.W.keepIn K (.ref f2) = true)
    (a3 : PySem.W.nsIn K mainGlobals "is_among" = some (some (.ref f3)))
    (l3 : K.lookup f3 = some ⟨oc3, od3, .func (PySem.W.fnOf "is_among" "is_among" (defArgs s_is_among) (defBody s_is_among) (defScope s_is_among) .none kV3 dc3 pm3 an3 cd3 ct3), sl3⟩)
    (c3 : PySem.W.codeIn K cd3 "is_among" = true)
    (k3 : PySem.W.keepIn K (.ref f3) = true)
    (a4 : PySem.W.nsIn K mainGlobals "is_row" = some (some (.ref f4)))
    (l4 : K.lookup f4 = some ⟨oc4, od4, .func (PySem.W.fnOf "is_row" "is_row" (defArgs s_is_row) (defBody s_is_row) (defScope s_is_row) .none kV4 dc4 pm4 an4 cd4 ct4), sl4⟩)
    (c4 : PySem.W.codeIn K cd4 "is_row" = true)
    (k4 : PySem.W.keepIn K (.ref f4) = true)
    (a5 : PySem.W.nsIn K mainGlobals "need_row" = some (some (.ref f5)))
    (l5 : K.lookup f5 = some ⟨oc5, od5, .func (PySem.W.fnOf "need_row" "need_row" (defArgs s_need_row) (defBody s_need_row) (defScope s_need_row) .none kV5 dc5 pm5 an5 cd5 ct5), sl5⟩)
    (c5 : PySem.W.codeIn K cd5 "need_row" = true)
    (k5 : PySem.W.keepIn K (.ref f5) = true)
    (a6 : PySem.W.nsIn K mainGlobals "need_among" = some (some (.ref f6)))
    (l6 : K.lookup f6 = some ⟨oc6, od6, .func (PySem.W.fnOf "need_among" "need_among" (defArgs s_need_among) (defBody s_need_among) (defScope s_need_among) .none kV6 dc6 pm6 an6 cd6 ct6), sl6⟩)
    (c6 : PySem.W.codeIn K cd6 "need_among" = true)
    (k6 : PySem.W.keepIn K (.ref f6) = true)
    (a7 : PySem.W.nsIn K mainGlobals "folded" = some (some (.ref f7)))
    (l7 : K.lookup f7 = some ⟨oc7, od7, .func (PySem.W.fnOf "folded" "folded" (defArgs s_folded) (defBody s_folded) (defScope s_folded) .none kV7 dc7 pm7 an7 cd7 ct7), sl7⟩)
    (c7 : PySem.W.codeIn K cd7 "folded" = true)
    (k7 : PySem.W.keepIn K (.ref f7) = true)
    (a8 : PySem.W.nsIn K mainGlobals "unfolded" = some (some (.ref f8)))
    (l8 : K.lookup f8 = some ⟨oc8, od8, .func (PySem.W.fnOf "unfolded" "unfolded" (defArgs s_unfolded) (defBody s_unfolded) (defScope s_unfolded) .none kV8 dc8 pm8 an8 cd8 ct8), sl8⟩)
    (c8 : PySem.W.codeIn K cd8 "unfolded" = true)
    (k8 : PySem.W.keepIn K (.ref f8) = true)
    (a9 : PySem.W.nsIn K mainGlobals "packed" = some (some (.ref f9)))
    (l9 : K.lookup f9 = some ⟨oc9, od9, .func (PySem.W.fnOf "packed" "packed" (defArgs s_packed) (defBody s_packed) (defScope s_packed) .none kV9 dc9 pm9 an9 cd9 ct9), sl9⟩)
    (c9 : PySem.W.codeIn K cd9 "packed" = true)
    (k9 : PySem.W.keepIn K (.ref f9) = true)
    (a10 : PySem.W.nsIn K mainGlobals "unpacked" = some (some (.ref f10)))
    (l10 : K.lookup f10 = some ⟨oc10, od10, .func (PySem.W.fnOf "unpacked" "unpacked" (defArgs s_unpacked) (defBody s_unpacked) (defScope s_unpacked) .none kV10 dc10 pm10 an10 cd10 ct10), sl10⟩)
    (c10 : PySem.W.codeIn K cd10 "unpacked" = true)
    (k10 : PySem.W.keepIn K (.ref f10) = true)
    (a11 : PySem.W.nsIn K mainGlobals "fill_bits" = some (some (.ref f11)))
    (l11 : K.lookup f11 = some ⟨oc11, od11, .func (PySem.W.fnOf "fill_bits" "fill_bits" (defArgs s_fill_bits) (defBody s_fill_bits) (defScope s_fill_bits) .none kV11 dc11 pm11 an11 cd11 ct11), sl11⟩)
    (c11 : PySem.W.codeIn K cd11 "fill_bits" = true)
    (k11 : PySem.W.keepIn K (.ref f11) = true)
    (a12 : PySem.W.nsIn K mainGlobals "check" = some (some (.ref f12)))
    (l12 : K.lookup f12 = some ⟨oc12, od12, .func (PySem.W.fnOf "check" "check" (defArgs s_check) (defBody s_check) (defScope s_check) .none kV12 dc12 pm12 an12 cd12 ct12), sl12⟩)
    (c12 : PySem.W.codeIn K cd12 "check" = true)
    (k12 : PySem.W.keepIn K (.ref f12) = true)
    (a13 : PySem.W.nsIn K mainGlobals "row_text" = some (some (.ref f13)))
    (l13 : K.lookup f13 = some ⟨oc13, od13, .func (PySem.W.fnOf "row_text" "row_text" (defArgs s_row_text) (defBody s_row_text) (defScope s_row_text) .none kV13 dc13 pm13 an13 cd13 ct13), sl13⟩)
    (c13 : PySem.W.codeIn K cd13 "row_text" = true)
    (k13 : PySem.W.keepIn K (.ref f13) = true)
    (a14 : PySem.W.nsIn K mainGlobals "row_of" = some (some (.ref f14)))
    (l14 : K.lookup f14 = some ⟨oc14, od14, .func (PySem.W.fnOf "row_of" "row_of" (defArgs s_row_of) (defBody s_row_of) (defScope s_row_of) .none kV14 dc14 pm14 an14 cd14 ct14), sl14⟩)
    (c14 : PySem.W.codeIn K cd14 "row_of" = true)
    (k14 : PySem.W.keepIn K (.ref f14) = true)
    (a15 : PySem.W.nsIn K mainGlobals "_law_cell_at" = some (some (.ref f15)))
    (l15 : K.lookup f15 = some ⟨oc15, od15, .func (PySem.W.fnOf "_law_cell_at" "_law_cell_at" (defArgs s_cell_at) (defBody s_cell_at) (defScope s_cell_at) .none kV15 dc15 pm15 an15 cd15 ct15), sl15⟩)
    (c15 : PySem.W.codeIn K cd15 "_law_cell_at" = true)
    (k15 : PySem.W.keepIn K (.ref f15) = true)
    (a16 : PySem.W.nsIn K mainGlobals "_law_mixed" = some (some (.ref f16)))
    (l16 : K.lookup f16 = some ⟨oc16, od16, .func (PySem.W.fnOf "_law_mixed" "_law_mixed" (defArgs s_mixed) (defBody s_mixed) (defScope s_mixed) .none kV16 dc16 pm16 an16 cd16 ct16), sl16⟩)
    (c16 : PySem.W.codeIn K cd16 "_law_mixed" = true)
    (k16 : PySem.W.keepIn K (.ref f16) = true)
    (a17 : PySem.W.nsIn K mainGlobals "_law_great" = some (some (.ref f17)))
    (l17 : K.lookup f17 = some ⟨oc17, od17, .func (PySem.W.fnOf "_law_great" "_law_great" (defArgs s_great) (defBody s_great) (defScope s_great) .none kV17 dc17 pm17 an17 cd17 ct17), sl17⟩)
    (c17 : PySem.W.codeIn K cd17 "_law_great" = true)
    (k17 : PySem.W.keepIn K (.ref f17) = true)
    (a18 : PySem.W.nsIn K mainGlobals "_law_word" = some (some (.ref f18)))
    (l18 : K.lookup f18 = some ⟨oc18, od18, .func (PySem.W.fnOf "_law_word" "_law_word" (defArgs s_word) (defBody s_word) (defScope s_word) .none kV18 dc18 pm18 an18 cd18 ct18), sl18⟩)
    (c18 : PySem.W.codeIn K cd18 "_law_word" = true)
    (k18 : PySem.W.keepIn K (.ref f18) = true)
    (a19 : PySem.W.nsIn K mainGlobals "_law_at" = some (some (.ref f19)))
    (l19 : K.lookup f19 = some ⟨oc19, od19, .func (PySem.W.fnOf "_law_at" "_law_at" (defArgs s_at) (defBody s_at) (defScope s_at) .none kV19 dc19 pm19 an19 cd19 ct19), sl19⟩)
    (c19 : PySem.W.codeIn K cd19 "_law_at" = true)
    (k19 : PySem.W.keepIn K (.ref f19) = true)
    (a20 : PySem.W.nsIn K mainGlobals "_law_bytes" = some (some (.ref f20)))
    (l20 : K.lookup f20 = some ⟨oc20, od20, .func (PySem.W.fnOf "_law_bytes" "_law_bytes" (defArgs s_bytes) (defBody s_bytes) (defScope s_bytes) .none kV20 dc20 pm20 an20 cd20 ct20), sl20⟩)
    (c20 : PySem.W.codeIn K cd20 "_law_bytes" = true)
    (k20 : PySem.W.keepIn K (.ref f20) = true)
    (a21 : PySem.W.nsIn K mainGlobals "_law_check" = some (some (.ref f21)))
    (l21 : K.lookup f21 = some ⟨oc21, od21, .func (PySem.W.fnOf "_law_check" "_law_check" (defArgs s_l_check) (defBody s_l_check) (defScope s_l_check) .none kV21 dc21 pm21 an21 cd21 ct21), sl21⟩)
    (c21 : PySem.W.codeIn K cd21 "_law_check" = true)
    (k21 : PySem.W.keepIn K (.ref f21) = true)
    (a22 : PySem.W.nsIn K mainGlobals "_law_refused" = some (some (.ref f22)))
    (l22 : K.lookup f22 = some ⟨oc22, od22, .func (PySem.W.fnOf "_law_refused" "_law_refused" (defArgs s_refused) (defBody s_refused) (defScope s_refused) .none kV22 dc22 pm22 an22 cd22 ct22), sl22⟩)
    (c22 : PySem.W.codeIn K cd22 "_law_refused" = true)
    (k22 : PySem.W.keepIn K (.ref f22) = true)
    (a23 : PySem.W.nsIn K mainGlobals "_law_folds" = some (some (.ref f23)))
    (l23 : K.lookup f23 = some ⟨oc23, od23, .func (PySem.W.fnOf "_law_folds" "_law_folds" (defArgs s_folds) (defBody s_folds) (defScope s_folds) .none kV23 dc23 pm23 an23 cd23 ct23), sl23⟩)
    (c23 : PySem.W.codeIn K cd23 "_law_folds" = true)
    (k23 : PySem.W.keepIn K (.ref f23) = true)
    (a24 : PySem.W.nsIn K mainGlobals "_law_packs" = some (some (.ref f24)))
    (l24 : K.lookup f24 = some ⟨oc24, od24, .func (PySem.W.fnOf "_law_packs" "_law_packs" (defArgs s_packs) (defBody s_packs) (defScope s_packs) .none kV24 dc24 pm24 an24 cd24 ct24), sl24⟩)
    (c24 : PySem.W.codeIn K cd24 "_law_packs" = true)
    (k24 : PySem.W.keepIn K (.ref f24) = true)
    (a25 : PySem.W.nsIn K mainGlobals "_law_rows" = some (some (.ref f25)))
    (l25 : K.lookup f25 = some ⟨oc25, od25, .func (PySem.W.fnOf "_law_rows" "_law_rows" (defArgs s_rows) (defBody s_rows) (defScope s_rows) .none kV25 dc25 pm25 an25 cd25 ct25), sl25⟩)
    (c25 : PySem.W.codeIn K cd25 "_law_rows" = true)
    (k25 : PySem.W.keepIn K (.ref f25) = true)
    (a26 : PySem.W.nsIn K mainGlobals "_law_text" = some (some (.ref f26)))
    (l26 : K.lookup f26 = some ⟨oc26, od26, .func (PySem.W.fnOf "_law_text" "_law_text" (defArgs s_text) (defBody s_text) (defScope s_text) .none kV26 dc26 pm26 an26 cd26 ct26), sl26⟩)
    (c26 : PySem.W.codeIn K cd26 "_law_text" = true)
    (k26 : PySem.W.keepIn K (.ref f26) = true)
    (a27 : PySem.W.nsIn K mainGlobals "law" = some (some (.ref f27)))
    (l27 : K.lookup f27 = some ⟨oc27, od27, .func (PySem.W.fnOf "law" "law" (defArgs s_law) (defBody s_law) (defScope s_law) .none kV27 dc27 pm27 an27 cd27 ct27), sl27⟩)
    (c27 : PySem.W.codeIn K cd27 "law" = true)
    (k27 : PySem.W.keepIn K (.ref f27) = true)
    (v_MOST_NUMBER : PySem.W.nsIn K mainGlobals "MOST_NUMBER" = some (some (.int 115792089237316195423570985008687907853269984665640564039457584007913129639935 t_MOST_NUMBER)))
    (v_MOST_WHOLE : PySem.W.nsIn K mainGlobals "MOST_WHOLE" = some (some (.int 57896044618658097711785492504343953926634992332820282019728792003956564819967 t_MOST_WHOLE)))
    (v_CHECK_START : PySem.W.nsIn K mainGlobals "CHECK_START" = some (some (.int 65535 t_CHECK_START)))
    (v_CHECK_END : PySem.W.nsIn K mainGlobals "CHECK_END" = some (some (.int 65536 t_CHECK_END)))
    (v_CHECK_LAID_OVER : PySem.W.nsIn K mainGlobals "CHECK_LAID_OVER" = some (some (.int 4129 t_CHECK_LAID_OVER)))
    (v_SIGNS : PySem.W.nsIn K mainGlobals "SIGNS" = some (some (.str "0123456789abcdef" t_SIGNS)))
    (z_len : PySem.W.nsIn K mainGlobals "len" = some none)
    (z_range : PySem.W.nsIn K mainGlobals "range" = some none)
    (z_isinstance : PySem.W.nsIn K mainGlobals "isinstance" = some none)
    (z_max : PySem.W.nsIn K mainGlobals "max" = some none)
    (z_min : PySem.W.nsIn K mainGlobals "min" = some none)
    (z_sum : PySem.W.nsIn K mainGlobals "sum" = some none)
    (z_all : PySem.W.nsIn K mainGlobals "all" = some none)
    (z_enumerate : PySem.W.nsIn K mainGlobals "enumerate" = some none)
    (z_int : PySem.W.nsIn K mainGlobals "int" = some none)
    (z_bool : PySem.W.nsIn K mainGlobals "bool" = some none)
    (z_list : PySem.W.nsIn K mainGlobals "list" = some none)
    (z_tuple : PySem.W.nsIn K mainGlobals "tuple" = some none)
    (z_str : PySem.W.nsIn K mainGlobals "str" = some none)
    (z_ValueError : PySem.W.nsIn K mainGlobals "ValueError" = some none)
    (q_NoneType_int : PySem.W.kitOne K (.type "NoneType") (.type "int") = some false)
    (q_NoneType_bool : PySem.W.kitOne K (.type "NoneType") (.type "bool") = some false)
    (q_NoneType_str : PySem.W.kitOne K (.type "NoneType") (.type "str") = some false)
    (q_NoneType_list : PySem.W.kitOne K (.type "NoneType") (.type "list") = some false)
    (q_NoneType_tuple : PySem.W.kitOne K (.type "NoneType") (.type "tuple") = some false)
    (q_bool_int : PySem.W.kitOne K (.type "bool") (.type "int") = some true)
    (q_bool_str : PySem.W.kitOne K (.type "bool") (.type "str") = some false)
    (q_bool_list : PySem.W.kitOne K (.type "bool") (.type "list") = some false)
    (q_bool_tuple : PySem.W.kitOne K (.type "bool") (.type "tuple") = some false)
    (q_int_bool : PySem.W.kitOne K (.type "int") (.type "bool") = some false)
    (q_int_str : PySem.W.kitOne K (.type "int") (.type "str") = some false)
    (q_int_list : PySem.W.kitOne K (.type "int") (.type "list") = some false)
    (q_int_tuple : PySem.W.kitOne K (.type "int") (.type "tuple") = some false)
    (q_str_int : PySem.W.kitOne K (.type "str") (.type "int") = some false)
    (q_str_bool : PySem.W.kitOne K (.type "str") (.type "bool") = some false)
    (q_str_list : PySem.W.kitOne K (.type "str") (.type "list") = some false)
    (q_str_tuple : PySem.W.kitOne K (.type "str") (.type "tuple") = some false)
    (q_tuple_int : PySem.W.kitOne K (.type "tuple") (.type "int") = some false)
    (q_tuple_bool : PySem.W.kitOne K (.type "tuple") (.type "bool") = some false)
    (q_tuple_str : PySem.W.kitOne K (.type "tuple") (.type "str") = some false)
    (q_tuple_list : PySem.W.kitOne K (.type "tuple") (.type "list") = some false)
    (q_list_int : PySem.W.kitOne K (.type "list") (.type "int") = some false)
    (q_list_bool : PySem.W.kitOne K (.type "list") (.type "bool") = some false)
    (q_list_str : PySem.W.kitOne K (.type "list") (.type "str") = some false)
    (q_list_tuple : PySem.W.kitOne K (.type "list") (.type "tuple") = some false)
    (q_dict_int : PySem.W.kitOne K (.type "dict") (.type "int") = some false)
    (q_dict_bool : PySem.W.kitOne K (.type "dict") (.type "bool") = some false)
    (q_dict_str : PySem.W.kitOne K (.type "dict") (.type "str") = some false)
    (q_dict_list : PySem.W.kitOne K (.type "dict") (.type "list") = some false)
    (q_dict_tuple : PySem.W.kitOne K (.type "dict") (.type "tuple") = some false)
    (q_BadNumber_BadNumber : PySem.W.kitOne K (.ref C_BadNumber) (.ref C_BadNumber) = some true)
    (q_BadNumber_BadRow : PySem.W.kitOne K (.ref C_BadNumber) (.ref C_BadRow) = some false)
    (q_BadNumber_BadBook : PySem.W.kitOne K (.ref C_BadNumber) (.ref C_BadBook) = some false)
    (q_BadNumber_BadValue : PySem.W.kitOne K (.ref C_BadNumber) (.ref C_BadValue) = some false)
    (q_BadNumber_BadText : PySem.W.kitOne K (.ref C_BadNumber) (.ref C_BadText) = some false)
    (q_BadNumber_BadWire : PySem.W.kitOne K (.ref C_BadNumber) (.ref C_BadWire) = some false)
    (q_BadNumber_BadCheck : PySem.W.kitOne K (.ref C_BadNumber) (.ref C_BadCheck) = some false)
    (q_BadNumber_NotKin : PySem.W.kitOne K (.ref C_BadNumber) (.ref C_NotKin) = some false)
    (q_BadNumber_NoKey : PySem.W.kitOne K (.ref C_BadNumber) (.ref C_NoKey) = some false)
    (q_BadNumber_BadVersion : PySem.W.kitOne K (.ref C_BadNumber) (.ref C_BadVersion) = some false)
    (q_BadRow_BadNumber : PySem.W.kitOne K (.ref C_BadRow) (.ref C_BadNumber) = some false)
    (q_BadRow_BadRow : PySem.W.kitOne K (.ref C_BadRow) (.ref C_BadRow) = some true)
    (q_BadRow_BadBook : PySem.W.kitOne K (.ref C_BadRow) (.ref C_BadBook) = some false)
    (q_BadRow_BadValue : PySem.W.kitOne K (.ref C_BadRow) (.ref C_BadValue) = some false)
    (q_BadRow_BadText : PySem.W.kitOne K (.ref C_BadRow) (.ref C_BadText) = some false)
    (q_BadRow_BadWire : PySem.W.kitOne K (.ref C_BadRow) (.ref C_BadWire) = some false)
    (q_BadRow_BadCheck : PySem.W.kitOne K (.ref C_BadRow) (.ref C_BadCheck) = some false)
    (q_BadRow_NotKin : PySem.W.kitOne K (.ref C_BadRow) (.ref C_NotKin) = some false)
    (q_BadRow_NoKey : PySem.W.kitOne K (.ref C_BadRow) (.ref C_NoKey) = some false)
    (q_BadRow_BadVersion : PySem.W.kitOne K (.ref C_BadRow) (.ref C_BadVersion) = some false)
    (q_BadText_BadNumber : PySem.W.kitOne K (.ref C_BadText) (.ref C_BadNumber) = some false)
    (q_BadText_BadRow : PySem.W.kitOne K (.ref C_BadText) (.ref C_BadRow) = some false)
    (q_BadText_BadBook : PySem.W.kitOne K (.ref C_BadText) (.ref C_BadBook) = some false)
    (q_BadText_BadValue : PySem.W.kitOne K (.ref C_BadText) (.ref C_BadValue) = some false)
    (q_BadText_BadText : PySem.W.kitOne K (.ref C_BadText) (.ref C_BadText) = some true)
    (q_BadText_BadWire : PySem.W.kitOne K (.ref C_BadText) (.ref C_BadWire) = some false)
    (q_BadText_BadCheck : PySem.W.kitOne K (.ref C_BadText) (.ref C_BadCheck) = some false)
    (q_BadText_NotKin : PySem.W.kitOne K (.ref C_BadText) (.ref C_NotKin) = some false)
    (q_BadText_NoKey : PySem.W.kitOne K (.ref C_BadText) (.ref C_NoKey) = some false)
    (q_BadText_BadVersion : PySem.W.kitOne K (.ref C_BadText) (.ref C_BadVersion) = some false)
    (q_BadNumber_v : PySem.W.kitOne K (.ref C_BadNumber) (.type "ValueError") = some true)
    (q_BadRow_v : PySem.W.kitOne K (.ref C_BadRow) (.type "ValueError") = some true)
    (q_BadText_v : PySem.W.kitOne K (.ref C_BadText) (.type "ValueError") = some true)
    (x_BadNumber : PySem.W.exmOne K (.ref C_BadNumber) (.ref C_FormError) = some true)
    (x_BadRow : PySem.W.exmOne K (.ref C_BadRow) (.ref C_FormError) = some true)
    (x_BadText : PySem.W.exmOne K (.ref C_BadText) (.ref C_FormError) = some true)
    (e_BadNumber : PySem.W.excIn K C_BadNumber bmV "ValueError.__new__" = true)
    (e_BadRow : PySem.W.excIn K C_BadRow bmV "ValueError.__new__" = true)
    (h1_BadNumber : PySem.W.hasDictIn K C_BadNumber = true)
    (h2_BadNumber : PySem.W.findIn K (.ref C_BadNumber) "__getattribute__" = some (some (.builtin "BaseException.__getattribute__")))
    (h3_BadNumber : PySem.W.findIn K (.ref C_BadNumber) "__getattr__" = some none)
    (h4_BadNumber : PySem.W.findIn K (.ref C_BadNumber) "__class__" = some (some (.builtin "object.__class__")))
    (h5_BadNumber : PySem.W.specialIn K (.builtin "object.__class__") "__get__" = some (some (.builtin "getset_descriptor.__get__")))
    (h6_BadNumber : PySem.W.takesIn K (.builtin "object.__class__") = some true)
    (h7_BadNumber : PySem.W.mroIn K C_BadNumber (.type "object") = some true)
    (h8_BadNumber : PySem.W.mroIn K C_BadNumber (.type "BaseException") = some true)
    (h1_BadRow : PySem.W.hasDictIn K C_BadRow = true)
    (h2_BadRow : PySem.W.findIn K (.ref C_BadRow) "__getattribute__" = some (some (.builtin "BaseException.__getattribute__")))
    (h3_BadRow : PySem.W.findIn K (.ref C_BadRow) "__getattr__" = some none)
    (h4_BadRow : PySem.W.findIn K (.ref C_BadRow) "__class__" = some (some (.builtin "object.__class__")))
    (h5_BadRow : PySem.W.specialIn K (.builtin "object.__class__") "__get__" = some (some (.builtin "getset_descriptor.__get__")))
    (h6_BadRow : PySem.W.takesIn K (.builtin "object.__class__") = some true)
    (h7_BadRow : PySem.W.mroIn K C_BadRow (.type "object") = some true)
    (h8_BadRow : PySem.W.mroIn K C_BadRow (.type "BaseException") = some true)
    (h1_BadText : PySem.W.hasDictIn K C_BadText = true)
    (h2_BadText : PySem.W.findIn K (.ref C_BadText) "__getattribute__" = some (some (.builtin "BaseException.__getattribute__")))
    (h3_BadText : PySem.W.findIn K (.ref C_BadText) "__getattr__" = some none)
    (h4_BadText : PySem.W.findIn K (.ref C_BadText) "__class__" = some (some (.builtin "object.__class__")))
    (h5_BadText : PySem.W.specialIn K (.builtin "object.__class__") "__get__" = some (some (.builtin "getset_descriptor.__get__")))
    (h6_BadText : PySem.W.takesIn K (.builtin "object.__class__") = some true)
    (h7_BadText : PySem.W.mroIn K C_BadText (.type "object") = some true)
    (h8_BadText : PySem.W.mroIn K C_BadText (.type "BaseException") = some true)
    (g1_BadText : K.lookup C_BadText = some (excClassObj nm_BadText qn_BadText C_BadText N_BadText bs_BadText (.ref C_FormError :: bmV) true sn_BadText sub_BadText ab_BadText col_BadText dd_BadText k0_BadText k1_BadText k2_BadText k3_BadText k5_BadText "ValueError.__new__"))
    (g2_BadText : PySem.W.nsOkIn K N_BadText = true)
    (g3_BadText : PySem.W.nsIn K N_BadText "__init__" = some (some (.ref f1)))
    (g4_BadText : PySem.W.keepIn K (.ref C_BadText) = true)
    (g5_BadText : PySem.W.findIn K (.ref C_BadText) "__setattr__" = some (some (.builtin "object.__setattr__")))
    (w1 : PySem.W.excIn K C_FormError bmV "ValueError.__new__" = true)
    (w2 : PySem.W.mroIn K C_FormError (.type "ValueError") = some true)
    (w3 : PySem.W.specialIn K (.ref C_FormError) "__getattribute__" = some (some (.builtin "type.__getattribute__")))
    (w4 : PySem.W.readsIn K C_FormError (.type "type") = true)
    (w5 : PySem.W.findCls K (.ref C_FormError) (.type "type") "__init__" = some (.val (.builtin "ValueError.__init__")))
    (n_place : PySem.W.findIn K (.ref C_BadText) "place" = some none) :
    ∃ fd : FuncData, (∀ (s : Shared) (v : Value), BindsTo s fd ⟨[v], []⟩ [("_law_script", v)]) ∧ ∀ base : Heap, K.In base → base.Ns mainGlobals mg → FnOk l.prog w K mg base CX0 9 fa fd ["_law_script"] (spLaw K) := by
  have e := hfa.symm.trans (PySem.W.mg_of X G a27)
  cases e
  have F1 := fun_mk (st := s_BadText_init) l1 c1 k1
  have b1 := F1.binds (ps := ["self", "place"]) fun _ _ _ _ _ _ us hl => by obtain ⟨_, _, rfl⟩ := vlen2 hl; rfl
  have F2 := fun_mk (st := s_is_whole) l2 c2 k2
  have b2 := F2.binds (ps := ["thing"]) fun _ _ _ _ _ _ us hl => by obtain ⟨_, rfl⟩ := vlen1 hl; rfl
  have F3 := fun_mk (st := s_is_among) l3 c3 k3
  have b3 := F3.binds (ps := ["thing", "least", "most"]) fun _ _ _ _ _ _ us hl => by obtain ⟨_, _, _, rfl⟩ := vlen3 hl; rfl
  have F4 := fun_mk (st := s_is_row) l4 c4 k4
  have b4 := F4.binds (ps := ["row"]) fun _ _ _ _ _ _ us hl => by obtain ⟨_, rfl⟩ := vlen1 hl; rfl
  have F5 := fun_mk (st := s_need_row) l5 c5 k5
  have b5 := F5.binds (ps := ["row"]) fun _ _ _ _ _ _ us hl => by obtain ⟨_, rfl⟩ := vlen1 hl; rfl
  have F6 := fun_mk (st := s_need_among) l6 c6 k6
  have b6 := F6.binds (ps := ["number", "least", "most"]) fun _ _ _ _ _ _ us hl => by obtain ⟨_, _, _, rfl⟩ := vlen3 hl; rfl
  have F7 := fun_mk (st := s_folded) l7 c7 k7
  have b7 := F7.binds (ps := ["number"]) fun _ _ _ _ _ _ us hl => by obtain ⟨_, rfl⟩ := vlen1 hl; rfl
  have F8 := fun_mk (st := s_unfolded) l8 c8 k8
  have b8 := F8.binds (ps := ["number"]) fun _ _ _ _ _ _ us hl => by obtain ⟨_, rfl⟩ := vlen1 hl; rfl
  have F9 := fun_mk (st := s_packed) l9 c9 k9
  have b9 := F9.binds (ps := ["numbers", "width"]) fun _ _ _ _ _ _ us hl => by obtain ⟨_, _, rfl⟩ := vlen2 hl; rfl
  have F10 := fun_mk (st := s_unpacked) l10 c10 k10
  have b10 := F10.binds (ps := ["row", "many", "width"]) fun _ _ _ _ _ _ us hl => by obtain ⟨_, _, _, rfl⟩ := vlen3 hl; rfl
  have F11 := fun_mk (st := s_fill_bits) l11 c11 k11
  have b11 := F11.binds (ps := ["row", "many", "width"]) fun _ _ _ _ _ _ us hl => by obtain ⟨_, _, _, rfl⟩ := vlen3 hl; rfl
  have F12 := fun_mk (st := s_check) l12 c12 k12
  have b12 := F12.binds (ps := ["row"]) fun _ _ _ _ _ _ us hl => by obtain ⟨_, rfl⟩ := vlen1 hl; rfl
  have F13 := fun_mk (st := s_row_text) l13 c13 k13
  have b13 := F13.binds (ps := ["row"]) fun _ _ _ _ _ _ us hl => by obtain ⟨_, rfl⟩ := vlen1 hl; rfl
  have F14 := fun_mk (st := s_row_of) l14 c14 k14
  have b14 := F14.binds (ps := ["text"]) fun _ _ _ _ _ _ us hl => by obtain ⟨_, rfl⟩ := vlen1 hl; rfl
  have F15 := fun_mk (st := s_cell_at) l15 c15 k15
  have b15 := F15.binds (ps := ["_law_script", "_law_k"]) fun _ _ _ _ _ _ us hl => by obtain ⟨_, _, rfl⟩ := vlen2 hl; rfl
  have F16 := fun_mk (st := s_mixed) l16 c16 k16
  have b16 := F16.binds (ps := ["_law_cell", "_law_k"]) fun _ _ _ _ _ _ us hl => by obtain ⟨_, _, rfl⟩ := vlen2 hl; rfl
  have F17 := fun_mk (st := s_great) l17 c17 k17
  have b17 := F17.binds (ps := ["_law_cell", "_law_k"]) fun _ _ _ _ _ _ us hl => by obtain ⟨_, _, rfl⟩ := vlen2 hl; rfl
  have F18 := fun_mk (st := s_word) l18 c18 k18
  have b18 := F18.binds (ps := ["_law_e"]) fun _ _ _ _ _ _ us hl => by obtain ⟨_, rfl⟩ := vlen1 hl; rfl
  have F19 := fun_mk (st := s_at) l19 c19 k19
  have b19 := F19.binds (ps := ["_law_e"]) fun _ _ _ _ _ _ us hl => by obtain ⟨_, rfl⟩ := vlen1 hl; rfl
  have F20 := fun_mk (st := s_bytes) l20 c20 k20
  have b20 := F20.binds (ps := ["_law_found", "_law_due"]) fun _ _ _ _ _ _ us hl => by obtain ⟨_, _, rfl⟩ := vlen2 hl; rfl
  have F21 := fun_mk (st := s_l_check) l21 c21 k21
  have b21 := F21.binds (ps := ["_law_row"]) fun _ _ _ _ _ _ us hl => by obtain ⟨_, rfl⟩ := vlen1 hl; rfl
  have F22 := fun_mk (st := s_refused) l22 c22 k22
  have b22 := F22.binds (ps := ["_law_way", "_law_thing"]) fun _ _ _ _ _ _ us hl => by obtain ⟨_, _, rfl⟩ := vlen2 hl; rfl
  have F23 := fun_mk (st := s_folds) l23 c23 k23
  have b23 := F23.binds (ps := ["_law_cell"]) fun _ _ _ _ _ _ us hl => by obtain ⟨_, rfl⟩ := vlen1 hl; rfl
  have F24 := fun_mk (st := s_packs) l24 c24 k24
  have b24 := F24.binds (ps := ["_law_cell"]) fun _ _ _ _ _ _ us hl => by obtain ⟨_, rfl⟩ := vlen1 hl; rfl
  have F25 := fun_mk (st := s_rows) l25 c25 k25
  have b25 := F25.binds (ps := ["_law_cell"]) fun _ _ _ _ _ _ us hl => by obtain ⟨_, rfl⟩ := vlen1 hl; rfl
  have F26 := fun_mk (st := s_text) l26 c26 k26
  have b26 := F26.binds (ps := ["_law_cell", "_law_text_here"]) fun _ _ _ _ _ _ us hl => by obtain ⟨_, _, rfl⟩ := vlen2 hl; rfl
  have F27 := fun_mk (st := s_law) l27 c27 k27
  have b27 := F27.binds (ps := ["_law_script"]) fun _ _ _ _ _ _ us hl => by obtain ⟨_, rfl⟩ := vlen1 hl; rfl
  have T : Tx K mg ⟨f1, PySem.W.fnOf "__init__" "BadText.__init__" (defArgs s_BadText_init) (defBody s_BadText_init) (defScope s_BadText_init) .none kV1 dc1 pm1 an1 cd1 ct1, f2, PySem.W.fnOf "is_whole" "is_whole" (defArgs s_is_whole) (defBody s_is_whole) (defScope s_is_whole) .none kV2 dc2 pm2 an2 cd2 ct2, f3, PySem.W.fnOf "is_among" "is_among" (defArgs s_is_among) (defBody s_is_among) (defScope s_is_among) .none kV3 dc3 pm3 an3 cd3 ct3, f4, PySem.W.fnOf "is_row" "is_row" (defArgs s_is_row) (defBody s_is_row) (defScope s_is_row) .none kV4 dc4 pm4 an4 cd4 ct4, f5, PySem.W.fnOf "need_row" "need_row" (defArgs s_need_row) (defBody s_need_row) (defScope s_need_row) .none kV5 dc5 pm5 an5 cd5 ct5, f6, PySem.W.fnOf "need_among" "need_among" (defArgs s_need_among) (defBody s_need_among) (defScope s_need_among) .none kV6 dc6 pm6 an6 cd6 ct6, f7, PySem.W.fnOf "folded" "folded" (defArgs s_folded) (defBody s_folded) (defScope s_folded) .none kV7 dc7 pm7 an7 cd7 ct7, f8, PySem.W.fnOf "unfolded" "unfolded" (defArgs s_unfolded) (defBody s_unfolded) (defScope s_unfolded) .none kV8 dc8 pm8 an8 cd8 ct8, f9, PySem.W.fnOf "packed" "packed" (defArgs s_packed) (defBody s_packed) (defScope s_packed) .none kV9 dc9 pm9 an9 cd9 ct9, f10, PySem.W.fnOf "unpacked" "unpacked" (defArgs s_unpacked) (defBody s_unpacked) (defScope s_unpacked) .none kV10 dc10 pm10 an10 cd10 ct10, f11, PySem.W.fnOf "fill_bits" "fill_bits" (defArgs s_fill_bits) (defBody s_fill_bits) (defScope s_fill_bits) .none kV11 dc11 pm11 an11 cd11 ct11, f12, PySem.W.fnOf "check" "check" (defArgs s_check) (defBody s_check) (defScope s_check) .none kV12 dc12 pm12 an12 cd12 ct12, f13, PySem.W.fnOf "row_text" "row_text" (defArgs s_row_text) (defBody s_row_text) (defScope s_row_text) .none kV13 dc13 pm13 an13 cd13 ct13, f14, PySem.W.fnOf "row_of" "row_of" (defArgs s_row_of) (defBody s_row_of) (defScope s_row_of) .none kV14 dc14 pm14 an14 cd14 ct14, f15, PySem.W.fnOf "_law_cell_at" "_law_cell_at" (defArgs s_cell_at) (defBody s_cell_at) (defScope s_cell_at) .none kV15 dc15 pm15 an15 cd15 ct15, f16, PySem.W.fnOf "_law_mixed" "_law_mixed" (defArgs s_mixed) (defBody s_mixed) (defScope s_mixed) .none kV16 dc16 pm16 an16 cd16 ct16, f17, PySem.W.fnOf "_law_great" "_law_great" (defArgs s_great) (defBody s_great) (defScope s_great) .none kV17 dc17 pm17 an17 cd17 ct17, f18, PySem.W.fnOf "_law_word" "_law_word" (defArgs s_word) (defBody s_word) (defScope s_word) .none kV18 dc18 pm18 an18 cd18 ct18, f19, PySem.W.fnOf "_law_at" "_law_at" (defArgs s_at) (defBody s_at) (defScope s_at) .none kV19 dc19 pm19 an19 cd19 ct19, f20, PySem.W.fnOf "_law_bytes" "_law_bytes" (defArgs s_bytes) (defBody s_bytes) (defScope s_bytes) .none kV20 dc20 pm20 an20 cd20 ct20, f21, PySem.W.fnOf "_law_check" "_law_check" (defArgs s_l_check) (defBody s_l_check) (defScope s_l_check) .none kV21 dc21 pm21 an21 cd21 ct21, f22, PySem.W.fnOf "_law_refused" "_law_refused" (defArgs s_refused) (defBody s_refused) (defScope s_refused) .none kV22 dc22 pm22 an22 cd22 ct22, f23, PySem.W.fnOf "_law_folds" "_law_folds" (defArgs s_folds) (defBody s_folds) (defScope s_folds) .none kV23 dc23 pm23 an23 cd23 ct23, f24, PySem.W.fnOf "_law_packs" "_law_packs" (defArgs s_packs) (defBody s_packs) (defScope s_packs) .none kV24 dc24 pm24 an24 cd24 ct24, f25, PySem.W.fnOf "_law_rows" "_law_rows" (defArgs s_rows) (defBody s_rows) (defScope s_rows) .none kV25 dc25 pm25 an25 cd25 ct25, f26, PySem.W.fnOf "_law_text" "_law_text" (defArgs s_text) (defBody s_text) (defScope s_text) .none kV26 dc26 pm26 an26 cd26 ct26, fa, PySem.W.fnOf "law" "law" (defArgs s_law) (defBody s_law) (defScope s_law) .none kV27 dc27 pm27 an27 cd27 ct27, C_FormError, C_BadNumber, C_BadRow, C_BadCheck, C_NoKey, C_BadVersion, C_BadBook, C_BadValue, C_BadText, C_BadWire, C_NotKin⟩ := ⟨PySem.W.mg_none_of X G z_len,
    PySem.W.mg_none_of X G z_range,
    PySem.W.mg_none_of X G z_isinstance,
    PySem.W.mg_none_of X G z_max,
    PySem.W.mg_none_of X G z_min,
    PySem.W.mg_none_of X G z_sum,
    PySem.W.mg_none_of X G z_all,
    PySem.W.mg_none_of X G z_enumerate,
    PySem.W.mg_none_of X G z_int,
    PySem.W.mg_none_of X G z_bool,
    PySem.W.mg_none_of X G z_list,
    PySem.W.mg_none_of X G z_tuple,
    PySem.W.mg_none_of X G z_str,
    PySem.W.mg_none_of X G z_ValueError,
    ⟨F1, a1, i1, b1⟩,
    ⟨F2, PySem.W.mg_of X G a2, b2⟩,
    ⟨F3, PySem.W.mg_of X G a3, b3⟩,
    ⟨F4, PySem.W.mg_of X G a4, b4⟩,
    ⟨F5, PySem.W.mg_of X G a5, b5⟩,
    ⟨F6, PySem.W.mg_of X G a6, b6⟩,
    ⟨F7, PySem.W.mg_of X G a7, b7⟩,
    ⟨F8, PySem.W.mg_of X G a8, b8⟩,
    ⟨F9, PySem.W.mg_of X G a9, b9⟩,
    ⟨F10, PySem.W.mg_of X G a10, b10⟩,
    ⟨F11, PySem.W.mg_of X G a11, b11⟩,
    ⟨F12, PySem.W.mg_of X G a12, b12⟩,
    ⟨F13, PySem.W.mg_of X G a13, b13⟩,
    ⟨F14, PySem.W.mg_of X G a14, b14⟩,
    ⟨F15, PySem.W.mg_of X G a15, b15⟩,
    ⟨F16, PySem.W.mg_of X G a16, b16⟩,
    ⟨F17, PySem.W.mg_of X G a17, b17⟩,
    ⟨F18, PySem.W.mg_of X G a18, b18⟩,
    ⟨F19, PySem.W.mg_of X G a19, b19⟩,
    ⟨F20, PySem.W.mg_of X G a20, b20⟩,
    ⟨F21, PySem.W.mg_of X G a21, b21⟩,
    ⟨F22, PySem.W.mg_of X G a22, b22⟩,
    ⟨F23, PySem.W.mg_of X G a23, b23⟩,
    ⟨F24, PySem.W.mg_of X G a24, b24⟩,
    ⟨F25, PySem.W.mg_of X G a25, b25⟩,
    ⟨F26, PySem.W.mg_of X G a26, b26⟩,
    ⟨F27, PySem.W.mg_of X G a27, b27⟩,
    PySem.W.mg_of X G n_FormError,
    PySem.W.mg_of X G n_BadNumber,
    PySem.W.mg_of X G n_BadRow,
    PySem.W.mg_of X G n_BadCheck,
    PySem.W.mg_of X G n_NoKey,
    PySem.W.mg_of X G n_BadVersion,
    PySem.W.mg_of X G n_BadBook,
    PySem.W.mg_of X G n_BadValue,
    PySem.W.mg_of X G n_BadText,
    PySem.W.mg_of X G n_BadWire,
    PySem.W.mg_of X G n_NotKin,
    ⟨_, PySem.W.mg_of X G v_MOST_NUMBER⟩,
    ⟨_, PySem.W.mg_of X G v_MOST_WHOLE⟩,
    ⟨_, PySem.W.mg_of X G v_CHECK_START⟩,
    ⟨_, PySem.W.mg_of X G v_CHECK_END⟩,
    ⟨_, PySem.W.mg_of X G v_CHECK_LAID_OVER⟩,
    ⟨_, PySem.W.mg_of X G v_SIGNS⟩,
    q_NoneType_int,
    q_NoneType_bool,
    q_NoneType_str,
    q_NoneType_list,
    q_NoneType_tuple,
    q_bool_int,
    q_bool_str,
    q_bool_list,
    q_bool_tuple,
    q_int_bool,
    q_int_str,
    q_int_list,
    q_int_tuple,
    q_str_int,
    q_str_bool,
    q_str_list,
    q_str_tuple,
    q_tuple_int,
    q_tuple_bool,
    q_tuple_str,
    q_tuple_list,
    q_list_int,
    q_list_bool,
    q_list_str,
    q_list_tuple,
    q_dict_int,
    q_dict_bool,
    q_dict_str,
    q_dict_list,
    q_dict_tuple,
    q_BadNumber_BadNumber,
    q_BadNumber_BadRow,
    q_BadNumber_BadBook,
    q_BadNumber_BadValue,
    q_BadNumber_BadText,
    q_BadNumber_BadWire,
    q_BadNumber_BadCheck,
    q_BadNumber_NotKin,
    q_BadNumber_NoKey,
    q_BadNumber_BadVersion,
    q_BadRow_BadNumber,
    q_BadRow_BadRow,
    q_BadRow_BadBook,
    q_BadRow_BadValue,
    q_BadRow_BadText,
    q_BadRow_BadWire,
    q_BadRow_BadCheck,
    q_BadRow_NotKin,
    q_BadRow_NoKey,
    q_BadRow_BadVersion,
    q_BadText_BadNumber,
    q_BadText_BadRow,
    q_BadText_BadBook,
    q_BadText_BadValue,
    q_BadText_BadText,
    q_BadText_BadWire,
    q_BadText_BadCheck,
    q_BadText_NotKin,
    q_BadText_NoKey,
    q_BadText_BadVersion,
    q_BadNumber_v,
    q_BadRow_v,
    q_BadText_v,
    x_BadNumber,
    x_BadRow,
    x_BadText,
    e_BadNumber,
    e_BadRow,
    ⟨h1_BadNumber, h2_BadNumber, h3_BadNumber, h4_BadNumber, h5_BadNumber, h6_BadNumber, h7_BadNumber, h8_BadNumber⟩,
    ⟨h1_BadRow, h2_BadRow, h3_BadRow, h4_BadRow, h5_BadRow, h6_BadRow, h7_BadRow, h8_BadRow⟩,
    ⟨h1_BadText, h2_BadText, h3_BadText, h4_BadText, h5_BadText, h6_BadText, h7_BadText, h8_BadText⟩,
    ⟨⟨_, _, _, _, _, _, _, _, _, _, _, _, _, _, g1_BadText, g2_BadText, g3_BadText⟩, w1, w2, i1, g4_BadText, g5_BadText⟩,
    ⟨w3, w4, w5⟩,
    n_place⟩
  exact ⟨_, fun s v => .of_eq rfl, fun base _ _ => ok_law T⟩
theorem walkX {q : Program} {loose : List Str} {XP : (Str → Option Value) → Heap → Prop} {K : Params → PySem.W.Frag} {as : List Addr} {n t : Nat} {r : PySem.W.RowW} {d : DefRec} {kwd : List (Str × Expr)} {run : Value → List Value → Sem Value} (e : ∀ P, as = (K P).map (·.1))
    (g : PySem.W.WalkO q loose XP (fun w h => (K w.params).In h) r d kwd run) : PySem.W.WalkX q loose XP (PySem.W.X.obsZ as) (PySem.W.X.valZ K n t) r d kwd run :=
  fun w s₀ s₁ mg mb G y a o pm cd doc dV kV ho hd hcd hD hmg hg args vals bs L hpre hlay hrd hwl hlo =>
    g w s₀ s₁ mg mb G (PySem.W.InK.keeps w _ _ (PySem.W.X.z_facts e y).2.1 L.keeps) a o pm cd doc dV kV ho hd hcd hD hmg hg args vals bs hpre hlay hrd hwl hlo
theorem walk {l : PySem.W.OpenLaw} {q : Program} {loose : List Str} {XP : (Str → Option Value) → Heap → Prop} {YP : World → Heap → Prop} {d : DefRec} {K : Params → PySem.W.Frag} (hn : l.most = some 63) (hdf : d.params.defaults = [])
    (hY : ∀ (w : World) (h : Heap), YP w h → (K w.params).In h)
    (F : ∀ (w : World) (mg : Str → Option Value) (fa : Addr) (h : Heap), (K w.params).In h → h.Ns mainGlobals mg → mg d.name = some (.ref fa) →
      ∃ fd : FuncData, (∀ (s : Shared) (u : Value), BindsTo s fd ⟨[u], []⟩ [("_law_script", u)]) ∧ ∀ base : Heap, (K w.params).In base → base.Ns mainGlobals mg → FnOk l.prog w (K w.params) mg base CX0 9 fa fd ["_law_script"] (spLaw (K w.params))) :
    PySem.W.WalkO q loose XP YP l.row.toRowW d [] (fun f vs => PySem.call f vs) :=
  L2.walk_of (n := 63) (k := 9) (x := "_law_script") (CX := fun _ => CX0) (sp := fun w => spLaw (K w.params)) hn (by decide) hdf ⟨by decide, by decide⟩ hY F (fun _ _ a ns hl hb _ hS => ⟨a, ns, rfl, hS, hl, hb, fun _ => rfl⟩) (fun _ _ _ _ _ z => z) fun _ => rfl
end K4
open PySem PySem.W PyProof.Rows
set_option maxRecDepth 100000 in
set_option maxHeartbeats 0 in
theorem PySem.Challenge.cw_formkin_k04_folded_packed_and_texts_holds : PySem.Challenge.rw_formkin_k04_folded_packed_and_texts.Holds := by
  w_on; o_law; z_head; (case hw => w_witness2)
  k_fill
  refine K4.walkX (fun _ => rfl) (K4.walk (l := PySem.Challenge.rw_formkin_k04_folded_packed_and_texts) rfl rfl (fun _ _ Y => Y) ?F)
  case F =>
    intro w mg fa h KX G hmg
    refine' K4.all_mk KX G hmg ?n_FormError ?n_BadNumber ?n_BadRow ?n_BadCheck ?n_NoKey ?n_BadVersion ?n_BadBook ?n_BadValue ?n_BadText ?n_BadWire ?n_NotKin ?a1 ?i1 ?l1 ?c1 ?k1 ?a2 ?l2 ?c2 ?k2 ?a3 ?l3 ?c3 ?k3 ?a4 ?l4 ?c4 ?k4 ?a5 ?l5 ?c5 ?k5 ?a6 ?l6 ?c6 ?k6 ?a7 ?l7 ?c7 ?k7 ?a8 ?l8 ?c8 ?k8 ?a9 ?l9 ?c9 ?k9 ?a10 ?l10 ?c10 ?k10 ?a11 ?l11 ?c11 ?k11 ?a12 ?l12 ?c12 ?k12 ?a13 ?l13 ?c13 ?k13 ?a14 ?l14 ?c14 ?k14 ?a15 ?l15 ?c15 ?k15 ?a16 ?l16 ?c16 ?k16 ?a17 ?l17 ?c17 ?k17 ?a18 ?l18 ?c18 ?k18 ?a19 ?l19 ?c19 ?k19 ?a20 ?l20 ?c20 ?k20 ?a21 ?l21 ?c21 ?k21 ?a22 ?l22 ?c22 ?k22 ?a23 ?l23 ?c23 ?k23 ?a24 ?l24 ?c24 ?k24 ?a25 ?l25 ?c25 ?k25 ?a26 ?l26 ?c26 ?k26 ?a27 ?l27 ?c27 ?k27 ?v_MOST_NUMBER ?v_MOST_WHOLE ?v_CHECK_START ?v_CHECK_END ?v_CHECK_LAID_OVER ?v_SIGNS ?z_len ?z_range ?z_isinstance ?z_max ?z_min ?z_sum ?z_all ?z_enumerate ?z_int ?z_bool ?z_list ?z_tuple ?z_str ?z_ValueError ?q_NoneType_int ?q_NoneType_bool ?q_NoneType_str ?q_NoneType_list ?q_NoneType_tuple ?q_bool_int ?q_bool_str ?q_bool_list ?q_bool_tuple ?q_int_bool ?q_int_str ?q_int_list ?q_int_tuple ?q_str_int ?q_str_bool ?q_str_list ?q_str_tuple ?q_tuple_int ?q_tuple_bool ?q_tuple_str ?q_tuple_list ?q_list_int ?q_list_bool ?q_list_str ?q_list_tuple ?q_dict_int ?q_dict_bool ?q_dict_str ?q_dict_list ?q_dict_tuple ?q_BadNumber_BadNumber ?q_BadNumber_BadRow ?q_BadNumber_BadBook ?q_BadNumber_BadValue ?q_BadNumber_BadText ?q_BadNumber_BadWire ?q_BadNumber_BadCheck ?q_BadNumber_NotKin ?q_BadNumber_NoKey ?q_BadNumber_BadVersion ?q_BadRow_BadNumber ?q_BadRow_BadRow ?q_BadRow_BadBook ?q_BadRow_BadValue ?q_BadRow_BadText ?q_BadRow_BadWire ?q_BadRow_BadCheck ?q_BadRow_NotKin ?q_BadRow_NoKey ?q_BadRow_BadVersion ?q_BadText_BadNumber ?q_BadText_BadRow ?q_BadText_BadBook ?q_BadText_BadValue ?q_BadText_BadText ?q_BadText_BadWire ?q_BadText_BadCheck ?q_BadText_NotKin ?q_BadText_NoKey ?q_BadText_BadVersion ?q_BadNumber_v ?q_BadRow_v ?q_BadText_v ?x_BadNumber ?x_BadRow ?x_BadText ?e_BadNumber ?e_BadRow ?h1_BadNumber ?h2_BadNumber ?h3_BadNumber ?h4_BadNumber ?h5_BadNumber ?h6_BadNumber ?h7_BadNumber ?h8_BadNumber ?h1_BadRow ?h2_BadRow ?h3_BadRow ?h4_BadRow ?h5_BadRow ?h6_BadRow ?h7_BadRow ?h8_BadRow ?h1_BadText ?h2_BadText ?h3_BadText ?h4_BadText ?h5_BadText ?h6_BadText ?h7_BadText ?h8_BadText ?g1_BadText ?g2_BadText ?g3_BadText ?g4_BadText ?g5_BadText ?w1 ?w2 ?w3 ?w4 ?w5 ?n_place
    (case n_FormError => k_is)
    (case n_BadNumber => k_is)
    (case n_BadRow => k_is)
    (case n_BadCheck => k_is)
    (case n_NoKey => k_is)
    (case n_BadVersion => k_is)
    (case n_BadBook => k_is)
    (case n_BadValue => k_is)
    (case n_BadText => k_is)
    (case n_BadWire => k_is)
    (case n_NotKin => k_is)
    (case a1 => k_is)
    (case i1 => k_is)
    (case l1 => k_is)
    (case c1 => k_is)
    (case k1 => k_is)
    (case a2 => k_is)
    (case l2 => k_is)
    (case c2 => k_is)
    (case k2 => k_is)
    (case a3 => k_is)
    (case l3 => k_is)
    (case c3 => k_is)
    (case k3 => k_is)
    (case a4 => k_is)
    (case l4 => k_is)
    (case c4 => k_is)
    (case k4 => k_is)
    (case a5 => k_is)
    (case l5 => k_is)
    (case c5 => k_is)
    (case k5 => k_is)
    (case a6 => k_is)
    (case l6 => k_is)
    (case c6 => k_is)
    (case k6 => k_is)
    (case a7 => k_is)
    (case l7 => k_is)
    (case c7 => k_is)
    (case k7 => k_is)
    (case a8 => k_is)
    (case l8 => k_is)
    (case c8 => k_is)
    (case k8 => k_is)
    (case a9 => k_is)
    (case l9 => k_is)
    (case c9 => k_is)
    (case k9 => k_is)
    (case a10 => k_is)
    (case l10 => k_is)
    (case c10 => k_is)
    (case k10 => k_is)
    (case a11 => k_is)
    (case l11 => k_is)
    (case c11 => k_is)
    (case k11 => k_is)
    (case a12 => k_is)
    (case l12 => k_is)
    (case c12 => k_is)
    (case k12 => k_is)
    (case a13 => k_is)
    (case l13 => k_is)
    (case c13 => k_is)
    (case k13 => k_is)
    (case a14 => k_is)
    (case l14 => k_is)
    (case c14 => k_is)
    (case k14 => k_is)
    (case a15 => k_is)
    (case l15 => k_is)
    (case c15 => k_is)
    (case k15 => k_is)
    (case a16 => k_is)
    (case l16 => k_is)
    (case c16 => k_is)
    (case k16 => k_is)
    (case a17 => k_is)
    (case l17 => k_is)
    (case c17 => k_is)
    (case k17 => k_is)
    (case a18 => k_is)
    (case l18 => k_is)
    (case c18 => k_is)
    (case k18 => k_is)
    (case a19 => k_is)
    (case l19 => k_is)
    (case c19 => k_is)
    (case k19 => k_is)
    (case a20 => k_is)
    (case l20 => k_is)
    (case c20 => k_is)
    (case k20 => k_is)
    (case a21 => k_is)
    (case l21 => k_is)
    (case c21 => k_is)
    (case k21 => k_is)
    (case a22 => k_is)
    (case l22 => k_is)
    (case c22 => k_is)
    (case k22 => k_is)
    (case a23 => k_is)
    (case l23 => k_is)
    (case c23 => k_is)
    (case k23 => k_is)
    (case a24 => k_is)
    (case l24 => k_is)
    (case c24 => k_is)
    (case k24 => k_is)
    (case a25 => k_is)
    (case l25 => k_is)
    (case c25 => k_is)
    (case k25 => k_is)
    (case a26 => k_is)
    (case l26 => k_is)
    (case c26 => k_is)
    (case k26 => k_is)
    (case a27 => k_is)
    (case l27 => k_is)
    (case c27 => k_is)
    (case k27 => k_is)
    (case v_MOST_NUMBER => k_is)
    (case v_MOST_WHOLE => k_is)
    (case v_CHECK_START => k_is)
    (case v_CHECK_END => k_is)
    (case v_CHECK_LAID_OVER => k_is)
    (case v_SIGNS => k_is)
    (case z_len => k_is)
    (case z_range => k_is)
    (case z_isinstance => k_is)
    (case z_max => k_is)
    (case z_min => k_is)
    (case z_sum => k_is)
    (case z_all => k_is)
    (case z_enumerate => k_is)
    (case z_int => k_is)
    (case z_bool => k_is)
    (case z_list => k_is)
    (case z_tuple => k_is)
    (case z_str => k_is)
    (case z_ValueError => k_is)
    (case q_NoneType_int => kit_is)
    (case q_NoneType_bool => kit_is)
    (case q_NoneType_str => kit_is)
    (case q_NoneType_list => kit_is)
    (case q_NoneType_tuple => kit_is)
    (case q_bool_int => kit_is)
    (case q_bool_str => kit_is)
    (case q_bool_list => kit_is)
    (case q_bool_tuple => kit_is)
    (case q_int_bool => kit_is)
    (case q_int_str => kit_is)
    (case q_int_list => kit_is)
    (case q_int_tuple => kit_is)
    (case q_str_int => kit_is)
    (case q_str_bool => kit_is)
    (case q_str_list => kit_is)
    (case q_str_tuple => kit_is)
    (case q_tuple_int => kit_is)
    (case q_tuple_bool => kit_is)
    (case q_tuple_str => kit_is)
    (case q_tuple_list => kit_is)
    (case q_list_int => kit_is)
    (case q_list_bool => kit_is)
    (case q_list_str => kit_is)
    (case q_list_tuple => kit_is)
    (case q_dict_int => kit_is)
    (case q_dict_bool => kit_is)
    (case q_dict_str => kit_is)
    (case q_dict_list => kit_is)
    (case q_dict_tuple => kit_is)
    (case q_BadNumber_BadNumber => kit_is)
    (case q_BadNumber_BadRow => kit_is)
    (case q_BadNumber_BadBook => kit_is)
    (case q_BadNumber_BadValue => kit_is)
    (case q_BadNumber_BadText => kit_is)
    (case q_BadNumber_BadWire => kit_is)
    (case q_BadNumber_BadCheck => kit_is)
    (case q_BadNumber_NotKin => kit_is)
    (case q_BadNumber_NoKey => kit_is)
    (case q_BadNumber_BadVersion => kit_is)
    (case q_BadRow_BadNumber => kit_is)
    (case q_BadRow_BadRow => kit_is)
    (case q_BadRow_BadBook => kit_is)
    (case q_BadRow_BadValue => kit_is)
    (case q_BadRow_BadText => kit_is)
    (case q_BadRow_BadWire => kit_is)
    (case q_BadRow_BadCheck => kit_is)
    (case q_BadRow_NotKin => kit_is)
    (case q_BadRow_NoKey => kit_is)
    (case q_BadRow_BadVersion => kit_is)
    (case q_BadText_BadNumber => kit_is)
    (case q_BadText_BadRow => kit_is)
    (case q_BadText_BadBook => kit_is)
    (case q_BadText_BadValue => kit_is)
    (case q_BadText_BadText => kit_is)
    (case q_BadText_BadWire => kit_is)
    (case q_BadText_BadCheck => kit_is)
    (case q_BadText_NotKin => kit_is)
    (case q_BadText_NoKey => kit_is)
    (case q_BadText_BadVersion => kit_is)
    (case q_BadNumber_v => kit_is)
    (case q_BadRow_v => kit_is)
    (case q_BadText_v => kit_is)
    (case x_BadNumber => kts_exm)
    (case x_BadRow => kts_exm)
    (case x_BadText => kts_exm)
    (case e_BadNumber => k_exc)
    (case e_BadRow => k_exc)
    (case h1_BadNumber => k_is)
    (case h2_BadNumber => k_is)
    (case h3_BadNumber => k_is)
    (case h4_BadNumber => k_is)
    (case h5_BadNumber => k_is)
    (case h6_BadNumber => k_is)
    (case h7_BadNumber => k_is)
    (case h8_BadNumber => k_is)
    (case h1_BadRow => k_is)
    (case h2_BadRow => k_is)
    (case h3_BadRow => k_is)
    (case h4_BadRow => k_is)
    (case h5_BadRow => k_is)
    (case h6_BadRow => k_is)
    (case h7_BadRow => k_is)
    (case h8_BadRow => k_is)
    (case h1_BadText => k_is)
    (case h2_BadText => k_is)
    (case h3_BadText => k_is)
    (case h4_BadText => k_is)
    (case h5_BadText => k_is)
    (case h6_BadText => k_is)
    (case h7_BadText => k_is)
    (case h8_BadText => k_is)
    (case g1_BadText => k_is)
    (case g2_BadText => kernel_rfl)
    (case g3_BadText => k_is)
    (case g4_BadText => k_is)
    (case g5_BadText => k_is)
    (case w1 => k_exc)
    (case w2 => k_is)
    (case w3 => k_is)
    (case w4 => k_is)
    (case w5 => k_is)
    (case n_place => k_is)
#print axioms PySem.Challenge.cw_formkin_k04_folded_packed_and_texts_holds
