import PyProof.Rows.All
import Wide.All
import OpenK.AllK
import Wide.FinOn
import Lean
import PyProof.EqAt
import PyProof.EqKinds
import PyProof.TupleCall
import PyProof.CallStr
import PyProof.AutoIntG2
import PySem.Challenge.RW_formkin_k07_kinds
set_option Elab.async false
set_option linter.all false
set_option maxRecDepth 100000
namespace HL
open PySem PySem.W PyProof.Rows
/-! The top at once: what the module's text leaves, by one run of the kernel, with nothing of it written out. -/
noncomputable abbrev tbQ : String → Option Builtin := PySem.W.Fast.tw14364793385576792824
noncomputable abbrev topGoQ := PySem.W.Fast.tw15667345088766844465
noncomputable abbrev segRunQ := PySem.W.Fast.tw14374325043358763698
noncomputable abbrev segRunTQ := PySem.W.Fast.tw10110043849684766642
noncomputable abbrev denoteQ := PySem.W.Fast.tw11892475500146522536
noncomputable abbrev pos0 : Pos := ⟨0, 0, 0, 0⟩
noncomputable abbrev ann6 : Option Value := some (.ref 6)
noncomputable def env (p : Program) : Env := { scope := p.main.scope, locals := mainNs, globals := mainNs, cells := [], code := .ref 13, frame := some 14 }
noncomputable def code (p : Program) : Code := .body (behindTheImports p) (env p)
noncomputable def qs (l : List Nat) : Str := ⟨⟨l⟩⟩
noncomputable def sMod : Str := qs [60, 109, 111, 100, 117, 108, 101, 62]
noncomputable def sCut : Str := qs [47, 99, 108, 97, 105, 109, 47, 99, 117, 116, 46, 112, 121]
noncomputable def sMain : Str := qs [95, 95, 109, 97, 105, 110, 95, 95]
noncomputable def o11 : Obj := { cls := .type PySem.W.SL.s2766695959194262286x5, data := .seq #[] }
noncomputable def o12 : Obj := { cls := .none, data := .fields #[] }
noncomputable def o13 : Obj := { cls := .type PySem.W.SL.s5856160107412720595x4, data := .fields #[.str sMod 182, .str sMod 183, .str sCut 184, .int 1 0, .int 0 0, .int 0 0, .int 0 0, .int 0 0, .ref 11, .bool false, .int 181 0, .ref 12, .none, .none, .none, .none, .int 185 0, .int 1 0, .str sCut 186] }
noncomputable def o14 : Obj := { cls := .type PySem.W.SL.s658472552662922059x5, slots := #[some (.ref 13), some (.ref 3), some (.ref 3), none, some (.str sMain 164), none, some (.ref 0)] }
noncomputable abbrev lf (o : Obj) : BT := .node o .nil .nil
noncomputable def tree0 (P : Params) : BT :=
  .node (boot_o_0 P) (.node (boot_o_1 P) (.node (boot_o_3 P) (lf (boot_o_7 P)) (lf o11)) (.node (boot_o_5 P) (lf (boot_o_9 P)) (lf o13)))
    (.node (boot_o_2 P) (.node (boot_o_4 P) (lf (boot_o_8 P)) (lf o12)) (.node (boot_o_6 P) (lf (boot_o_10 P)) (lf o14)))
noncomputable def S0 (w : World) (os : OsState) : SharedT := ⟨tree0 w.params, 15, {}, #[], {}, 187, os⟩
noncomputable def S00 (w : World) (os : OsState) : Shared := ⟨boot_heap w.params, #[], boot_drawn, boot_toks, os⟩
noncomputable def T0 (p : Program) : Thread := piecesOf (behindTheImports p) (env p) (code p) pos0 [topFrame pos0]
noncomputable def R (p : Program) (n : Nat) (w : World) (os : OsState) : Option (Flow × SharedT × Code × Pos) := segRunTQ tbQ p w 11 ann6 1 n (S0 w os) (T0 p)
noncomputable abbrev modsQ (p : Program) := PySem.W.Fast.tw5923862056798008813 p.main.body
noncomputable abbrev recsQ (q : Program) := PySem.W.Fast.tw3399658132070893891 q
noncomputable abbrev looseQ (q : Program) (lo : List Str) := PySem.W.Fast.tw821141287760084731 q lo
noncomputable abbrev drecsQ (q : Program) := PySem.W.Fast.tw3247288618530077131 q
noncomputable def look1 (p : Program) (P : Params) (s : Shared) : Bool :=
  staticsOk (modsQ p) (boot_heap P) s.heap && namesBound p s.heap && gensDone s && laidKept (boot_heap P) s.heap
noncomputable def look2 (q : Program) (s : Shared) := PySem.W.Fast.tw5160383126252970620 (PySem.W.R.mapR (fun x => x.name) (recsQ q)) (PySem.W.Fast.tw5991557255702980513 q) [] { s with gens := #[] }
noncomputable def look4 (p q : Program) (lo : List Str) (s : Shared) : Bool :=
  PySem.W.Fast.tw10880121769531294198 s.heap (looseQ q lo) (PySem.W.R.mapR (fun x => x.name) (recsQ q)) (PySem.W.R.mapR (fun x => x.fst) (PySem.W.Fast.tw7409074990110511671 q)) (PySem.W.R.mapR (fun x => x.name) (PySem.W.Fast.tw13664370479719496447 q (looseQ q lo)))
    && PySem.W.Fast.tw14722251495701143533 s.heap (modsQ p) && s.heap.isNs mainGlobals && s.heap.isNs builtinsNs && PySem.W.Fast.tw10994771534591457954 q s.heap && (xlAt q [] s && recOk [] s) && (s.gens.size == 0)
noncomputable def looks (p q : Program) (lo : List Str) (P : Params) (s : Shared) := (look1 p P s, look2 q s, s.heap.bltView, look4 p q lo s, PySem.W.Fast.tw479339242167458305 q s,
  PySem.W.Fast.tw16090120013241838585 q (drecsQ q) s, PySem.W.Fast.tw2386780881361962483 q (looseQ q lo) s,
  PySem.W.Fast.tw11698064438423848299 q lo s, PySem.W.Fast.tw7317090234206586261 q s, PySem.W.Fast.tw7369524293546568484 q lo s)
noncomputable def goods (q : Program) (lo : List Str) := (true, expectedOf q, bltViewBooted, true, true, pinGoodD (drecsQ q), plainGoodE q (looseQ q lo), plainGoodD q lo, wideGood q, clsGoodW q lo)

open PySem.W.Fast in
theorem slow_pre {p : Program} {w : World} {os : OsState} (h : topGoQ tbQ p w 11 ann6 12 (S00 w os) (topStub p) = some ((S0 w os).abs, ⟨denoteQ tbQ (code p), code p, pos0, [topFrame pos0]⟩)) :
    topGo treeTable p w 11 ann6 12 (S00 w os) (topStub p) = some ((S0 w os).abs, ⟨denote treeTable (code p), code p, pos0, [topFrame pos0]⟩) := by
  rw [te15667345088766844465, te14364793385576792824, te11892475500146522536]; exact h
open PySem.W.Fast in
theorem slow_block {p : Program} {w : World} {s : Shared} (h : segRunQ tbQ p w 11 ann6 1 1 s (blockOf (behindTheImports p) (env p) (code p) pos0 [topFrame pos0]) = some (.next, s, code p, pos0)) :
    segRun treeTable p w 11 ann6 1 1 s (blockOf (behindTheImports p) (env p) (code p) pos0 [topFrame pos0]) = some (.next, s, code p, pos0) := by
  rw [te14374325043358763698, te14364793385576792824]; exact h
open PySem.W.Fast in
theorem slow_run {p : Program} {n : Nat} {w : World} {os : OsState} {x : Flow × SharedT × Code × Pos} (h : R p n w os = some x) : segRunT treeTable p w 11 ann6 1 n (S0 w os) (T0 p) = some x := by
  rw [te10110043849684766642, te14364793385576792824]; exact h
theorem fin_run {p : Program} {w : World} {c : Code} {q : Pos} : ∀ s : Shared, topRun treeTable p w 11 ann6 2 s ⟨doneF .next, c, q, [topFrame pos0]⟩ = some s
  | ⟨_, _, _, _, _⟩ => rfl
theorem whole_run {p : Program} {n : Nat} {w : World} {os : OsState} {s : SharedT} {q : Pos}
    (hpre : topGoQ tbQ p w 11 ann6 12 (S00 w os) (topStub p) = some ((S0 w os).abs, ⟨denoteQ tbQ (code p), code p, pos0, [topFrame pos0]⟩))
    (hblk : ∀ s, segRunQ tbQ p w 11 ann6 1 1 s (blockOf (behindTheImports p) (env p) (code p) pos0 [topFrame pos0]) = some (.next, s, code p, pos0))
    (h : R p n w os = some (.next, s, code p, q)) : topRun treeTable p w 11 ann6 (12 + (1 + (n + 2))) (S00 w os) (topStub p) = some s.abs := by
  refine go_top (slow_pre hpre) (piece_block (slow_block (hblk _)) ?_)
  have e := piece_app (rest := []) (segRun_of (slow_run h)) (piece_nil (fin_run (q := q) s.abs))
  rw [List.append_nil] at e
  exact e
open PySem.W.Fast in
theorem slow_looks {p q : Program} {lo : List Str} {P : Params} {s : Shared} (h : looks p q lo P s = goods q lo) :
    (staticsOk (importedModules p.main.body) (boot_heap P) s.heap && namesBound p s.heap && gensDone s && laidKept (boot_heap P) s.heap) = true ∧
    openSeen q lo (importedModules p.main.body) (fun s => xlAt q [] s && recOk [] s) true s = openGood q lo := by
  simp only [looks, goods, Prod.mk.injEq] at h
  obtain ⟨a, b, c, d, e, f, g, i, j, k⟩ := h
  refine ⟨?_, ?_⟩
  · rw [te5923862056798008813]; exact a
  · unfold openSeen openGood
    simp only [Prod.mk.injEq]
    refine ⟨?_, c, ?_, ?_, ?_, ?_, ?_, ?_, ?_⟩
    · rw [PySem.W.R.mapR_eq, te5160383126252970620, te3399658132070893891, te5991557255702980513]; exact b
    · rw [PySem.W.R.mapR_eq, te10880121769531294198, te821141287760084731, te3399658132070893891, te7409074990110511671, te13664370479719496447, te14722251495701143533, te5923862056798008813, te10994771534591457954]; exact d
    · rw [te479339242167458305]; exact e
    · rw [te16090120013241838585, te3247288618530077131]; exact f
    · rw [te2386780881361962483, te821141287760084731]; exact g
    · rw [te11698064438423848299]; exact i
    · rw [te7317090234206586261]; exact j
    · rw [te7369524293546568484]; exact k
noncomputable def lk {α : Type} (p q : Program) (lo : List Str) (Yf : Shared → α) (w : World) (s : SharedT) := (looks p q lo w.params s.abs, Yf s.abs)
theorem some_of {α β γ : Type} {o : Option (Flow × α × β)} {f : α → γ} {y : Flow} {z : β} {g : γ} (h : o.map (fun x => (x.1, x.2.2, f x.2.1)) = some (y, z, g)) : ∃ s, o = some (y, s, z) ∧ f s = g := by
  cases o with
  | none => cases h
  | some x =>
    obtain ⟨a, b, c⟩ := x
    have e := Option.some.inj h
    simp only [Prod.mk.injEq] at e
    obtain ⟨rfl, rfl, rfl⟩ := e
    exact ⟨b, rfl, rfl⟩
theorem left_of {p q : Program} {lo : List Str} {n N : Nat} {pos : Pos} {α : Type} {Yf : Shared → α} {Ya : World → α}
    (h1 : opening p = plainProg p.main.scope.names) (h2 : ∀ s, fenceModules? p s = some s)
    (hpre : ∀ w os, topGoQ tbQ p w 11 ann6 12 (S00 w os) (topStub p) = some ((S0 w os).abs, ⟨denoteQ tbQ (code p), code p, pos0, [topFrame pos0]⟩))
    (hblk : ∀ w s, segRunQ tbQ p w 11 ann6 1 1 s (blockOf (behindTheImports p) (env p) (code p) pos0 [topFrame pos0]) = some (.next, s, code p, pos0))
    (hrun : ∀ w os, (R p n w os).map (fun x => (x.1, x.2.2, lk p q lo Yf w x.2.1)) = some (.next, (code p, pos), (goods q lo, Ya w)))
    (hsz : ∀ P : Params, (boot_heap P).isNs mainGlobals = true ∧ (boot_heap P).objs.size = 11 ∧ (boot_heap P).nsMap mainGlobals "__annotations__" = ann6)
    (hN : Nat.ble 600 N = true) (hM : 12 + (1 + (n + 2)) ≤ N) : LeftO p q lo (fun s => xlAt q [] s && recOk [] s) Yf Ya N := by
  intro w
  obtain ⟨⟨hp, gs, d, k, os⟩, e, e'⟩ := Option.map_eq_some_iff.mp (boot_open h1 hN h2 w)
  simp only [Prod.mk.injEq] at e'
  obtain ⟨rfl, rfl, rfl, rfl⟩ := e'
  obtain ⟨s, hs, hf⟩ := some_of (f := lk p q lo Yf w) (hrun w os)
  have hf1 : looks p q lo w.params s.abs = goods q lo := congrArg Prod.fst hf
  have hf2 : Yf s.abs = Ya w := congrArg Prod.snd hf
  obtain ⟨l1, l2⟩ := slow_looks hf1
  have r := topRun_mono (N - (12 + (1 + (n + 2)))) _ _ _ _ (whole_run (hpre w os) (hblk w) hs)
  rw [Nat.add_sub_cancel' hM] at r
  obtain ⟨z1, z2, z3⟩ := hsz w.params
  have t : topFrom treeTable p w N (S00 w os) = some s.abs := by
    unfold topFrom
    have z : ((S00 w os).heap.isNs mainGlobals && (S00 w os).gens.size == 0) = true := by
      show ((boot_heap w.params).isNs mainGlobals && _) = true
      rw [z1]; rfl
    rw [z]
    dsimp only
    rw [show (S00 w os).heap.objs.size = 11 from z2, show (S00 w os).heap.nsMap mainGlobals "__annotations__" = ann6 from z3, r]
    dsimp only [Option.bind]
    rw [show (S00 w os).heap = boot_heap w.params from rfl, l1]
  unfold openEnds
  rw [e]
  show ((topFrom treeTable p w N (S00 w os)).map _) = _
  rw [t]
  exact congrArg some (Prod.ext l2 hf2)
end HL

/-! THE HAND LAYER, for ints, bools, texts, own classes, LISTS and tuples (index, slices, in, append, pop ..), calls, loops. Paste it whole ahead of your own text; what your proof does not reach may be deleted. -/
namespace L2
open PySem PySem.Spec PyProof.Rows

/-- a key: an int or a str -/
abbrev Key := Sum Int Str
def keyIs : Key → Value → Bool
  | .inl k, v => Value.isInt k v
  | .inr x, v => Value.isStrOf x v
def keyH (w : World) : Key → Int
  | .inl k => hashInt k
  | .inr x => hashStr w x
theorem keyIs_shape : ∀ {k : Key} {v : Value}, keyIs k v = true → (∃ i t, k = Sum.inl i ∧ v = Value.int i t) ∨ (∃ x t, k = Sum.inr x ∧ v = Value.str x t)
  | .inl i, v, h => by
    obtain ⟨t, e⟩ := Value.isInt_shape (k := i) (v := v) h
    exact .inl ⟨i, t, rfl, e⟩
  | .inr x, v, h => by
    obtain ⟨t, e⟩ := Value.isStrOf_shape (x := x) (v := v) h
    exact .inr ⟨x, t, rfl, e⟩
theorem keyIs_int (i : Int) (t : Tok) : keyIs (.inl i) (.int i t) = true := by simp [keyIs, Value.isInt]
theorem keyIs_str (x : Str) (t : Tok) : keyIs (.inr x) (.str x t) = true := by simp [keyIs, Value.isStrOf]
theorem key_ll (a b : Int) : decide ((Sum.inl a : Key) = Sum.inl b) = (a == b) := by
  by_cases e : a = b
  · subst e; simp
  · have h : ¬ (Sum.inl a : Key) = Sum.inl b := fun q => e (Sum.inl.inj q)
    rw [decide_eq_false h]
    exact (beq_eq_false_iff_ne.mpr e).symm
theorem key_rr (a b : Str) : decide ((Sum.inr a : Key) = Sum.inr b) = decide (a = b) := by
  by_cases e : a = b
  · subst e; simp
  · have h : ¬ (Sum.inr a : Key) = Sum.inr b := fun q => e (Sum.inr.inj q)
    rw [decide_eq_false h, decide_eq_false e]
theorem key_lr (a : Int) (b : Str) : decide ((Sum.inl a : Key) = Sum.inr b) = false := decide_eq_false (fun q => nomatch q)
theorem key_rl (a : Str) (b : Int) : decide ((Sum.inr a : Key) = Sum.inl b) = false := decide_eq_false (fun q => nomatch q)

def mixKind (prog : Program) (w : World) : PySem.KeyKind prog w Key where
  is := keyIs
  hash := keyH w
  inj := fun v a b ha hb => by
    rcases keyIs_shape ha with ⟨i, t, rfl, rfl⟩ | ⟨x, t, rfl, rfl⟩
    · rcases keyIs_shape hb with ⟨j, u, rfl, e⟩ | ⟨y, u, rfl, e⟩
      · injection e with e1 _; rw [e1]
      · exact nomatch e
    · rcases keyIs_shape hb with ⟨j, u, rfl, e⟩ | ⟨y, u, rfl, e⟩
      · exact nomatch e
      · injection e with e1 _; rw [e1]
  byValue := fun k v h => by
    rcases keyIs_shape h with ⟨i, t, rfl, rfl⟩ | ⟨x, t, rfl, rfl⟩ <;> rfl
  pyHash := fun hv h => by
    rcases keyIs_shape hv with ⟨i, t, rfl, rfl⟩ | ⟨x, t, rfl, rfl⟩
    · exact wpAny_pyHash_int h
    · exact wpAny_pyHash_str h
  eqBool := fun hu hv h => by
    rcases keyIs_shape hu with ⟨i, t, rfl, rfl⟩ | ⟨x, t, rfl, rfl⟩
    · rcases keyIs_shape hv with ⟨j, u, rfl, rfl⟩ | ⟨y, u, rfl, rfl⟩
      · rw [key_ll] at h; exact wpAny_eqBool_int h
      · rw [key_lr] at h; exact SeqAt.EqAt.int_str i t y u _ _ _ _ h
    · rcases keyIs_shape hv with ⟨j, u, rfl, rfl⟩ | ⟨y, u, rfl, rfl⟩
      · rw [key_rl] at h; exact SeqAt.EqAt.str_int x t j u _ _ _ _ h
      · rw [key_rr] at h; exact wpAny_eqBool_str h
  «strs» := fun k x t v h => by
    rcases keyIs_shape h with ⟨i, u, rfl, e⟩ | ⟨y, u, rfl, e⟩
    · exact nomatch e
    · injection e with e1 _
      subst e1
      cases v <;> rfl

theorem mixKind_int (prog : Program) (w : World) (i : Int) (t : Tok) : (mixKind prog w).is (.inl i) (.int i t) = true := keyIs_int i t
theorem mixKind_str (prog : Program) (w : World) (x : Str) (t : Tok) : (mixKind prog w).is (.inr x) (.str x t) = true := keyIs_str x t
end L2

namespace L2
open PySem PySem.Spec PyProof.Rows

/-- a value, without the heap -/
inductive V where
  | non | bl (b : Bool) | int (i : Int) | str (x : Str) | byt (b : Array UInt8) | flt (b : UInt64) | ref (a : Addr) | ty (n : String)
  deriving DecidableEq

def RelV : V → Value → Prop
  | .non, u => u = Value.none
  | .bl b, u => u = Value.bool b
  | .int i, u => ∃ t, u = Value.int i t
  | .str x, u => ∃ t, u = Value.str x t
  | .byt b, u => ∃ t, u = Value.bytes b t
  | .flt b, u => ∃ t, u = Value.float b t
  | .ref a, u => u = Value.ref a
  | .ty n, u => u = Value.type n

abbrev Vals : List V → List Value → Prop := Paired RelV
theorem Vals.length {xs : List V} {us : List Value} (r : Vals xs us) : xs.length = us.length := Paired.length r
theorem Vals.get : ∀ {xs : List V} {us : List Value} {i : Nat} {x : V}, Vals xs us → xs[i]? = some x → ∃ u, us[i]? = some u ∧ RelV x u
  | _, _, _, _, .nil, e => by simp at e
  | _, _, 0, _, .cons r _, e => by simp at e; subst e; exact ⟨_, rfl, r⟩
  | _, _, i + 1, x, .cons _ t, e => by
    obtain ⟨u, h1, h2⟩ := Vals.get (i := i) (x := x) t (by simpa using e)
    exact ⟨u, by simpa using h1, h2⟩
theorem Vals.append : ∀ {xs ys : List V} {us ws : List Value}, Vals xs us → Vals ys ws → Vals (xs ++ ys) (us ++ ws)
  | _, _, _, _, .nil, s => s
  | _, _, _, _, .cons r t, s => .cons r (Vals.append t s)
theorem Vals.take : ∀ {xs : List V} {us : List Value} (n : Nat), Vals xs us → Vals (xs.take n) (us.take n)
  | _, _, 0, _ => .nil
  | _, _, _ + 1, .nil => .nil
  | _, _, n + 1, .cons r t => .cons r (Vals.take n t)
theorem Vals.drop : ∀ {xs : List V} {us : List Value} (n : Nat), Vals xs us → Vals (xs.drop n) (us.drop n)
  | _, _, 0, r => r
  | _, _, _ + 1, .nil => .nil
  | _, _, n + 1, .cons _ t => Vals.drop n t
def RelO : Option V → Option Value → Prop
  | some v, some u => RelV v u
  | none, none => True
  | _, _ => False
def KV {κ : Type} : List (κ × V) → List (κ × Value) → Prop := Paired fun (p : κ × V) (q : κ × Value) => p.1 = q.1 ∧ RelV p.2 q.2

/-- a key of a dict (00_mix): an int or a text -/
def kV : Key → V
  | .inl i => .int i
  | .inr x => .str x

/-- what stands at a tracked address -/
inductive HO where
  /-- a list -/
  | lst (xs : List V)
  /-- a tuple (never changes) -/
  | tup (xs : List V)
  /-- a dict whose keys are ints and texts; one whose keys are tuples of ints and texts (the empty one is both) -/
  | dK (kvs : List (Key × V)) | dT (kvs : List (List Key × V))
  /-- a set of ints: its members, its size -/
  | set (S : Int → Bool) (n : Nat)
  /-- an instance of the class at C, its dict at dx, its attributes -/
  | ins (C dx : Addr) (fs : List (Str × V))
  /-- the dict of the instance at x -/
  | own (x : Addr)
  /-- the dict of an exception -/
  | xd (fs : List (Str × V))
  /-- a bound method, f of x -/
  | met (f x : Addr)
  /-- a range object lo, lo + 1, .. below hi -/
  | rng (lo hi : Int)
  /-- a thing that is known to the object (the script; a dict while a loop walks it): read, never written while it is so -/
  | frz (o : Obj) (u : HO)
  /-- a code object's table -/
  | tbl (ps : Array Value)
  /-- any other thing, by what is true of its one object (a def of one's own: SetO a S n := HO.ext fun h => ..) -/
  | ext (φ : Heap → Prop)

abbrev Hp := Addr → Option HO
def upd (H : Hp) (a : Addr) (o : HO) : Hp := fun b => if b = a then some o else H b
theorem upd_same {H : Hp} {a : Addr} {o : HO} : upd H a o a = some o := by unfold upd; rw [if_pos rfl]
theorem upd_ne {H : Hp} {a b : Addr} {o : HO} (h : b ≠ a) : upd H a o b = H b := by unfold upd; rw [if_neg h]
theorem upd_upd {H : Hp} {a : Addr} {o u : HO} : upd (upd H a o) a u = upd H a u := by
  funext b; unfold upd; split <;> rfl
/-- two objects of different content stand apart -/
theorem ne_of {H : Hp} {a b : Addr} {o u : HO} (h : H a = some o) (h' : H b = some u) (d : o ≠ u) : a ≠ b := by
  intro e; subst e; rw [h] at h'; exact d (Option.some.inj h')
theorem ne_of_none {H : Hp} {a b : Addr} {o : HO} (h : H a = some o) (h' : H b = none) : a ≠ b := by
  intro e; subst e; rw [h] at h'; cases h'

section
variable (P : Program) (w : World)
def ObjOk (H : Hp) (h : Heap) (a : Addr) : HO → Prop
  | .lst xs => xs.length ≤ sizeLine ∧ ∃ (its : List Value) (n : Nat), Vals xs its ∧ h.get? a = some { cls := .type "list", data := .seq its.toArray n }
  | .tup xs => xs.length ≤ sizeLine ∧ ∃ its : List Value, Vals xs its ∧ IsTup h a its.toArray
  | .dK kvs => kvs.length ≤ sizeLine ∧ (a == sysModules) = false ∧ ∃ vs, KV kvs vs ∧ h.DictOf (mixKind P w) a vs
  | .dT kvs => kvs.length ≤ sizeLine ∧ (a == sysModules) = false ∧ ∃ xs : List (List Key × Addr × Value),
      Paired (fun (p : List Key × V) (q : List Key × Addr × Value) => p.1 = q.1 ∧ H q.2.1 = some (.tup (p.1.map kV)) ∧ RelV p.2 q.2.2) kvs xs ∧
      ∃ o es ep, h.get? a = some o ∧ o.ExactDict ∧ o.data = .dict es ep ∧ es.toList = xs.map (entryOfKey (tupleKind (mixKind P w))) ∧ (xs.map (·.1)).Nodup
  | .set S n => h.SetOf (intKind P w) a S n
  | .ins C dx fs => H dx = some (.own a) ∧ fs.length ≤ 1000 ∧ dx ≠ a ∧ h.get? a = some (PySem.W.instObj C dx) ∧
      ∃ mA, h.Ns1 dx mA ∧ (∀ f, RelO (fs.lookup f) (mA f)) ∧ PySem.Within mA (fs.map (·.1))
  | .own _ => ∃ o, h.get? a = some o
  | .xd fs => ∃ mA, h.Ns1 a mA ∧ ∀ f, RelO (fs.lookup f) (mA f)
  | .rng lo hi => ∃ t u v, h.get? a = some { cls := .type "range", data := .fields #[.int lo t, .int hi u, .int 1 v] }
  | .frz o u => h.get? a = some o ∧ ObjOk H h a u
  | .tbl ps => h.get? a = some { cls := .none, data := .fields ps }
  | .met f x => h.get? a = some (PySem.W.methodObj (.ref f) (.ref x))
  | .ext φ => φ h ∧ (∃ o, h.get? a = some o) ∧ ∀ h1 h2 : Heap, φ h1 → (∀ o, h1.get? a = some o → h2.get? a = some o) → φ h2
/-- the abstract heap is held -/
def HOk (H : Hp) (h : Heap) : Prop := ∀ a o, H a = some o → ObjOk P w H h a o
end

section
variable {P : Program} {w : World} {H H' : Hp} {h h' : Heap} {a : Addr} {o : HO}
theorem ObjOk.lt (x : ObjOk P w H h a o) : a < h.objs.size := by
  cases o with
  | lst xs => obtain ⟨_, _, _, _, e⟩ := x; exact Heap.lt_size e
  | tup xs => obtain ⟨_, _, _, p⟩ := x; exact p.lt
  | dK kvs => obtain ⟨_, _, _, _, o, _, _, e, _⟩ := x; exact Heap.lt_size e
  | dT kvs => obtain ⟨_, _, _, _, o, _, _, e, _⟩ := x; exact Heap.lt_size e
  | set S n => obtain ⟨o, _, _, _, e, _⟩ := x; exact Heap.lt_size e
  | ins C dx fs => obtain ⟨_, _, _, e, _⟩ := x; exact Heap.lt_size e
  | own y => obtain ⟨_, e⟩ := x; exact Heap.lt_size e
  | xd fs => obtain ⟨_, ⟨_, _, _, e, _⟩, _⟩ := x; exact Heap.lt_size e
  | rng lo hi => obtain ⟨_, _, _, e⟩ := x; exact Heap.lt_size e
  | frz ob u => obtain ⟨e, _⟩ := x; exact Heap.lt_size e
  | tbl ps => exact Heap.lt_size (show h.get? a = some _ from x)
  | met f y => exact Heap.lt_size (show h.get? a = some _ from x)
  | ext φ => obtain ⟨_, ⟨_, e⟩, _⟩ := x; exact Heap.lt_size e
theorem Paired.mapP {α β : Type} {F G : α → β → Prop} : ∀ {l₁ : List α} {l₂ : List β}, Paired F l₁ l₂ → (∀ a b, F a b → G a b) → Paired G l₁ l₂
  | _, _, .nil, _ => .nil
  | _, _, .cons r t, f => .cons (f _ _ r) (Paired.mapP t f)
/-- what an object's description leans on: its own object, its own dict, the tuples -/
theorem ObjOk.stay (x : ObjOk P w H h a o) (k : ∀ b u, (b = a ∨ H b = some (.own a)) → h.get? b = some u → h'.get? b = some u)
    (ho : ∀ b, H b = some (.own a) → H' b = some (.own a)) (ht : ∀ b xs, H b = some (.tup xs) → H' b = some (.tup xs)) : ObjOk P w H' h' a o := by
  induction o with
  | lst xs => obtain ⟨z, its, n, r, e⟩ := x; exact ⟨z, its, n, r, k _ _ (.inl rfl) e⟩
  | tup xs => obtain ⟨z, its, r, ob, e, c⟩ := x; exact ⟨z, its, r, ob, k _ _ (.inl rfl) e, c⟩
  | dK kvs => obtain ⟨z, y, vs, r, ob, es, ep, e, c⟩ := x; exact ⟨z, y, vs, r, ob, es, ep, k _ _ (.inl rfl) e, c⟩
  | dT kvs =>
    obtain ⟨z, y, xs, r, ob, es, ep, e, c⟩ := x
    exact ⟨z, y, xs, Paired.mapP r fun p q z => ⟨z.1, ht _ _ z.2.1, z.2.2⟩, ob, es, ep, k _ _ (.inl rfl) e, c⟩
  | set S n => obtain ⟨ob, es, ep, t, e, c⟩ := x; exact ⟨ob, es, ep, t, k _ _ (.inl rfl) e, c⟩
  | ins C dx fs =>
    obtain ⟨d, z, ne, e, mA, ⟨od, es, ep, e2, c⟩, r⟩ := x
    exact ⟨ho _ d, z, ne, k _ _ (.inl rfl) e, mA, ⟨od, es, ep, k _ _ (.inr d) e2, c⟩, r⟩
  | own y => obtain ⟨ob, e⟩ := x; exact ⟨ob, k _ _ (.inl rfl) e⟩
  | xd fs => obtain ⟨mA, ⟨od, es, ep, e, c⟩, r⟩ := x; exact ⟨mA, ⟨od, es, ep, k _ _ (.inl rfl) e, c⟩, r⟩
  | rng lo hi => obtain ⟨t, u, v, e⟩ := x; exact ⟨t, u, v, k _ _ (.inl rfl) e⟩
  | frz ob u ih => obtain ⟨e, q⟩ := x; exact ⟨k _ _ (.inl rfl) e, ih q⟩
  | tbl ps =>
    have e : h.get? a = some { cls := .none, data := .fields ps } := x
    show h'.get? a = some { cls := .none, data := .fields ps }
    exact k a _ (.inl rfl) e
  | met f y =>
    have e : h.get? a = some (PySem.W.methodObj (.ref f) (.ref y)) := x
    show h'.get? a = some (PySem.W.methodObj (.ref f) (.ref y))
    exact k a _ (.inl rfl) e
  | ext φ => obtain ⟨p, ⟨o, e⟩, st⟩ := x; exact ⟨st _ _ p fun o q => k _ _ (.inl rfl) q, ⟨o, k _ _ (.inl rfl) e⟩, st⟩
theorem HOk.lt (x : HOk P w H h) (e : H a = some o) : a < h.objs.size := (x a o e).lt
theorem HOk.fresh (x : HOk P w H h) (e : h.objs.size ≤ a) : H a = none := by
  cases q : H a with
  | none => rfl
  | some u => exact absurd (Nat.lt_of_lt_of_le (x.lt q) e) (Nat.lt_irrefl _)
/-- every object of the heap is kept -/
theorem HOk.kept (x : HOk P w H h) (k : ∀ b u, h.get? b = some u → h'.get? b = some u) : HOk P w H h' := fun a o e =>
  (x a o e).stay (fun b u _ q => k b u q) (fun _ q => q) fun _ _ q => q
/-- a new object is laid and tracked -/
theorem HOk.laid (x : HOk P w H h) (k : ∀ b u, h.get? b = some u → h'.get? b = some u) (hp : h.objs.size ≤ a) (new : ObjOk P w (upd H a o) h' a o) : HOk P w (upd H a o) h' := fun b u e => by
  have hn := x.fresh hp
  by_cases hb : b = a
  · subst hb; rw [upd_same] at e; cases e; exact new
  · rw [upd_ne hb] at e
    exact (x b u e).stay (fun c v _ q => k c v q) (fun c q => by rw [upd_ne (ne_of_none q hn)]; exact q) fun c xs q => by rw [upd_ne (ne_of_none q hn)]; exact q
end

/-- what may be read as u: it is u, or a known u -/
def Rd (H : Hp) (a : Addr) (u : HO) : Prop := H a = some u ∨ ∃ o, H a = some (.frz o u)
theorem Rd.ok {P : Program} {w : World} {H : Hp} {h : Heap} {a : Addr} {u : HO} (r : Rd H a u) (x : HOk P w H h) : ObjOk P w H h a u := by
  rcases r with r | ⟨o, r⟩
  · exact x a u r
  · obtain ⟨_, q⟩ := x a _ r
    exact q
/-- what may be written -/
def Mut : Option HO → Prop
  | some (.lst _) => True
  | some (.dK _) => True
  | some (.dT _) => True
  | some (.set _ _) => True
  | some (.ins _ _ _) => True
  | some (.xd _) => True
  | some (.ext _) => True
  | _ => False
section
variable {P : Program} {w : World} {H : Hp} {h h' : Heap} {x e : Addr} {o' : HO}
/-- the object at e is changed: x itself, or the dict of the instance x -/
theorem HOk.write (ok : HOk P w H h) (mu : Mut (H x)) (he : e = x ∨ H e = some (.own x)) (k : ∀ b u, b ≠ e → h.get? b = some u → h'.get? b = some u) (heo : ∃ u, h'.get? e = some u)
    (new : ObjOk P w (upd H x o') h' x o') : HOk P w (upd H x o') h' := fun b u q => by
  have nown : ∀ c y, H c = some (.own y) → c ≠ x := fun c y r z => by subst z; rw [r] at mu; exact mu
  have ntup : ∀ c xs, H c = some (.tup xs) → c ≠ x := fun c xs r z => by subst z; rw [r] at mu; exact mu
  by_cases hb : b = x
  · subst hb; rw [upd_same] at q; cases q; exact new
  · rw [upd_ne hb] at q
    by_cases hbe : b = e
    · have q' : H b = some (.own x) := by
        rcases he with z | z
        · exact absurd (hbe.trans z) hb
        · rw [hbe]; exact z
      rw [q] at q'; cases q'
      obtain ⟨v, hv⟩ := heo
      exact ⟨v, by rw [hbe]; exact hv⟩
    · refine (ok b u q).stay (fun c v hc r => k c v ?_ r) (fun c r => by rw [upd_ne (nown c b r)]; exact r) fun c xs r => by rw [upd_ne (ntup c xs r)]; exact r
      rcases hc with rfl | hc
      · exact hbe
      · rintro rfl
        rcases he with z | z
        · exact nown c b hc z
        · rw [hc] at z; cases z; exact hb rfl
end

/-! ### kept unless tracked; of the frames at fs (the callers') the slots may change (an exception that passes writes there); of the records at ex (iterators) nothing is said -/
structure Un (fs ex : List Addr) (H H' : Hp) (h h' : Heap) : Prop where
  keep : ∀ b o, h.get? b = some o → H b = none → b ∉ fs → b ∉ ex → h'.get? b = some o
  slot : ∀ b o, h.get? b = some o → H b = none → b ∈ fs → b ∉ ex → ∃ sl, h'.get? b = some { o with slots := sl }
  free : ∀ b o, h.get? b = some o → H b = none → b ∉ ex → H' b = none
  there : ∀ b o, h.get? b = some o → b ∉ ex → ∃ o', h'.get? b = some o'
  tups : ∀ b xs, H b = some (.tup xs) → H' b = some (.tup xs)
  frzs : ∀ b o u, H b = some (.frz o u) → H' b = some (.frz o u)
  tbls : ∀ b ps, H b = some (.tbl ps) → ∃ more, H' b = some (.tbl (ps ++ more))
section
variable {fs fs' ex ex' : List Addr} {H H1 H2 : Hp} {h h1 h2 h' : Heap} {a x e : Addr} {o : HO}
theorem Un.any (u : Un fs ex H H1 h h1) {b : Addr} {ob : Obj} (q : h.get? b = some ob) (n : H b = none) (hx : b ∉ ex) : ∃ sl, h1.get? b = some { ob with slots := sl } := by
  by_cases hb : b ∈ fs
  · exact u.slot b ob q n hb hx
  · exact ⟨ob.slots, u.keep b ob q n hb hx⟩
theorem Un.kept (k : ∀ b u, h.get? b = some u → h'.get? b = some u) : Un fs ex H H h h' :=
  ⟨fun b ob q _ _ _ => k b ob q, fun b ob q _ _ _ => ⟨ob.slots, k b ob q⟩, fun _ _ _ n _ => n, fun b ob q _ => ⟨ob, k b ob q⟩, fun _ _ q => q, fun _ _ _ q => q, fun _ ps q => ⟨#[], by rw [q]; simp⟩⟩
theorem Un.refl : Un fs ex H H h h := Un.kept fun _ _ q => q
theorem Un.laid (k : ∀ b u, h.get? b = some u → h'.get? b = some u) (hp : h.objs.size ≤ a) (hn : H a = none) : Un fs ex H (upd H a o) h h' where
  keep := fun b u q _ _ _ => k b u q
  slot := fun b u q _ _ _ => ⟨u.slots, k b u q⟩
  free := fun b u q n _ => by rw [upd_ne (Nat.ne_of_lt (Nat.lt_of_lt_of_le (Heap.lt_size q) hp))]; exact n
  there := fun b u q _ => ⟨u, k b u q⟩
  tups := fun b xs q => by rw [upd_ne (ne_of_none q hn)]; exact q
  frzs := fun b u xs q => by rw [upd_ne (ne_of_none q hn)]; exact q
  tbls := fun b ps q => ⟨#[], by rw [upd_ne (ne_of_none q hn), q]; simp⟩
theorem Un.write (mu : Mut (H x)) (he : e = x ∨ H e = some (.own x)) (k : ∀ b u, b ≠ e → h.get? b = some u → h'.get? b = some u) (heo : ∃ u, h'.get? e = some u) : Un fs ex H (upd H x o) h h' := by
  have hx : ∀ b, H b = none → b ≠ x := fun b n z => by subst z; rw [n] at mu; exact mu
  have hb : ∀ b, H b = none → b ≠ e := fun b n z => by
    subst z
    rcases he with r | r
    · exact hx b n r
    · rw [n] at r; cases r
  have hm : ∀ b u, H b = some u → ¬ Mut (some u) → b ≠ x := fun b u q nm z => by subst z; rw [q] at mu; exact nm mu
  refine ⟨fun b u q n _ _ => k b u (hb b n) q, fun b u q n _ _ => ⟨u.slots, k b u (hb b n) q⟩, fun b u q n _ => by rw [upd_ne (hx b n)]; exact n, fun b u q _ => ?_,
    fun b xs q => by rw [upd_ne (hm b _ q fun z => z)]; exact q, fun b u xs q => by rw [upd_ne (hm b _ q fun z => z)]; exact q, fun b ps q => ⟨#[], by rw [upd_ne (hm b _ q fun z => z), q]; simp⟩⟩
  by_cases hbe : b = e
  · subst hbe; exact heo
  · exact ⟨u, k b u hbe q⟩
end

/-! ### the heap without what is tracked -/
def trk (h : Heap) (H : Hp) : List Addr := (List.range h.objs.size).filter fun a => (H a).isSome
def hidT (h : Heap) (H : Hp) : Heap := PySem.W.hideAll h (trk h H)
theorem hidT_size (h : Heap) (H : Hp) : (hidT h H).objs.size = h.objs.size := PySem.W.hideAll_size _ _
theorem hidT_get {h : Heap} {H : Hp} {b : Addr} {o : Obj} (e : h.get? b = some o) (n : H b = none) : (hidT h H).get? b = some o :=
  PySem.W.hideAll_get _ e fun hm => by
    have q : (H b).isSome = true := (List.mem_filter.mp hm).2
    rw [n] at q; simp at q
theorem of_hidT {h : Heap} {H : Hp} {b : Addr} {o : Obj} (e : (hidT h H).get? b = some o) : h.get? b = some o ∧ H b = none := by
  have e' : h.get? b = some o := PySem.W.of_hideAll (trk h H) e
  refine ⟨e', ?_⟩
  cases q : H b with
  | none => rfl
  | some x =>
    have hm : b ∈ trk h H := List.mem_filter.mpr ⟨List.mem_range.mpr (Heap.lt_size e'), by simp [q]⟩
    have z : (hidT h H).get? b = none := PySem.W.hideAll_none (trk h H) hm
    rw [z] at e; cases e

/-! ### OpenK's ledger, filled with every new object but one -/
def allNews (g h : Heap) (L : Addr) : List (Addr × Obj) := (List.range h.objs.size).filterMap fun a => if a = L ∨ (g.get? a).isSome = true then none else (h.get? a).map fun o => (a, o)
def rest (g h : Heap) (L d : Addr) : List (Addr × Obj) := (allNews g h L).filter fun p => decide (p.1 ≠ d)
end L2

namespace L2
open PySem PySem.Spec PyProof.Rows

/-- the module's facts, over the base: the heap at the law's entry without what is tracked there -/
structure Mod (K : PySem.W.Frag) (mg : Str → Option Value) (base : Heap) : Prop where
  kin : K.In base
  glob : base.Ns mainGlobals mg
  blt : ∃ mb, base.Ns builtinsNs mb ∧ ∀ x : Str, x ≠ "__name__" → mb x = bootBuiltins x
  nolimit : base.NoLimit

/-- an exception's object: its class, its own dict, its arguments, its trace -/
abbrev xObj (cls : Value) (dx : Option Addr) (a0 tb : Value) : Obj := { cls := cls, dict := dx, data := .fields #[a0, tb, .none, .none, .bool false, .none] }
/-- an exception as it is held: the very object, known -/
def xHO (e : Addr) (ob : Obj) : HO := .frz ob (.ext fun h => h.get? e = some ob)
/-- the exception that is handled around, known -/
def Hd (A : Around) (H : Hp) : Prop := ∃ e cls dx a0 tb, A.handled = some (.ref e) ∧ H e = some (xHO e (xObj cls dx a0 tb))
/-- the context: a def's body (or a comprehension's block) running. base: fixed through the whole law; s₀, H₀: the entry; outer: the frames whose slots others may change (a def's callers); stack: all frames that run;
   ex: iterators that were made ahead of the entry and are walked here (a comprehension's); fn: the names whose cells were made at the entry (a def: all; a comprehension's block: its own); calm: not within an except suite; pn: pins that every state bears; xe: what is wanted of an exception that leaves the code -/
structure Cx where
  prog : Program
  w : World
  K : PySem.W.Frag
  mg : Str → Option Value
  base : Heap
  A : Around
  N : List Str
  s₀ : Shared
  H₀ : Hp
  env : Env
  outer : List Env
  stack : List Env
  ex : List Addr
  fn : Str → Bool
  calm : Bool
  suit : Bool
  pn : List (Addr × Obj)
  xe : Value → Shared → Prop
/-- the callers' frames -/
def frs (l : List Env) : List Addr := l.filterMap (·.frame)
abbrev Cx.fs (X : Cx) : List Addr := frs X.outer

def Vis (sc : Scope) (x : Str) : Prop := sc.names.lookup x = some .local ∨ sc.names.lookup x = some .cell ∨ sc.names.lookup x = some .free
def Loc (sc : Scope) (x : Str) : Prop := sc.names.lookup x = some .local ∨ sc.names.lookup x = some .cell
def Look (env : Env) (h : Heap) (m : Str → Option Value) (x : Str) (u : Value) : Prop :=
  (env.kindOf x = some .local ∧ m x = some u) ∨ ((env.kindOf x = some .cell ∨ env.kindOf x = some .free) ∧ ∃ c, env.cells.lookup x = some c ∧ h.IsCell c (some u))

structure Cx.Ok (X : Cx) : Prop where
  mod : Mod X.K X.mg X.base
  kind : X.env.scope.kind = .function
  glob : X.env.globals = mainGlobals
  blt : X.env.builtins = builtinsNs
  above : X.s₀.heap.objs.size ≤ X.env.locals
  inj : ∀ x y c, X.env.cells.lookup x = some c → X.env.cells.lookup y = some c → x = y
  has : ∀ x, (X.env.kindOf x = some .cell ∨ X.env.kindOf x = some .free) → ∃ c, X.env.cells.lookup x = some c
  cab : ∀ x c, X.fn x = true → X.env.cells.lookup x = some c → X.s₀.heap.objs.size ≤ c
  hd : X.calm = true → X.A.handled = none
  frames : X.A.frames = some X.stack
  stk : X.stack = X.outer ∨ (X.stack = X.env :: X.outer ∧ X.env.frame = some X.env.locals)
  exf : ∀ b ∈ X.ex, b ≠ X.env.locals ∧ ∀ x c, X.env.cells.lookup x = some c → c ≠ b
  bs : ∀ b o, X.base.get? b = some o → X.s₀.heap.get? b = some o ∧ X.H₀ b = none
  bsz : X.base.objs.size ≤ X.s₀.heap.objs.size
  noex : ∀ b o, X.base.get? b = some o → b ∉ X.ex
  exfs : ∀ b ∈ X.ex, b ∉ X.fs
  funs : X.s₀.heap.FunFrames X.base X.outer
  frf : ∀ b ∈ X.fs, X.H₀ b = none
  hs : X.suit = true → Hd X.A X.H₀

structure Inv (X : Cx) (pins : List (Addr × Obj)) (σ : List (Option V)) (H : Hp) (s : Shared) : Prop where
  ok : X.Ok
  os : s.os = X.s₀.os
  bare : AllBare s.gens
  base : Un X.fs X.ex X.H₀ H X.s₀.heap s.heap
  loc : ∃ m, s.heap.Ns X.env.locals m ∧ ∀ (i : Nat) (x : Str) (v : V), X.N[i]? = some x → σ[i]? = some (some v) → Vis X.env.scope x → ∃ u, RelV v u ∧ Look X.env s.heap m x u
  cell : ∀ x c, X.env.cells.lookup x = some c → ∃ v, s.heap.IsCell c v
  free : H X.env.locals = none
  freeC : ∀ x c, X.env.cells.lookup x = some c → H c = none
  pin : ∀ p ∈ X.pn ++ pins, s.heap.get? p.1 = some p.2 ∧ H p.1 = none ∧ p.1 ≠ X.env.locals ∧ p.1 ∉ X.fs ∧ ∀ v, p.2.data ≠ .cell v
  hok : HOk X.prog X.w H s.heap
  len : σ.length = X.N.length

section
variable {X : Cx} {pins : List (Addr × Obj)} {σ : List (Option V)} {H H' : Hp} {s : Shared} {h' : Heap}

theorem Cx.Ok.nofr (ok : X.Ok) {b : Addr} {o : Obj} (e : X.base.get? b = some o) : b ∉ X.fs := fun hb => by
  have := (ok.funs.mem hb).1
  rw [e] at this; cases this
theorem Inv.bs (I : Inv X pins σ H s) : ∀ b o, X.base.get? b = some o → s.heap.get? b = some o ∧ H b = none := fun b o e =>
  ⟨I.base.keep b o (I.ok.bs b o e).1 (I.ok.bs b o e).2 (I.ok.nofr e) (I.ok.noex b o e), I.base.free b o (I.ok.bs b o e).1 (I.ok.bs b o e).2 (I.ok.noex b o e)⟩
theorem Inv.bk (I : Inv X pins σ H s) : ∀ b o, X.base.get? b = some o → s.heap.get? b = some o := fun b o e => (I.bs b o e).1
theorem Inv.mod (I : Inv X pins σ H s) : Mod X.K X.mg X.base := I.ok.mod
theorem Inv.kIn (I : Inv X pins σ H s) : X.K.In s.heap := I.ok.mod.kin.keeps I.bk
theorem Inv.lt (I : Inv X pins σ H s) : X.env.locals < s.heap.objs.size := let ⟨_, hn, _⟩ := I.loc; hn.lt
theorem Inv.sz (I : Inv X pins σ H s) : X.s₀.heap.objs.size ≤ s.heap.objs.size := Nat.le_trans I.ok.above (Nat.le_of_lt I.lt)
theorem Inv.nofs (I : Inv X pins σ H s) {a : Addr} (h : s.heap.objs.size ≤ a) : a ∉ X.fs := fun hb => by
  obtain ⟨_, o, ho, _⟩ := I.ok.funs.mem hb
  exact absurd (Nat.lt_of_lt_of_le (Heap.lt_size ho) (Nat.le_trans I.sz h)) (Nat.lt_irrefl _)
theorem Inv.cne (I : Inv X pins σ H s) : ∀ x c, X.env.cells.lookup x = some c → c ≠ X.env.locals := fun x c e z => by
  obtain ⟨v, o, ho, hd⟩ := I.cell x c e
  obtain ⟨m, ⟨o', es, ep, ho', hd', _⟩, _⟩ := I.loc
  rw [z, ho'] at ho; cases ho; rw [hd'] at hd; cases hd
theorem Inv.funs (I : Inv X pins σ H s) : s.heap.FunFrames X.base X.outer := by
  have all : ∀ (l : List Env), (∀ b ∈ frs l, b ∈ X.fs) → X.s₀.heap.FunFrames X.base l → s.heap.FunFrames X.base l := by
    intro l
    induction l with
    | nil => intro _ _; trivial
    | cons env r ih =>
      intro hs hl
      obtain ⟨hk, ⟨L, o, hf, hn, ho, hd⟩, hr⟩ := hl
      have hL : L ∈ X.fs := hs L (by unfold frs; rw [List.filterMap_cons, hf]; exact List.mem_cons_self)
      obtain ⟨sl, e⟩ := I.base.slot L o ho (I.ok.frf L hL) hL fun z => I.ok.exfs L z hL
      exact ⟨hk, ⟨L, _, hf, hn, e, hd⟩, ih (fun b hb => hs b (by unfold frs; rw [List.filterMap_cons, hf]; exact List.mem_cons_of_mem _ hb)) hr⟩
  exact all X.outer (fun _ hb => hb) I.ok.funs

/-- the frames that run, for a call -/
theorem Inv.stack (I : Inv X pins σ H s) : s.heap.FunFrames X.base X.stack := by
  rcases I.ok.stk with e | ⟨e, hf⟩
  · rw [e]; exact I.funs
  · rw [e]
    obtain ⟨m, hn, _⟩ := I.loc
    refine .cons (by rw [I.ok.kind]; decide) hf hn ?_ I.funs
    exact Heap.get?_none_of_le (Nat.le_trans I.ok.bsz I.ok.above)
theorem Inv.stkSub (I : Inv X pins σ H s) : ∀ b ∈ frs X.stack, b ∈ X.env.locals :: X.fs := fun b hb => by
  rcases I.ok.stk with e | ⟨e, hf⟩
  · rw [e] at hb; exact List.mem_cons_of_mem _ hb
  · rw [e] at hb
    unfold frs at hb
    rw [List.filterMap_cons, hf] at hb
    exact hb
theorem Inv.stkFree (I : Inv X pins σ H s) : ∀ b ∈ frs X.stack, H b = none := fun b hb => by
  rcases List.mem_cons.mp (I.stkSub b hb) with e | hb
  · rw [e]; exact I.free
  · obtain ⟨_, o, ho, _⟩ := I.ok.funs.mem hb
    exact I.base.free b o ho (I.ok.frf b hb) fun z => I.ok.exfs b z hb

/-- THE STEP: the untracked objects but the frame and the records at ch are kept (the callers' frames up to slots), the frame's map is kept, the new abstract heap is held -/
theorem Inv.step {g' : Array GenState} {t' : Nat} {d' : Drawn} {ch : List Addr} (I : Inv X pins σ H s)
    (hch : ∀ b ∈ ch, (b ∈ X.ex ∨ X.s₀.heap.objs.size ≤ b) ∧ b ≠ X.env.locals ∧ (∀ x c, X.env.cells.lookup x = some c → c ≠ b) ∧ ∀ p ∈ X.pn ++ pins, p.1 ≠ b)
    (keep : ∀ b o, b ≠ X.env.locals → b ∉ X.fs → b ∉ ch → s.heap.get? b = some o → H b = none → h'.get? b = some o)
    (slot : ∀ b o, b ≠ X.env.locals → b ∈ X.fs → b ∉ ch → s.heap.get? b = some o → H b = none → ∃ sl, h'.get? b = some { o with slots := sl }) (free : ∀ b o, b ∉ ch → s.heap.get? b = some o → H b = none → H' b = none)
    (there : ∀ b o, b ∉ ch → s.heap.get? b = some o → ∃ o', h'.get? b = some o')
    (tups : ∀ b xs, H b = some (.tup xs) → H' b = some (.tup xs)) (frzs : ∀ b o u, H b = some (.frz o u) → H' b = some (.frz o u)) (tbls : ∀ b ps, H b = some (.tbl ps) → ∃ more, H' b = some (.tbl (ps ++ more)))
    (ns : ∀ m, s.heap.Ns X.env.locals m → h'.Ns X.env.locals m) (hok : HOk X.prog X.w H' h') (hg : AllBare g') :
    Inv X pins σ H' { s with heap := h', gens := g', drawn := d', toks := t' } := by
  have neL : ∀ b o, X.s₀.heap.get? b = some o → b ≠ X.env.locals := fun b o e => Nat.ne_of_lt (Nat.lt_of_lt_of_le (Heap.lt_size e) I.ok.above)
  have neC : ∀ b o, X.s₀.heap.get? b = some o → b ∉ X.ex → b ∉ ch := fun b o e hx hb => by
    rcases (hch b hb).1 with z | z
    · exact hx z
    · exact absurd (Nat.lt_of_lt_of_le (Heap.lt_size e) z) (Nat.lt_irrefl _)
  have cellK : ∀ x c, X.env.cells.lookup x = some c → ∀ v, s.heap.IsCell c v → h'.IsCell c v := fun x c e v ⟨o, ho, hd⟩ => by
    have nch : c ∉ ch := fun z => (hch c z).2.2.1 x c e rfl
    by_cases hc : c ∈ X.fs
    · obtain ⟨sl, q⟩ := slot c o (I.cne x c e) hc nch ho (I.freeC x c e)
      exact ⟨_, q, hd⟩
    · exact ⟨o, keep c o (I.cne x c e) hc nch ho (I.freeC x c e), hd⟩
  refine ⟨I.ok, I.os, hg, ⟨fun b o e n hb hx => ?_, fun b o e n hb hx => ?_, fun b o e n hx => ?_, fun b o e hx => ?_, fun b xs e => tups b xs (I.base.tups b xs e), fun b o xs e => frzs b o xs (I.base.frzs b o xs e), fun b ps e => ?_⟩, ?_, fun x c e => ?_, ?_, fun x c e => ?_, fun p hp => ?_, hok, I.len⟩
  · exact keep b o (neL b o e) hb (neC b o e hx) (I.base.keep b o e n hb hx) (I.base.free b o e n hx)
  · obtain ⟨sl, e1⟩ := I.base.slot b o e n hb hx
    obtain ⟨sl', e2⟩ := slot b _ (neL b o e) hb (neC b o e hx) e1 (I.base.free b o e n hx)
    exact ⟨sl', e2⟩
  · obtain ⟨o', e1⟩ := I.base.there b o e hx
    exact free b o' (neC b o e hx) e1 (I.base.free b o e n hx)
  · obtain ⟨o', e1⟩ := I.base.there b o e hx
    exact there b o' (neC b o e hx) e1
  · obtain ⟨m1, e1⟩ := I.base.tbls b ps e
    obtain ⟨m2, e2⟩ := tbls b _ e1
    exact ⟨m1 ++ m2, by rw [e2, Array.append_assoc]⟩
  · obtain ⟨m, hn, hl⟩ := I.loc
    refine ⟨m, ns m hn, fun i x v e1 e2 e3 => ?_⟩
    obtain ⟨u, r, l⟩ := hl i x v e1 e2 e3
    refine ⟨u, r, ?_⟩
    rcases l with l | ⟨k, c, e, z⟩
    · exact .inl l
    · exact .inr ⟨k, c, e, cellK x c e _ z⟩
  · obtain ⟨v, z⟩ := I.cell x c e
    exact ⟨v, cellK x c e v z⟩
  · obtain ⟨m, ⟨o, _, _, ho, _⟩, _⟩ := I.loc
    exact free _ o (fun z => (hch _ z).2.1 rfl) ho I.free
  · obtain ⟨v, o, ho, hd⟩ := I.cell x c e
    exact free c o (fun z => (hch c z).2.2.1 x c e rfl) ho (I.freeC x c e)
  · obtain ⟨e, n, ne, nf, d⟩ := I.pin p hp
    have nch : p.1 ∉ ch := fun z => (hch p.1 z).2.2.2 p hp rfl
    exact ⟨keep p.1 p.2 ne nf nch e n, free p.1 p.2 nch e n, ne, nf, d⟩
/-- .. where the frame's own object is kept too -/
theorem Inv.un {t' : Nat} (I : Inv X pins σ H s) (u : Un X.fs [] H H' s.heap h') (hok : HOk X.prog X.w H' h') : Inv X pins σ H' { s with heap := h', toks := t' } := by
  obtain ⟨m, ⟨o, es, ep, ho, r⟩, _⟩ := id I.loc
  obtain ⟨sl, hL⟩ := u.any ho I.free (by simp)
  exact I.step (g' := s.gens) (d' := s.drawn) (ch := []) (fun _ z => nomatch z) (fun b o _ hb _ e n => u.keep b o e n hb (by simp)) (fun b o _ hb _ e n => u.slot b o e n hb (by simp)) (fun b o _ e n => u.free b o e n (by simp)) (fun b o _ e => u.there b o e (by simp)) u.tups u.frzs u.tbls (fun m' hm => by
    obtain ⟨o', es', ep', ho', r'⟩ := hm
    rw [ho] at ho'; cases ho'
    exact ⟨_, es', ep', hL, r'⟩) hok I.bare
/-- behind a call (or a comprehension's block): the slots of this frame may have changed too, the records at ch may have turned -/
theorem Inv.call {g' : Array GenState} {t' : Nat} {d' : Drawn} {ch : List Addr} (I : Inv X pins σ H s) (u : Un (frs X.stack) ch H H' s.heap h') (hok : HOk X.prog X.w H' h') (hg : AllBare g')
    (hch : ∀ b ∈ ch, (b ∈ X.ex ∨ X.s₀.heap.objs.size ≤ b) ∧ b ≠ X.env.locals ∧ (∀ x c, X.env.cells.lookup x = some c → c ≠ b) ∧ ∀ p ∈ X.pn ++ pins, p.1 ≠ b) :
    Inv X pins σ H' { s with heap := h', gens := g', drawn := d', toks := t' } := by
  obtain ⟨m, ⟨o, es, ep, ho, r⟩, _⟩ := id I.loc
  obtain ⟨sl, hL⟩ := u.any ho I.free fun z => (hch _ z).2.1 rfl
  exact I.step (ch := ch) hch (fun b o hL hb hc e n => u.keep b o e n (fun z => (List.mem_cons.mp (I.stkSub b z)).elim hL hb) hc) (fun b o _ _ hc e n => u.any e n hc) (fun b o hc e n => u.free b o e n hc) (fun b o hc e => u.there b o e hc) u.tups u.frzs u.tbls (fun m' hm => by
    obtain ⟨o', es', ep', ho', r'⟩ := hm
    rw [ho] at ho'; cases ho'
    exact ⟨_, es', ep', hL, r'⟩) hok hg
/-- an untracked record of ours (an iterator) has turned -/
theorem Inv.turned {t' : Nat} {it : Addr} (I : Inv X pins σ H s) (k : ∀ b o, b ≠ it → s.heap.get? b = some o → h'.get? b = some o) (hn : H it = none) (hL : it ≠ X.env.locals)
    (h1 : it ∈ X.ex ∨ X.s₀.heap.objs.size ≤ it) (h2 : ∀ x c, X.env.cells.lookup x = some c → c ≠ it) (h3 : ∀ p ∈ X.pn ++ pins, p.1 ≠ it) : Inv X pins σ H { s with heap := h', toks := t' } := by
  have nit : ∀ b u, H b = some u → b ≠ it := fun b u e z => by rw [z, hn] at e; cases e
  refine I.step (g' := s.gens) (d' := s.drawn) (ch := [it]) (fun b hb => ?_) (fun b o _ _ hc e _ => k b o (fun z => hc (by simp [z])) e) (fun b o _ _ hc e _ => ⟨o.slots, k b o (fun z => hc (by simp [z])) e⟩) (fun _ _ _ _ n => n)
    (fun b o hc e => ⟨o, k b o (fun z => hc (by simp [z])) e⟩) (fun _ _ e => e) (fun _ _ _ e => e) (fun b ps e => ⟨#[], by rw [e]; simp⟩) (fun m hm => ?_) (fun b u e => ?_) I.bare
  · have e : b = it := by simpa using hb
    subst e
    exact ⟨h1, hL, h2, h3⟩
  · obtain ⟨o, es, ep, ho, r⟩ := hm
    exact ⟨o, es, ep, k _ o (Ne.symm hL) ho, r⟩
  · refine (I.hok b u e).stay (fun c v hc q => k c v ?_ q) (fun _ q => q) fun _ _ q => q
    rcases hc with z | z
    · rw [z]; exact nit b u e
    · exact nit c _ z
theorem Inv.tok (I : Inv X pins σ H s) (t : Nat) : Inv X pins σ H { s with toks := t } := I.un (h' := s.heap) (t' := t) Un.refl I.hok
/-- all objects kept -/
theorem Inv.kept {t' : Nat} (I : Inv X pins σ H s) (k : ∀ b u, s.heap.get? b = some u → h'.get? b = some u) : Inv X pins σ H { s with heap := h', toks := t' } := I.un (Un.kept k) (I.hok.kept k)
/-- a new object laid and tracked -/
theorem Inv.laid {a : Addr} {o : HO} {t' : Nat} (I : Inv X pins σ H s) (k : ∀ b u, s.heap.get? b = some u → h'.get? b = some u) (hp : s.heap.objs.size ≤ a) (new : ObjOk X.prog X.w (upd H a o) h' a o) :
    Inv X pins σ (upd H a o) { s with heap := h', toks := t' } := I.un (Un.laid k hp (I.hok.fresh hp)) (I.hok.laid k hp new)
/-- an object written -/
theorem Inv.write {x e : Addr} {o : HO} {t' : Nat} (I : Inv X pins σ H s) (mu : Mut (H x)) (he : e = x ∨ H e = some (.own x)) (k : ∀ b u, b ≠ e → s.heap.get? b = some u → h'.get? b = some u) (heo : ∃ u, h'.get? e = some u)
    (new : ObjOk X.prog X.w (upd H x o) h' x o) : Inv X pins σ (upd H x o) { s with heap := h', toks := t' } := I.un (Un.write mu he k heo) (I.hok.write mu he k heo new)
/-- forgetting slots, pins -/
theorem Inv.weak {σ' : List (Option V)} (I : Inv X pins σ H s) (hl : σ'.length = σ.length) (w : ∀ (i : Nat) v, σ'[i]? = some (some v) → σ[i]? = some (some v)) : Inv X pins σ' H s :=
  ⟨I.ok, I.os, I.bare, I.base, let ⟨m, hn, hl'⟩ := I.loc; ⟨m, hn, fun i x v e1 e2 e3 => hl' i x v e1 (w i v e2) e3⟩, I.cell, I.free, I.freeC, I.pin, I.hok, hl.trans I.len⟩
theorem Inv.pins_of {pins' : List (Addr × Obj)} (I : Inv X pins σ H s) (h : ∀ p ∈ pins', s.heap.get? p.1 = some p.2 ∧ H p.1 = none ∧ p.1 ≠ X.env.locals ∧ p.1 ∉ X.fs ∧ ∀ v, p.2.data ≠ .cell v) : Inv X pins' σ H s :=
  ⟨I.ok, I.os, I.bare, I.base, I.loc, I.cell, I.free, I.freeC, fun p hp => (List.mem_append.mp hp).elim (fun z => I.pin p (List.mem_append_left _ z)) (h p), I.hok, I.len⟩

theorem nodup_ix {N : List Str} (hN : N.Nodup) {i j : Nat} {x : Str} (a : N[i]? = some x) (b : N[j]? = some x) : i = j := by
  obtain ⟨h1, e1⟩ := List.getElem?_eq_some_iff.mp a
  obtain ⟨h2, e2⟩ := List.getElem?_eq_some_iff.mp b
  exact (List.getElem_inj hN).mp (e1.trans e2.symm)

/-- a name is stored; what changed -/
theorem store_ok2 {M : Model} {A : Around} {E : Value → Shared → Prop} {i : Nat} {x : Str} {v : V} {u : Value} {Q : Unit → Shared → Prop} (I : Inv X pins σ H s) (hN : X.N.Nodup) (hi : X.N[i]? = some x) (hx : Loc X.env.scope x) (r : RelV v u)
    (h : ∀ s', Inv X pins (σ.set i (some v)) H s' → (∃ a, Heap.SameBut a s.heap s'.heap ∧ (a = X.env.locals ∨ X.env.cells.lookup x = some a)) → Q () s') (hf : X.fn x = true ∨ X.env.scope.names.lookup x = some .local := by first | exact .inl rfl | exact .inr rfl | assumption) : wpAny M A (storeName X.env x u) Q E s := by
  obtain ⟨m, hn, hl⟩ := id I.loc
  have hcls : (X.env.scope.kind == .class || (X.env.scope.kind == .module && X.env.locals != X.env.globals)) = false := by rw [I.ok.kind]; rfl
  have hiσ : i < σ.length := by rw [I.len]; exact (List.getElem?_eq_some_iff.mp hi).1
  have cne := I.cne
  have tracked : ∀ {a : Addr} {h' : Heap}, (∃ o, s.heap.get? a = some o ∧ H a = none) → Heap.SameBut a s.heap h' → HOk X.prog X.w H h' := fun {a h'} ha hs b ob e => by
    obtain ⟨_, _, hfree⟩ := ha
    refine (I.hok b ob e).stay (fun c w' hc q => (hs.2 c ?_).trans q) (fun _ q => q) fun _ _ q => q
    rintro rfl
    rcases hc with rfl | hc
    · rw [hfree] at e; cases e
    · rw [hfree] at hc; cases hc
  rcases hx with hk | hk
  · refine wpAny_storeName_local hk hn (fun h' hn' hs => ?_) hcls
    obtain ⟨oL, _, _, hoL, _⟩ := id hn
    refine h _ ⟨I.ok, I.os, I.bare, ⟨fun b o e n hb hx => ?_, fun b o e n hb hx => ?_, I.base.free, fun b o e hx => ?_, I.base.tups, I.base.frzs, I.base.tbls⟩, ⟨_, hn', fun j y v' e1 e2 e3 => ?_⟩, fun y c e => ?_, I.free, I.freeC, fun p hp => ?_, tracked ⟨oL, hoL, I.free⟩ hs, by simpa using I.len⟩ ⟨_, hs, .inl rfl⟩
    · exact (hs.2 b (Nat.ne_of_lt (Nat.lt_of_lt_of_le (Heap.lt_size e) I.ok.above))).trans (I.base.keep b o e n hb hx)
    · obtain ⟨sl, e1⟩ := I.base.slot b o e n hb hx
      exact ⟨sl, (hs.2 b (Nat.ne_of_lt (Nat.lt_of_lt_of_le (Heap.lt_size e) I.ok.above))).trans e1⟩
    · obtain ⟨o', e1⟩ := I.base.there b o e hx
      exact ⟨o', (hs.2 b (Nat.ne_of_lt (Nat.lt_of_lt_of_le (Heap.lt_size e) I.ok.above))).trans e1⟩
    · by_cases hj : j = i
      · subst hj
        rw [hi] at e1; cases e1
        rw [List.getElem?_set_self hiσ] at e2
        cases e2
        exact ⟨u, r, .inl ⟨hk, by simp⟩⟩
      · rw [List.getElem?_set_ne (Ne.symm hj)] at e2
        obtain ⟨u', r', q⟩ := hl j y v' e1 e2 e3
        refine ⟨u', r', ?_⟩
        rcases q with ⟨k, e⟩ | ⟨k, c, e, z⟩
        · refine .inl ⟨k, ?_⟩
          have : y ≠ x := fun e => hj (nodup_ix hN e1 (e ▸ hi))
          simp [this, e]
        · exact .inr ⟨k, c, e, z.sameBut hs (cne y c e)⟩
    · obtain ⟨w', z⟩ := I.cell y c e
      exact ⟨w', z.sameBut hs (cne y c e)⟩
    · obtain ⟨e, n, ne, nf, d⟩ := I.pin p hp
      exact ⟨(hs.2 p.1 ne).trans e, n, ne, nf, d⟩
  · have hfn : X.fn x = true := by
      rcases hf with z | z
      · exact z
      · rw [z] at hk; cases hk
    obtain ⟨c, hc⟩ := I.ok.has x (.inl hk)
    obtain ⟨w', z⟩ := I.cell x c hc
    refine wpAny_storeName_cell I.ok.kind hk hc z (fun h' hc' hs => ?_)
    obtain ⟨oc, hoc, hocd⟩ := id z
    refine h { s with heap := h' } ⟨I.ok, I.os, I.bare, ⟨fun b o e n hb hx => ?_, fun b o e n hb hx => ?_, I.base.free, fun b o e hx => ?_, I.base.tups, I.base.frzs, I.base.tbls⟩, ⟨m, hn.sameBut hs (Ne.symm (cne x c hc)), fun j y v' e1 e2 e3 => ?_⟩, fun y c' e => ?_, I.free, I.freeC, fun p hp => ?_, tracked ⟨oc, hoc, I.freeC x c hc⟩ hs, by simpa using I.len⟩ ⟨c, hs, .inr hc⟩
    · exact (hs.2 b (Nat.ne_of_lt (Nat.lt_of_lt_of_le (Heap.lt_size e) (I.ok.cab x c hfn hc)))).trans (I.base.keep b o e n hb hx)
    · obtain ⟨sl, e1⟩ := I.base.slot b o e n hb hx
      exact ⟨sl, (hs.2 b (Nat.ne_of_lt (Nat.lt_of_lt_of_le (Heap.lt_size e) (I.ok.cab x c hfn hc)))).trans e1⟩
    · obtain ⟨o', e1⟩ := I.base.there b o e hx
      exact ⟨o', (hs.2 b (Nat.ne_of_lt (Nat.lt_of_lt_of_le (Heap.lt_size e) (I.ok.cab x c hfn hc)))).trans e1⟩
    · by_cases hj : j = i
      · subst hj
        rw [hi] at e1; cases e1
        rw [List.getElem?_set_self hiσ] at e2
        cases e2
        exact ⟨u, r, .inr ⟨.inl hk, c, hc, hc'⟩⟩
      · rw [List.getElem?_set_ne (Ne.symm hj)] at e2
        obtain ⟨u', r', q⟩ := hl j y v' e1 e2 e3
        refine ⟨u', r', ?_⟩
        rcases q with q | ⟨k, c', e, z'⟩
        · exact .inl q
        · refine .inr ⟨k, c', e, z'.sameBut hs ?_⟩
          rintro rfl
          exact hj (nodup_ix hN e1 (I.ok.inj _ _ _ e hc ▸ hi))
    · by_cases hcc : c' = c
      · subst hcc; exact ⟨_, hc'⟩
      · obtain ⟨w2, z2⟩ := I.cell y c' e
        exact ⟨w2, z2.sameBut hs hcc⟩
    · obtain ⟨e, n, ne, nf, d⟩ := I.pin p hp
      refine ⟨(hs.2 p.1 ?_).trans e, n, ne, nf, d⟩
      intro q
      rw [q, hoc] at e
      have q' : oc = p.2 := Option.some.inj e
      exact d w' (by rw [← q']; exact hocd)
theorem store_ok {M : Model} {A : Around} {E : Value → Shared → Prop} {i : Nat} {x : Str} {v : V} {u : Value} {Q : Unit → Shared → Prop} (I : Inv X pins σ H s) (hN : X.N.Nodup) (hi : X.N[i]? = some x) (hx : Loc X.env.scope x) (r : RelV v u)
    (h : ∀ s', Inv X pins (σ.set i (some v)) H s' → Q () s') (hf : X.fn x = true ∨ X.env.scope.names.lookup x = some .local := by first | exact .inl rfl | exact .inr rfl | assumption) : wpAny M A (storeName X.env x u) Q E s :=
  store_ok2 I hN hi hx r (fun s' I' _ => h s' I') hf
/-- behind a call or a block, the state as it is -/
theorem Inv.call' {s' : Shared} {ch : List Addr} (I : Inv X pins σ H s) (ho : s'.os = s.os) (u : Un (frs X.stack) ch H H' s.heap s'.heap) (hok : HOk X.prog X.w H' s'.heap) (hg : AllBare s'.gens)
    (hch : ∀ b ∈ ch, (b ∈ X.ex ∨ X.s₀.heap.objs.size ≤ b) ∧ b ≠ X.env.locals ∧ (∀ x c, X.env.cells.lookup x = some c → c ≠ b) ∧ ∀ p ∈ X.pn ++ pins, p.1 ≠ b) : Inv X pins σ H' s' := by
  obtain ⟨h', g', d', t', o'⟩ := s'
  have e : o' = s.os := ho
  subst e
  exact I.call (g' := g') (t' := t') (d' := d') u hok hg hch
end

/-! ### the judgements -/
/-- an exception: its class, its own dict's address (where it has one), the abstract heap behind it -/
abbrev XK := Value → Option Addr → Hp → Prop
abbrev St := List (Option V)
abbrev VK := V → Hp → Prop
/-- an expression's reading; a test's; an argument list's -/
abbrev TE := St → Hp → VK → Prop
abbrev TT := St → Hp → (Bool → Hp → Prop) → Prop
abbrev TA := St → Hp → (List V → Hp → Prop) → Prop
/-- what is wanted behind a statement -/
structure Ends where
  nx : St → Hp → Prop
  rt : VK
  bk : St → Hp → Prop := fun _ _ => False
  ct : St → Hp → Prop := fun _ _ => False
abbrev TS := Ends → St → Hp → Prop

def EP (X : Cx) (pins : List (Addr × Obj)) (σ : St) (Q : VK) (u : Value) (s' : Shared) : Prop := ∃ v H', Inv X pins σ H' s' ∧ RelV v u ∧ Q v H'
def TP (X : Cx) (pins : List (Addr × Obj)) (σ : St) (Q : Bool → Hp → Prop) (b : Bool) (s' : Shared) : Prop := ∃ H', Inv X pins σ H' s' ∧ Q b H'
def AP (X : Cx) (pins : List (Addr × Obj)) (σ : St) (Q : List V → Hp → Prop) (us : List Value) (s' : Shared) : Prop := ∃ vs H', Inv X pins σ H' s' ∧ Vals vs us ∧ Q vs H'
def SP (X : Cx) (pins : List (Addr × Obj)) (D : Ends) (f : Flow) (s' : Shared) : Prop :=
  match f with
  | .next => ∃ σ' H', Inv X pins σ' H' s' ∧ D.nx σ' H'
  | .brk => ∃ σ' H', Inv X pins σ' H' s' ∧ D.bk σ' H'
  | .cont => ∃ σ' H', Inv X pins σ' H' s' ∧ D.ct σ' H'
  | .ret u => ∃ v σ' H', Inv X pins σ' H' s' ∧ RelV v u ∧ D.rt v H'

def PE (X : Cx) (e : Expr) (t : TE) : Prop :=
  ∀ (pins : List (Addr × Obj)) (s : Shared) (σ : St) (H : Hp) (Q : VK), Inv X pins σ H s → t σ H Q → wpAny (model X.prog X.w) X.A (eval e X.env) (EP X pins σ Q) X.xe s
def PT (X : Cx) (e : Expr) (t : TT) : Prop :=
  ∀ (pins : List (Addr × Obj)) (s : Shared) (σ : St) (H : Hp) (Q : Bool → Hp → Prop), Inv X pins σ H s → t σ H Q → wpAny (model X.prog X.w) X.A (isTrue e X.env (eval e X.env)) (TP X pins σ Q) X.xe s
/-- a test whatever its 'whole' is (and, or) -/
def PW (X : Cx) (e : Expr) (t : TT) : Prop :=
  ∀ (whole : Sem Value) (pins : List (Addr × Obj)) (s : Shared) (σ : St) (H : Hp) (Q : Bool → Hp → Prop), Inv X pins σ H s → t σ H Q → wpAny (model X.prog X.w) X.A (isTrue e X.env whole) (TP X pins σ Q) X.xe s
theorem PW.pt {X : Cx} {e : Expr} {t : TT} (h : PW X e t) : PT X e t := h _
/-- an argument list (no star), from the left -/
def PA (X : Cx) (es : List Expr) (t : TA) : Prop :=
  ∀ (pos : Pos) (pins : List (Addr × Obj)) (s : Shared) (σ : St) (H : Hp) (Q : List V → Hp → Prop), Inv X pins σ H s → t σ H Q → wpAny (model X.prog X.w) X.A (spliced (backTo pos (starEach es X.env))) (AP X pins σ Q) X.xe s
def PS (X : Cx) (st : Stmt) (t : TS) : Prop :=
  ∀ (pins : List (Addr × Obj)) (s : Shared) (σ : St) (H : Hp) (D : Ends), Inv X pins σ H s → t D σ H → wpAny (model X.prog X.w) X.A (exec st X.env) (SP X pins D) X.xe s
def PSs (X : Cx) (st : List Stmt) (t : TS) : Prop :=
  ∀ (pins : List (Addr × Obj)) (s : Shared) (σ : St) (H : Hp) (D : Ends), Inv X pins σ H s → t D σ H → wpAny (model X.prog X.w) X.A (execs st X.env) (SP X pins D) X.xe s
/-- weaken the end -/
theorem thn {α : Type} {t : Sem α} {Q Q' : α → Shared → Prop} {M : Model} {A : Around} {E : Value → Shared → Prop} {s : Shared} (h : wpAny M A t Q E s) (hQ : ∀ a s, Q a s → Q' a s) : wpAny M A t Q' E s := wpAny_mono h hQ fun _ _ x => x
end L2

namespace L2
open PySem PySem.Spec PyProof.Rows
section
variable {X : Cx}

/-! ### names and constants -/
def tVar (i : Nat) : TE := fun σ H Q => ∃ v, σ[i]? = some (some v) ∧ Q v H
def tC (v : V) : TE := fun _ H Q => Q v H
theorem pe_var {i : Nat} {x : Str} {pos : Pos} (hN : X.N[i]? = some x) (hv : Vis X.env.scope x) (hd : (x == ("__debug__" : Str)) = false := by decide) (hcd : (x == ("__classdict__" : Str)) = false := by decide) : PE X (.Name x pos) (tVar i) := by
  intro pins s σ H Q I h
  obtain ⟨v, e, h⟩ := h
  obtain ⟨m, hn, hl⟩ := I.loc
  obtain ⟨u, r, l⟩ := hl i x v hN e hv
  have fin : EP X pins σ Q u s := ⟨v, H, I, r, h⟩
  rcases l with ⟨hk, hm⟩ | ⟨hk, c, hc, hcell⟩
  · exact wpAny_Name (wpAny_loadName_local I.ok.kind hk hn hm fin) hd
  · rcases hk with hk | hk
    · exact wpAny_Name (wpAny_loadName_cell I.ok.kind hk hc hcell fin) hd
    · exact wpAny_Name (wpAny_loadName_free I.ok.kind hk hc hcell fin hcd) hd
theorem pe_int {i j pos} : PE X (.Constant (.int i) j pos) (tC (.int i)) := fun _ _ _ H _ I h => wpAny_Constant_int ⟨.int i, H, I.tok _, ⟨_, rfl⟩, h⟩
theorem pe_bl {b j pos} : PE X (.Constant (.bool b) j pos) (tC (.bl b)) := fun _ _ _ H _ I h => Constant_bool ⟨.bl b, H, I, rfl, h⟩
theorem pe_non {j pos} : PE X (.Constant .none j pos) (tC .non) := fun _ _ _ H _ I h => Constant_none ⟨.non, H, I, rfl, h⟩
theorem pe_str {x j pos} : PE X (.Constant (.str x) j pos) (tC (.str x)) := fun _ _ _ H _ I h => Calls.Constant_str ⟨.str x, H, I.tok _, ⟨_, rfl⟩, h⟩

/-- a global name of the def -/
def Gl (X : Cx) (x : Str) : Prop := X.env.kindOf x = some .globalImplicit
theorem ld_glob {E : Value → Shared → Prop} {pins : List (Addr × Obj)} {s : Shared} {σ : St} {H : Hp} {x : Str} {u : Value} {pos : Pos} {Q : Value → Shared → Prop} (I : Inv X pins σ H s) (hg : Gl X x) (hm : X.mg x = some u) (h : Q u s)
    (hd : (x == ("__debug__" : Str)) = false := by decide) : wpAny (model X.prog X.w) X.A (eval (.Name x pos) X.env) Q E s :=
  Calls.Name_function_global I.ok.kind hg (Calls.loadGlobal_global (by rw [I.ok.glob]; exact I.mod.glob.keeps I.bk) hm h) hd
theorem ld_blt {E : Value → Shared → Prop} {pins : List (Addr × Obj)} {s : Shared} {σ : St} {H : Hp} {x : Str} {u : Value} {pos : Pos} {Q : Value → Shared → Prop} (I : Inv X pins σ H s) (hg : Gl X x) (hm : X.mg x = none) (hv : bootBuiltins x = some u) (h : Q u s)
    (hn : x ≠ "__name__" := by decide) (hd : (x == ("__debug__" : Str)) = false := by decide) : wpAny (model X.prog X.w) X.A (eval (.Name x pos) X.env) Q E s := by
  obtain ⟨mb, h1, h2⟩ := I.mod.blt
  exact Calls.Name_function_global I.ok.kind hg (Calls.loadGlobal_builtin (by rw [I.ok.glob]; exact I.mod.glob.keeps I.bk) hm (by rw [I.ok.blt]; exact h1.keeps I.bk) ((h2 x hn).trans hv) h) hd
/-- a module's constant, a class, a function, as a value -/
theorem pe_glob {x : Str} {v : V} {u : Value} {pos : Pos} (hg : Gl X x) (hm : X.mg x = some u) (r : RelV v u) (hd : (x == ("__debug__" : Str)) = false := by decide) : PE X (.Name x pos) (tC v) :=
  fun _ _ _ H _ I h => ld_glob I hg hm ⟨v, H, I, r, h⟩ hd
theorem pe_bltn {x : Str} {v : V} {u : Value} {pos : Pos} (hg : Gl X x) (hm : X.mg x = none) (hv : bootBuiltins x = some u) (r : RelV v u) (hn : x ≠ "__name__" := by decide) (hd : (x == ("__debug__" : Str)) = false := by decide) : PE X (.Name x pos) (tC v) :=
  fun _ _ _ H _ I h => ld_blt I hg hm hv ⟨v, H, I, r, h⟩ hn hd

/-! ### arithmetic -/
/-- two ints -/
def t2I (ta tb : TE) (k : Int → Int → Hp → Prop) : St → Hp → Prop := fun σ H => ta σ H fun x H1 => tb σ H1 fun y H2 => ∃ i j, x = .int i ∧ y = .int j ∧ k i j H2
def tAdd (ta tb : TE) : TE := fun σ H Q => t2I ta tb (fun i j H2 => Q (.int (i + j)) H2) σ H
def tSub (ta tb : TE) : TE := fun σ H Q => t2I ta tb (fun i j H2 => Q (.int (i - j)) H2) σ H
/-- the left factor below 2^64 -/
def tMul (ta tb : TE) : TE := fun σ H Q => t2I ta tb (fun i j H2 => (-(2 ^ 64) < i ∧ i < 2 ^ 64) ∧ Q (.int (i * j)) H2) σ H
variable {a b : Expr} {ta tb : TE} {pos : Pos}
/-! ### comparisons -/
def PC (X : Cx) (op : CmpOp) (a b : Expr) (t : TE) : Prop :=
  ∀ (pins : List (Addr × Obj)) (s : Shared) (σ : St) (H : Hp) (Q : VK), Inv X pins σ H s → t σ H Q →
    wpAny (model X.prog X.w) X.A (eval a X.env) (fun v s₁ => wpAny (model X.prog X.w) X.A (eval b X.env) (fun u s₂ => wpAny (model X.prog X.w) X.A (compareOp op v u) (EP X pins σ Q) X.xe s₂) X.xe s₁) X.xe s
def tCmp (p : Int → Int → Bool) (ta tb : TE) : TE := fun σ H Q => t2I ta tb (fun i j H2 => Q (.bl (p i j)) H2) σ H
abbrev tLt : TE → TE → TE := tCmp fun i j => decide (i < j)
abbrev tLe : TE → TE → TE := tCmp fun i j => decide (i ≤ j)
abbrev tGt : TE → TE → TE := tCmp fun i j => decide (j < i)
abbrev tGe : TE → TE → TE := tCmp fun i j => decide (j ≤ i)
abbrev tEqI : TE → TE → TE := tCmp fun i j => decide (i = j)
abbrev tNeI : TE → TE → TE := tCmp fun i j => !decide (i = j)
/-- is None -/
def tIsN (ta : TE) : TE := fun σ H Q => ta σ H fun x H1 => Q (.bl (decide (x = .non))) H1
def tNotN (ta : TE) : TE := fun σ H Q => ta σ H fun x H1 => Q (.bl (!decide (x = .non))) H1
/-- a comparison as a value, as a test -/
def tB (t : TE) : TT := fun σ H Q => t σ H fun x H1 => ∃ c, x = .bl c ∧ Q c H1
/-- an expression whose value is a bool, as a test -/
theorem pt_val {e : Expr} {t : TE} (h : PE X e t) (he : ∀ whole, isTrue e X.env whole = (do let v ← whole; standAt e.pos; holding [v] (truthy v)) := by intro _; rfl) : PT X e (tB t) := by
  intro pins s σ H Q I hw
  refine isTrue_plain (thn (h pins s σ H _ I hw) fun v s1 ⟨x, H1, I1, r1, q1⟩ => ?_) (he _)
  obtain ⟨d, rfl, q⟩ := q1
  cases r1
  exact wpAny_truthy_bool ⟨H1, I1, q⟩

/-! ### and, or, not -/
variable {tA tB' : TT} {rest : List Expr}
def tAnd (t u : TT) : TT := fun σ H Q => t σ H fun c H1 => if c = true then u σ H1 Q else Q false H1
def tOr (t u : TT) : TT := fun σ H Q => t σ H fun c H1 => if c = true then Q true H1 else u σ H1 Q
def tNot (t : TT) : TT := fun σ H Q => t σ H fun c H1 => Q (!c) H1
theorem pw_and1 (ha : PT X a tA) : PW X (.BoolOp .And [a] pos) tA := by
  intro wh pins s σ H Q I h
  refine isTrue_and (thn (ha pins s σ H Q I h) fun c s1 e => ?_)
  cases c with
  | true => exact isTrue_and_nil e
  | false => exact e
theorem pw_or1 (ha : PT X a tA) : PW X (.BoolOp .Or [a] pos) tA := by
  intro wh pins s σ H Q I h
  refine isTrue_or (thn (ha pins s σ H Q I h) fun c s1 e => ?_)
  cases c with
  | false => exact isTrue_or_nil e
  | true => exact e
theorem pw_and (ha : PT X a tA) (hb : PW X (.BoolOp .And (b :: rest) pos) tB') : PW X (.BoolOp .And (a :: b :: rest) pos) (tAnd tA tB') := by
  intro wh pins s σ H Q I h
  refine isTrue_and (thn (ha pins s σ H _ I h) fun c s1 ⟨H1, I1, q1⟩ => ?_)
  cases c with
  | true => exact hb wh pins s1 σ H1 Q I1 q1
  | false => exact ⟨H1, I1, q1⟩
theorem pw_or (ha : PT X a tA) (hb : PW X (.BoolOp .Or (b :: rest) pos) tB') : PW X (.BoolOp .Or (a :: b :: rest) pos) (tOr tA tB') := by
  intro wh pins s σ H Q I h
  refine isTrue_or (thn (ha pins s σ H _ I h) fun c s1 ⟨H1, I1, q1⟩ => ?_)
  cases c with
  | true => exact ⟨H1, I1, q1⟩
  | false => exact hb wh pins s1 σ H1 Q I1 q1
theorem pt_not (ha : PT X a tA) : PT X (.UnaryOp .Not a pos) (tNot tA) := by
  intro pins s σ H Q I h
  exact isTrue_not (ha pins s σ H (fun c H1 => Q (!c) H1) I h)
/-- .. as values (bools) -/
def tAndV (ta tb : TE) : TE := fun σ H Q => ta σ H fun x H1 => ∃ c, x = .bl c ∧ if c = true then tb σ H1 Q else Q (.bl false) H1
def tOrV (ta tb : TE) : TE := fun σ H Q => ta σ H fun x H1 => ∃ c, x = .bl c ∧ if c = true then Q (.bl true) H1 else tb σ H1 Q
def tNotV (ta : TE) : TE := fun σ H Q => ta σ H fun x H1 => ∃ c, x = .bl c ∧ Q (.bl (!c)) H1
theorem pe_one {op} {t : TE} (h : PE X a t) : PE X (.BoolOp op [a] pos) t := fun pins s σ H Q I hw => BoolOp_one (h pins s σ H Q I hw)
theorem pe_and (ha : PE X a ta) (hb : PE X (.BoolOp .And (b :: rest) pos) tb) : PE X (.BoolOp .And (a :: b :: rest) pos) (tAndV ta tb) := by
  intro pins s σ H Q I h
  refine BoolOp_and (thn (ha pins s σ H _ I h) fun v s1 ⟨x, H1, I1, r1, q1⟩ => ?_)
  obtain ⟨c, rfl, q1⟩ := q1
  cases r1
  refine wpAny_truthy_bool ?_
  cases c with
  | true => exact hb pins s1 σ H1 Q I1 q1
  | false => exact ⟨.bl false, H1, I1, rfl, q1⟩
theorem pe_or (ha : PE X a ta) (hb : PE X (.BoolOp .Or (b :: rest) pos) tb) : PE X (.BoolOp .Or (a :: b :: rest) pos) (tOrV ta tb) := by
  intro pins s σ H Q I h
  refine BoolOp_or (thn (ha pins s σ H _ I h) fun v s1 ⟨x, H1, I1, r1, q1⟩ => ?_)
  obtain ⟨c, rfl, q1⟩ := q1
  cases r1
  refine wpAny_truthy_bool ?_
  cases c with
  | false => exact hb pins s1 σ H1 Q I1 q1
  | true => exact ⟨.bl true, H1, I1, rfl, q1⟩
theorem pe_not (ha : PE X a ta) : PE X (.UnaryOp .Not a pos) (tNotV ta) := by
  intro pins s σ H Q I h
  refine UnaryOp_ (thn (ha pins s σ H _ I h) fun v s1 ⟨x, H1, I1, r1, q1⟩ => ?_)
  obtain ⟨c, rfl, q1⟩ := q1
  cases r1
  exact not_of (wpAny_truthy_bool ⟨.bl (!c), H1, I1, rfl, q1⟩)
/-- a if t else b -/
def tIf (t : TT) (ta tb : TE) : TE := fun σ H Q => t σ H fun c H1 => if c = true then ta σ H1 Q else tb σ H1 Q
theorem pe_ifExp {c : Expr} (hc : PT X c tA) (ha : PE X a ta) (hb : PE X b tb) : PE X (.IfExp c a b pos) (tIf tA ta tb) := by
  intro pins s σ H Q I h
  refine wpAny_IfExp (thn (hc pins s σ H _ I h) fun d s1 ⟨H1, I1, q1⟩ => ?_)
  cases d with
  | true => exact ha pins s1 σ H1 Q I1 q1
  | false => exact hb pins s1 σ H1 Q I1 q1
end
end L2

namespace L2
open PySem PySem.Spec PyProof.Rows

/-! ### a list, a tuple that is read: tracked, frozen, or an object of the module -/
def SqL (K : PySem.W.Frag) (H : Hp) (a : Addr) (xs : List V) : Prop :=
  Rd H a (.lst xs) ∨
    ∃ (o : Obj) (its : Array Value) (n : Nat), K.lookup a = some o ∧ o.cls = .type "list" ∧ o.dict = none ∧ o.data = .seq its n ∧ its.size ≤ sizeLine ∧ Vals xs its.toList
def SqT (K : PySem.W.Frag) (H : Hp) (a : Addr) (xs : List V) : Prop :=
  Rd H a (.tup xs) ∨
    ∃ (o : Obj) (its : Array Value) (n : Nat), K.lookup a = some o ∧ o.cls = .type "tuple" ∧ o.data = .seq its n ∧ its.size ≤ sizeLine ∧ Vals xs its.toList
def absV : Value → Option V
  | .none => some .non
  | .bool b => some (.bl b)
  | .int i _ => some (.int i)
  | .str x _ => some (.str x)
  | .bytes b _ => some (.byt b)
  | .float b _ => some (.flt b)
  | .ref a => some (.ref a)
  | .type n => some (.ty n)
  | _ => none
theorem RelV.abs {x : V} {u : Value} (r : RelV x u) : absV u = some x := by
  cases x with
  | non => cases r; rfl
  | bl _ => cases r; rfl
  | int _ => obtain ⟨t, rfl⟩ := r; rfl
  | str _ => obtain ⟨t, rfl⟩ := r; rfl
  | byt _ => obtain ⟨t, rfl⟩ := r; rfl
  | flt _ => obtain ⟨t, rfl⟩ := r; rfl
  | ref _ => cases r; rfl
  | ty _ => cases r; rfl
theorem RelV.inj {x y : V} {u : Value} (r : RelV x u) (q : RelV y u) : x = y := Option.some.inj (r.abs.symm.trans q.abs)
theorem Vals.inj : ∀ {xs ys : List V} {us : List Value}, Vals xs us → Vals ys us → xs = ys
  | _, _, _, .nil, .nil => rfl
  | _, _, _, .cons r t, .cons r' t' => by rw [r.inj r', Vals.inj t t']
section
variable {X : Cx} {pins : List (Addr × Obj)} {σ : St} {H : Hp} {s : Shared} {a : Addr} {xs ys : List V}
theorem SqL.of {K : PySem.W.Frag} (h : H a = some (.lst xs)) : SqL K H a xs := .inl (.inl h)
theorem SqT.of {K : PySem.W.Frag} (h : H a = some (.tup xs)) : SqT K H a xs := .inl (.inl h)
theorem Inv.list (I : Inv X pins σ H s) (h : SqL X.K H a xs) : ∃ its : List Value, Vals xs its ∧ PlainL s.heap a its.toArray ∧ xs.length ≤ sizeLine := by
  rcases h with h | ⟨o, its, n, hk, hc, hd, hs, hz, r⟩
  · obtain ⟨z, its, n, r, e⟩ := h.ok I.hok
    exact ⟨its, r, ⟨_, n, e, rfl, rfl, rfl⟩, z⟩
  · refine ⟨its.toList, r, ⟨o, n, I.kIn a o hk, hc, hd, by simpa using hs⟩, ?_⟩
    have e := r.length
    simp only [Array.length_toList] at e
    omega
theorem Inv.tuple (I : Inv X pins σ H s) (h : SqT X.K H a xs) : ∃ its : List Value, Vals xs its ∧ IsTup s.heap a its.toArray ∧ xs.length ≤ sizeLine := by
  rcases h with h | ⟨o, its, n, hk, hc, hs, hz, r⟩
  · obtain ⟨z, its, r, p⟩ := h.ok I.hok
    exact ⟨its, r, p, z⟩
  · refine ⟨its.toList, r, ⟨o, I.kIn a o hk, hc, n, by simpa using hs⟩, ?_⟩
    have e := r.length
    simp only [Array.length_toList] at e
    omega
theorem Inv.list_inj (I : Inv X pins σ H s) (h : SqL X.K H a xs) (h' : SqL X.K H a ys) : xs = ys := by
  obtain ⟨its, r, ⟨o, n, e, _, _, d⟩, _⟩ := I.list h
  obtain ⟨its', r', ⟨o', n', e', _, _, d'⟩, _⟩ := I.list h'
  rw [e] at e'; cases e'
  rw [d] at d'
  injection d' with d1 _
  have : its = its' := by simpa using congrArg Array.toList d1
  subst this
  exact r.inj r'
theorem Inv.tuple_inj (I : Inv X pins σ H s) (h : SqT X.K H a xs) (h' : SqT X.K H a ys) : xs = ys := by
  obtain ⟨its, r, ⟨o, e, _, n, d⟩, _⟩ := I.tuple h
  obtain ⟨its', r', ⟨o', e', _, n', d'⟩, _⟩ := I.tuple h'
  rw [e] at e'; cases e'
  rw [d] at d'
  injection d' with d1 _
  have : its = its' := by simpa using congrArg Array.toList d1
  subst this
  exact r.inj r'
end

/-! ### another wish about exceptions -/
abbrev Cx.wish (X : Cx) (E : Value → Shared → Prop) : Cx := { X with xe := E }
/-- no exception leaves -/
abbrev Cx.nox (X : Cx) : Cx := X.wish fun _ _ => False
theorem Cx.Ok.wish {X : Cx} (ok : X.Ok) (E : Value → Shared → Prop) : (X.wish E).Ok :=
  ⟨ok.mod, ok.kind, ok.glob, ok.blt, ok.above, ok.inj, ok.has, ok.cab, ok.hd, ok.frames, ok.stk, ok.exf, ok.bs, ok.bsz, ok.noex, ok.exfs, ok.funs, ok.frf, ok.hs⟩
theorem Cx.Ok.unwish {X : Cx} {E : Value → Shared → Prop} (ok : (X.wish E).Ok) : X.Ok :=
  ⟨ok.mod, ok.kind, ok.glob, ok.blt, ok.above, ok.inj, ok.has, ok.cab, ok.hd, ok.frames, ok.stk, ok.exf, ok.bs, ok.bsz, ok.noex, ok.exfs, ok.funs, ok.frf, ok.hs⟩
section
variable {X : Cx} {pins : List (Addr × Obj)} {σ : St} {H : Hp} {s : Shared} {E : Value → Shared → Prop}
theorem Inv.wish (I : Inv X pins σ H s) (E : Value → Shared → Prop) : Inv (X.wish E) pins σ H s := ⟨I.ok.wish E, I.os, I.bare, I.base, I.loc, I.cell, I.free, I.freeC, I.pin, I.hok, I.len⟩
theorem Inv.unwish (I : Inv (X.wish E) pins σ H s) : Inv X pins σ H s := ⟨I.ok.unwish, I.os, I.bare, I.base, I.loc, I.cell, I.free, I.freeC, I.pin, I.hok, I.len⟩
theorem SP.unwish {D : Ends} {f : Flow} {s' : Shared} (h : SP (X.wish E) pins D f s') : SP X pins D f s' := by
  cases f with
  | next => obtain ⟨σ', H', I, q⟩ := h; exact ⟨σ', H', I.unwish, q⟩
  | brk => obtain ⟨σ', H', I, q⟩ := h; exact ⟨σ', H', I.unwish, q⟩
  | cont => obtain ⟨σ', H', I, q⟩ := h; exact ⟨σ', H', I.unwish, q⟩
  | ret u => obtain ⟨v, σ', H', I, r, q⟩ := h; exact ⟨v, σ', H', I.unwish, r, q⟩
theorem PSs.nox {st : List Stmt} {t : TS} (h : PSs X.nox st t) : PSs X st t := fun pins s σ H D I hw =>
  wpAny_mono (h pins s σ H D (I.wish _) hw) (fun _ _ q => q.unwish) fun _ _ z => False.elim z
end

/-! ### blocks and small statements -/
section
variable {X : Cx} {st : Stmt} {rest : List Stmt} {t u : TS} {e : Expr} {te : TE} {pos : Pos}
def tNext : TS := fun D σ H => D.nx σ H
def tSeq (t u : TS) : TS := fun D σ H => t { D with nx := u D } σ H
theorem pss_nil : PSs X [] tNext := fun _ _ σ H _ I h => wpAny_execs_nil ⟨σ, H, I, h⟩
theorem pss_cons (h1 : PS X st t) (h2 : PSs X rest u) : PSs X (st :: rest) (tSeq t u) := by
  intro pins s σ H D I h
  refine wpAny_execs_cons (thn (h1 pins s σ H { D with nx := u D } I h) fun f s1 q => ?_)
  cases f with
  | next =>
    obtain ⟨σ', H', I', q⟩ := q
    exact h2 pins s1 σ' H' D I' q
  | ret v => exact q
  | brk => exact q
  | cont => exact q
theorem pss_one (h1 : PS X st t) : PSs X [st] t := by
  intro pins s σ H D I h
  refine wpAny_execs_cons (thn (h1 pins s σ H D I h) fun f s1 q => ?_)
  cases f with
  | next => exact wpAny_execs_nil q
  | ret v => exact q
  | brk => exact q
  | cont => exact q
def tBreak : TS := fun D σ H => D.bk σ H
def tCont : TS := fun D σ H => D.ct σ H
/-- in a def's body nothing is shown -/
theorem Inv.quiet {pins : List (Addr × Obj)} {σ : St} {H : Hp} {s : Shared} (I : Inv X pins σ H s) : interactive X.env = false := by simp [interactive, I.ok.kind]
/-- an expression whose value is dropped -/
def tDrop (te : TE) : TS := fun D σ H => te σ H fun _ H1 => D.nx σ H1
theorem ps_expr (he : PE X e te) (hs : swapsWith e none pos.line X.env = pure false := by rfl) : PS X (.Expr e pos) (tDrop te) := by
  intro pins s σ H D I h
  exact wpAny_Expr_any (thn (he pins s σ H _ I h) fun v s1 ⟨x, H1, I1, r1, q1⟩ => ⟨σ, H1, I1, q1⟩) I.quiet hs
def tRet (te : TE) : TS := fun D σ H => te σ H D.rt
theorem ps_ret (he : PE X e te) : PS X (.Return (some e) pos) (tRet te) := by
  intro pins s σ H D I h
  exact wpAny_Return_some (thn (he pins s σ H _ I h) fun v s1 ⟨x, H1, I1, r1, q1⟩ => ⟨x, σ, H1, I1, r1, q1⟩)
def tRetN : TS := fun D _ H => D.rt .non H
def tIfS (c : TT) (t u : TS) : TS := fun D σ H => c σ H fun b H1 => if b = true then t D σ H1 else u D σ H1
theorem ps_if {c : Expr} {a b : List Stmt} {tc : TT} (hc : PT X c tc) (ha : PSs X a t) (hb : PSs X b u) : PS X (.If c a b pos) (tIfS tc t u) := by
  intro pins s σ H D I h
  refine wpAny_If (thn (hc pins s σ H _ I h) fun d s1 ⟨H1, I1, q1⟩ => ?_)
  cases d with
  | true => exact ha pins s1 σ H1 D I1 q1
  | false => exact hb pins s1 σ H1 D I1 q1
/-- code that the proof never comes to -/
def tNever : TS := fun _ _ _ => False
end

/-! ### targets -/
abbrev TG := V → St → Hp → (St → Hp → Prop) → Prop
abbrev TGs := List V → St → Hp → (St → Hp → Prop) → Prop
def PG (X : Cx) (target : Expr) (t : TG) : Prop :=
  ∀ (pins : List (Addr × Obj)) (s : Shared) (σ : St) (H : Hp) (v : V) (u : Value) (Q : St → Hp → Prop), Inv X pins σ H s → RelV v u → t v σ H Q →
    wpAny (model X.prog X.w) X.A (assign target X.env u) (fun _ s' => ∃ σ' H', Inv X pins σ' H' s' ∧ Q σ' H') X.xe s
/-- several targets, one after another -/
def PGs (X : Cx) (ts : List Expr) (t : TGs) : Prop :=
  ∀ (pins : List (Addr × Obj)) (s : Shared) (σ : St) (H : Hp) (vs : List V) (us : List Value) (Q : St → Hp → Prop), Inv X pins σ H s → Vals vs us → t vs σ H Q →
    wpAny (model X.prog X.w) X.A (assignInOrder ((assignEach ts X.env).map (·.2)) us) (fun _ s' => ∃ σ' H', Inv X pins σ' H' s' ∧ Q σ' H') X.xe s
/-- o[i] = v, by values -/
abbrev TSet := V → V → V → Hp → (Hp → Prop) → Prop
def PSet (X : Cx) (t : TSet) : Prop :=
  ∀ (pins : List (Addr × Obj)) (s : Shared) (σ : St) (H : Hp) (o i v : V) (ov iv u : Value) (Q : Hp → Prop), Inv X pins σ H s → RelV o ov → RelV i iv → RelV v u → t o i v H Q →
    wpAny (model X.prog X.w) X.A (setItem ov iv u) (fun _ s' => ∃ H', Inv X pins σ H' s' ∧ Q H') X.xe s
/-- a op= b, by values -/
abbrev TIp := V → V → Hp → VK → Prop
def PIp (X : Cx) (op : Operator) (t : TIp) : Prop :=
  ∀ (pins : List (Addr × Obj)) (s : Shared) (σ : St) (H : Hp) (x y : V) (v u : Value) (Q : VK), Inv X pins σ H s → RelV x v → RelV y u → t x y H Q →
    wpAny (model X.prog X.w) X.A (inplaceOp op v u) (EP X pins σ Q) X.xe s
section
variable {X : Cx} {pos : Pos}
def gName (i : Nat) : TG := fun v σ H Q => Q (σ.set i (some v)) H
theorem pg_name {i : Nat} {x : Str} (hN : X.N.Nodup) (hi : X.N[i]? = some x) (hx : Loc X.env.scope x) (hf : X.fn x = true ∨ X.env.scope.names.lookup x = some .local := by first | exact .inl rfl | exact .inr rfl | assumption) : PG X (.Name x pos) (gName i) := by
  intro pins s σ H v u Q I r h
  exact wpAny_assign_Name (store_ok I hN hi hx r (fun s' I' => ⟨_, H, I', h⟩) hf)
def gNil : TGs := fun vs σ H Q => vs = [] ∧ Q σ H
def gCons (t : TG) (u : TGs) : TGs := fun vs σ H Q => ∃ v r, vs = v :: r ∧ t v σ H fun σ' H' => u r σ' H' Q
theorem pgs_nil : PGs X [] gNil := by
  intro pins s σ H vs us Q I r h
  obtain ⟨e, h⟩ := h
  subst e
  cases r
  exact assignInOrder_nil ⟨σ, H, I, h⟩
theorem pgs_cons {e : Expr} {es : List Expr} {t : TG} {u : TGs} (h1 : PG X e t) (h2 : PGs X es u)
    (hs : (assignEach (e :: es) X.env).map (·.2) = assign e X.env :: (assignEach es X.env).map (·.2) := by rfl) : PGs X (e :: es) (gCons t u) := by
  intro pins s σ H vs us Q I r h
  obtain ⟨v, vr, e1, h⟩ := h
  subst e1
  cases r with
  | cons r rr =>
    rw [hs]
    refine assignInOrder_cons (thn (h1 pins s σ H _ _ _ I r h) fun _ s1 ⟨σ1, H1, I1, q1⟩ => ?_)
    exact h2 pins s1 σ1 H1 _ _ Q I1 rr q1
/-- (a, b, ..) = a tuple of that length -/
def gTup (K : PySem.W.Frag) (n : Nat) (t : TGs) : TG := fun v σ H Q => ∃ a xs, v = .ref a ∧ SqT K H a xs ∧ xs.length = n ∧ t xs σ H Q
theorem pg_tup {es : List Expr} {k : Nat} {t : TGs} {n : Nat} (hc : X.calm = true) (h : PGs X es t)
    (hn : (assignEach es X.env).length = n := by rfl) (hst : (assignEach es X.env).findIdx? (·.1) = none := by rfl) : PG X (.Tuple es k pos) (gTup X.K n t) := by
  intro pins s σ H v u Q I r hw
  obtain ⟨a, xs, e1, hq, hl, hw⟩ := hw
  subst e1
  cases r
  obtain ⟨its, rv, ht, hz⟩ := I.tuple hq
  refine assign_Tuple_tuple (I.ok.hd hc) ht (by simp [hn, ← hl, rv.length]) hst fun h' hx => ?_
  have I1 : Inv X pins σ H { s with heap := h' } := I.kept (t' := s.toks) fun b o e => hx b o (Nat.ne_of_lt (Heap.lt_size e)) e
  exact h pins _ σ H xs _ Q I1 (by simpa using rv) hw
/-- o[i] = .. -/
def gSub (to ti : TE) (t : TSet) : TG := fun v σ H Q => to σ H fun o H1 => ti σ H1 fun i H2 => t o i v H2 fun H3 => Q σ H3
/-- target = value -/
def tAsg (te : TE) (g : TG) : TS := fun D σ H => te σ H fun x H1 => g x σ H1 D.nx
/-- name = value -/
theorem ps_set {i : Nat} {x : Str} {e : Expr} {te : TE} {pos' : Pos} (hN : X.N.Nodup) (hi : X.N[i]? = some x) (hx : Loc X.env.scope x) (he : PE X e te) (hs : swapsWith e (some (.Name x pos')) pos.line X.env = pure false := by rfl) (hf : X.fn x = true ∨ X.env.scope.names.lookup x = some .local := by first | exact .inl rfl | exact .inr rfl | assumption) :
    PS X (.Assign [.Name x pos'] e pos) (tAsg te (gName i)) := by
  intro pins s σ H D I h
  refine wpAny_Assign_Name (thn (he pins s σ H _ I h) fun v s1 ⟨y, H1, I1, r1, q1⟩ => ?_) hs
  exact store_ok I1 hN hi hx r1 (fun s2 I2 => ⟨_, H1, I2, q1⟩) hf
/-- a, b = x, y with plain local names: stored from the right; the pair itself is not tracked (the opening rows as in PyProof/Rows/TupAssign.lean:23) -/
def tPar (i j : Nat) (ta : TA) : TS := fun D σ H => ta σ H fun vs H1 => ∃ v w, vs = [v, w] ∧ D.nx ((σ.set i (some v)).set j (some w)) H1
/-- name op= e -/
def tAug (i : Nat) (te : TE) (ti : TIp) : TS := fun D σ H => ∃ x, σ[i]? = some (some x) ∧ te σ H fun y H1 => ti x y H1 fun z H2 => D.nx (σ.set i (some z)) H2
/-- o[i] op= e -/
def tAugS (to ti te : TE) (tget : V → V → Hp → VK → Prop) (tip : TIp) (tset : TSet) : TS := fun D σ H => to σ H fun o H1 => ti σ H1 fun i H2 => tget o i H2 fun x H3 => te σ H3 fun y H4 => tip x y H4 fun z H5 => tset o i z H5 fun H6 => D.nx σ H6
/-- o[i], by values -/
def PGet (X : Cx) (t : V → V → Hp → VK → Prop) : Prop :=
  ∀ (pins : List (Addr × Obj)) (s : Shared) (σ : St) (H : Hp) (o i : V) (ov iv : Value) (Q : VK), Inv X pins σ H s → RelV o ov → RelV i iv → t o i H Q →
    wpAny (model X.prog X.w) X.A (getItem ov iv) (EP X pins σ Q) X.xe s
/-- ints -/
def ipI (f : Int → Int → Int) : TIp := fun x y H Q => ∃ i j, x = .int i ∧ y = .int j ∧ Q (.int (f i j)) H
end

/-! ### while -/
section
variable {X : Cx} {pos : Pos}
/-- the invariant W with its measure -/
def tWhile (c : TT) (tb : TS) : TS := fun D σ H => ∃ W : Nat → St → Hp → Prop, (∃ m, W m σ H) ∧ ∀ m σ H, W m σ H →
  c σ H fun b H1 => if b = true then ∃ N : St → Hp → Prop, (∀ σ' H', N σ' H' → ∃ m', m' < m ∧ W m' σ' H') ∧ tb { D with nx := N, ct := N, bk := D.nx } σ H1 else D.nx σ H1
theorem ps_while {c : Expr} {body : List Stmt} {tc : TT} {tb : TS} (hp : PassesOwn (model X.prog X.w) X.A X.env X.xe) (hc : PT X c tc) (hb : PSs X body tb) : PS X (.While c body [] pos) (tWhile tc tb) := by
  intro pins s σ H D I h
  obtain ⟨W, ⟨m0, w0⟩, turn⟩ := h
  refine wpAny_While (codeAny_whileLoop (fun n s' => ∃ σ' H', Inv X pins σ' H' s' ∧ W n σ' H') ?_ m0 ⟨σ, H, I, w0⟩)
  rintro n s1 ⟨σ1, H1, I1, w1⟩
  refine wpAny_passesOwn hp (thn (hc pins s1 σ1 H1 _ I1 (turn n σ1 H1 w1)) fun b s2 ⟨H2, I2, q2⟩ => ?_)
  cases b with
  | true =>
    obtain ⟨N, hN, q2⟩ := q2
    rw [if_pos rfl]
    refine wpAny_passesOwn hp (thn (hb pins s2 σ1 H2 _ I2 q2) fun f s3 q3 => ?_)
    cases f with
    | next =>
      obtain ⟨σ3, H3, I3, n3⟩ := q3
      obtain ⟨m', hm, w3⟩ := hN σ3 H3 n3
      exact ⟨m', hm, σ3, H3, I3, w3⟩
    | cont =>
      obtain ⟨σ3, H3, I3, n3⟩ := q3
      obtain ⟨m', hm, w3⟩ := hN σ3 H3 n3
      exact ⟨m', hm, σ3, H3, I3, w3⟩
    | brk => exact q3
    | ret v => exact q3
  | false =>
    rw [if_neg Bool.false_ne_true]
    exact wpAny_execs_nil ⟨σ1, H2, I2, q2⟩
end

/-! ### what a loop or a comprehension walks -/
/-- at turn i: it yields x (the heap may grow), or it stops -/
structure It where
  go : Nat → Hp → Prop
  yld : Nat → Hp → V → Hp → Prop
  stop : Nat → Hp → Prop
  sok : Bool
/-- the iterator's own objects may turn: they are not the frame's, not pinned, younger than the entry (or a comprehension's own) -/
def FpOk (X : Cx) (pins : List (Addr × Obj)) (H : Hp) (b : Addr) : Prop :=
  H b = none ∧ b ≠ X.env.locals ∧ b ∉ X.fs ∧ (b ∈ X.ex ∨ X.s₀.heap.objs.size ≤ b) ∧ (∀ x c, X.env.cells.lookup x = some c → c ≠ b) ∧ ∀ p ∈ X.pn ++ pins, p.1 ≠ b
theorem Inv.fpOk {X : Cx} {pins : List (Addr × Obj)} {σ : St} {H H' : Hp} {s : Shared} {b : Addr} (I : Inv X pins σ H s) (hb : s.heap.objs.size ≤ b) (hn : H' b = none) : FpOk X pins H' b := by
  refine ⟨hn, Nat.ne_of_gt (Nat.lt_of_lt_of_le I.lt hb), I.nofs hb, .inr (Nat.le_trans I.sz hb), fun x c e z => ?_, fun p hp z => ?_⟩
  · obtain ⟨v, q⟩ := I.cell x c e
    exact absurd (Nat.lt_of_lt_of_le q.lt (by rw [z]; exact hb)) (Nat.lt_irrefl _)
  · exact absurd (Nat.lt_of_lt_of_le (Heap.lt_size (I.pin p hp).1) (by rw [z]; exact hb)) (Nat.lt_irrefl _)
structure Turn (P : Program) (w : World) (K : PySem.W.Frag) (tg : Expr) (J : It) (fp : List Addr) (it : Addr) (tn : Nat → Heap → Prop) : Prop where
  mem : it ∈ fp
  obj : ∀ i h, tn i h → ∀ b ∈ fp, ∃ o, h.get? b = some o ∧ ∀ v, o.data ≠ .cell v
  keep : ∀ i h h', tn i h → (∀ b ∈ fp, ∀ o, h.get? b = some o → h'.get? b = some o) → tn i h'
  item : ∀ (X : Cx), X.prog = P → X.w = w → X.K = K → (X.calm = true ∨ J.sok = true ∧ X.suit = true) → ∀ (i : Nat) (pins : List (Addr × Obj)) (s : Shared) (σ : St) (H : Hp) (E : Value → Shared → Prop), Inv X pins σ H s → (∀ b ∈ fp, FpOk X pins H b) → tn i s.heap → J.go i H →
    wpAny (model P w) X.A (pyNext (.ref it)) (fun r s1 => ∃ u, r = some u ∧
      wpAny (model P w) X.A (letOwnedTupleGo tg (.ref it) u) (fun _ s2 => ∃ x H', Inv X pins σ H' s2 ∧ RelV x u ∧ J.yld i H x H' ∧ tn (i + 1) s2.heap ∧ ∀ b ∈ fp, H' b = none) E s1) E s
  done : ∀ (X : Cx), X.prog = P → X.w = w → X.K = K → (X.calm = true ∨ J.sok = true ∧ X.suit = true) → ∀ (i : Nat) (pins : List (Addr × Obj)) (s : Shared) (σ : St) (H : Hp) (E : Value → Shared → Prop), Inv X pins σ H s → (∀ b ∈ fp, FpOk X pins H b) → tn i s.heap → J.stop i H →
    wpAny (model P w) X.A (pyNext (.ref it)) (fun r s1 => r = none ∧ Inv X pins σ H s1) E s
  self : ∀ (A : Around) (i : Nat) (s : Shared) (Q : Value → Shared → Prop) (E : Value → Shared → Prop), tn i s.heap → Q (.ref it) s → wpAny (model P w) A (pyIter (.ref it)) Q E s
abbrev TI := St → Hp → (It → Hp → Prop) → Prop
/-- an iterator has come -/
def PIE (X : Cx) (pins : List (Addr × Obj)) (σ : St) (tg : Expr) (R : It → Hp → Prop) (itv : Value) (s2 : Shared) : Prop :=
  ∃ (it : Addr) (fp : List Addr) (tn : Nat → Heap → Prop) (J : It) (H' : Hp), itv = .ref it ∧ Inv X pins σ H' s2 ∧ Turn X.prog X.w X.K tg J fp it tn ∧ tn 0 s2.heap ∧ (∀ b ∈ fp, FpOk X pins H' b) ∧ R J H'
def PI (X : Cx) (tg iter : Expr) (wi : TI) : Prop :=
  ∀ (pins : List (Addr × Obj)) (s : Shared) (σ : St) (H : Hp) (R : It → Hp → Prop), Inv X pins σ H s → wi σ H R →
    wpAny (model X.prog X.w) X.A (eval iter X.env) (fun v s1 => wpAny (model X.prog X.w) X.A (pyIter v) (PIE X pins σ tg R) X.xe s1) X.xe s

/-- the step ahead of the store is nothing for an iterator that keeps no tuple -/
theorem go_of {M : Model} {A : Around} {E : Value → Shared → Prop} {s : Shared} {tg : Expr} {it : Addr} {u : Value} {o : Obj} {n : String} {vs : Array Value} {Q : Unit → Shared → Prop} (ho : s.heap.get? it = some o) (hc : o.cls = .type n) (hd : o.data = .fields vs)
    (hn : ["enumerate", "zip", "dict_itemiterator", "dict_reverseitemiterator", "odict_iterator", "itertools.zip_longest", "itertools.pairwise"].contains n = false) (hQ : Q () s) : wpAny M A (letOwnedTupleGo tg (.ref it) u) Q E s := by
  unfold letOwnedTupleGo
  cases tg <;> first
    | exact wpAny_pure hQ
    | (cases u <;> first
        | exact wpAny_pure hQ
        | (refine wpAny_bind (wpAny_load ho ?_)
           rw [hc, hd]
           show wpAny M A (if (["enumerate", "zip", "dict_itemiterator", "dict_reverseitemiterator", "odict_iterator", "itertools.zip_longest", "itertools.pairwise"].contains n && vs[0]? == some (rawInt _)) = true then _ else _) Q E s
           rw [if_neg (by intro h; rw [hn, Bool.false_and] at h; cases h)]
           exact wpAny_pure hQ))

/-! ### the end of a walk where an exception is handled around -/
section
variable {prog : Program} {w : World} {A : Around} {E : Value → Shared → Prop} {s : Shared}
theorem entry_unchain : entryFor table "proto.unchain" = some Builtin.«proto.unchain» := entryFor_of_tree (by kernel_rfl)
theorem raiseNew_S {α : Type} {e x : Addr} {ox oe : Obj} {xs es : Array Value} {Q : α → Shared → Prop} (hA : A.handled = some (.ref x)) (hx : s.heap.get? x = some ox) (dx : ox.data = .fields xs) (x2 : xs[2]? = some .none) (ne : x ≠ e) (he : s.heap.get? e = some oe) (de : oe.data = .fields es) (z : 2 < es.size)
    (k : E (.ref e) { s with heap := s.heap.update e (Obj.mapFields (·.setIfInBounds 2 (.ref x))) }) : wpAny (model prog w) A (raiseNew (.ref e) : Sem α) Q E s := by
  unfold raiseNew
  refine wpAny_bind (wpAny_handled ?_)
  rw [hA]
  dsimp only
  rw [if_pos (show (Value.ref x != Value.ref e) = true from by simp [ne])]
  refine wpAny_bind (wpAny_holding (wpAny_runValue (codeAny_builtin entry_unchain ?_)))
  unfold Builtin.«proto.unchain»
  dsimp only
  refine wpAny_bind (wpAny_field hx dx x2 ?_)
  rw [if_pos (by decide)]
  refine wpAny_pure ?_
  show wpAny _ _ (setField (.ref e) 2 (.ref x) >>= fun _ => throw (Value.ref e)) _ _ _
  exact wpAny_bind (wpAny_setField he de z (wpAny_throw k))
/-- StopIteration is made and raised: the iterator it was changed ahead of it -/
theorem stop_S {β : Type} {x it : Addr} {ox : Obj} {xs : Array Value} {h0 : Heap} {Q : Option Value → Shared → Prop} {R : β → Shared → Prop} (hA : A.handled = some (.ref x)) (hx : s.heap.get? x = some ox) (dx : ox.data = .fields xs) (x2 : xs[2]? = some .none)
    (kp : ∀ b o, b ≠ it → s.heap.get? b = some o → h0.get? b = some o) (ne : x ≠ it) (k : ∀ h', Heap.ExtBut it s.heap h' → Q none { s with heap := h' }) :
    wpAny (model prog w) A.in1 (newExc (.type "StopIteration") [] >>= fun e => (raiseNew e : Sem β)) R (fun e s' => wpAny (model prog w) A (do if ← isInstance e (.type "StopIteration") then pure none else throw e) Q E s') { s with heap := h0 } := by
  refine wpAny_bind ?_
  simp only [newExc, newTuple]
  refine wpAny_bind (wpAny_newObj_type ?_ (by size_fits))
  refine wpAny_bind (m := firstArgMember _ _) (wpAny_of_eq (a := Value.none) (by simp only [firstArgMember]; rfl) ?_)
  refine wpAny_newObj_type ?_ (by size_fits)
  dsimp only
  have hz : (h0.push { cls := .type "tuple", data := .seq ([] : List Value).toArray }).objs.size ≠ x := Nat.ne_of_gt (Heap.lt_size (Heap.get?_push_of_some _ (kp x ox ne hx)))
  refine raiseNew_S (x := x) hA (Heap.get?_push_of_some _ (Heap.get?_push_of_some _ (kp x ox ne hx))) dx x2 (Ne.symm hz) (Heap.get?_push_size _ rfl) rfl (by show 2 < 6; decide) ?_
  refine wpAny_bind (wpAny_isInstance (T := "StopIteration") (b := true) ⟨_, Heap.get?_update_self _ (Heap.get?_push_size _ rfl) rfl, rfl⟩ isSubtype_stop ?_)
  refine wpAny_pure (k _ fun b o hb q => ?_)
  have q2 := Heap.get?_push_of_some { cls := .type "tuple", data := .seq ([] : List Value).toArray } (kp b o hb q)
  dsimp only
  rw [Heap.get?_update_other _ _ (Nat.ne_of_gt (Heap.lt_size q2))]
  exact Heap.get?_push_of_some _ q2
theorem next_list_endS {x it l : Addr} {i : Nat} {items : Array Value} {ox : Obj} {xs : Array Value} {Q : Option Value → Shared → Prop} (hA : A.handled = some (.ref x)) (hx : s.heap.get? x = some ox) (dx : ox.data = .fields xs) (x2 : xs[2]? = some .none)
    (hit : s.heap.IsListIter it l i) (hl : s.heap.IsList l items) (hi : items[i]? = none) (ne : x ≠ it) (k : ∀ h', Heap.ExtBut it s.heap h' → Q none { s with heap := h' }) : wpAny (model prog w) A (pyNext (.ref it)) Q E s := by
  obtain ⟨oi, ei, _, di⟩ := id hit
  obtain ⟨ol, el, _, nl, dl⟩ := hl
  unfold pyNext
  refine wpAny_bind (wpAny_attempt (wpAny_callSpecial?_slot (name := "__next__") hit.typeIs slot_listiter_next (wpAny_call_entry slot_listiter_next hit.typeIs entry_listiter_next ?_ (args_listiter_next _))))
  refine wpAny_bind (m := field (.ref it) 0) (wpAny_field ei di (x := .ref l) rfl ?_)
  rw [if_neg (by intro z; cases z)]
  refine wpAny_bind (m := field (.ref it) 1) (wpAny_field ei di (x := .int i 0) rfl ?_)
  refine wpAny_bind (m := seqItems? (.ref l)) (wpAny_seqItems el dl ?_)
  simp only [Int.toNat_natCast, hi]
  refine wpAny_bind (wpAny_rule (wpAny_bind (wpAny_setField ei di (by simp) ?_)))
  exact stop_S hA hx dx x2 (fun b o hb q => (Heap.get?_update_other _ _ (Ne.symm hb)).trans q) ne k
end

/-- the list at a, as it stands at each turn (a loop may append to it) -/
def Itl (K : PySem.W.Frag) (a : Addr) : It :=
  ⟨fun i H => ∃ xs x, SqL K H a xs ∧ xs[i]? = some x, fun i H x H' => H' = H ∧ ∀ xs, SqL K H a xs → xs[i]? = some x, fun i H => ∃ xs, SqL K H a xs ∧ xs.length ≤ i, true⟩
def Itt (K : PySem.W.Frag) (a : Addr) : It :=
  ⟨fun i H => ∃ xs x, SqT K H a xs ∧ xs[i]? = some x, fun i H x H' => H' = H ∧ ∀ xs, SqT K H a xs → xs[i]? = some x, fun i H => ∃ xs, SqT K H a xs ∧ xs.length ≤ i, false⟩
/-- lo, lo + 1, .. (n of them) -/
def Itr (lo : Int) (n : Nat) : It := ⟨fun i _ => i < n, fun i H x H' => H' = H ∧ x = .int (lo + i), fun i _ => n ≤ i, false⟩
theorem turn_list {P : Program} {w : World} {K : PySem.W.Frag} {tg : Expr} (a it : Addr) : Turn P w K tg (Itl K a) [it] it (fun i h => h.IsListIter it a i) where
  mem := by simp
  obj := fun i h st b hb => by
    have e : b = it := by simpa using hb
    subst e
    obtain ⟨o, e, c, d⟩ := st
    exact ⟨o, e, fun v z => by rw [d] at z; cases z⟩
  keep := fun i h h' st k => st.at fun o e => k it (by simp) o e
  item := by
    intro X hP hw hK hc i pins s σ H E I hf st hg
    subst hP hw hK
    obtain ⟨xs, x, hq, hx⟩ := hg
    obtain ⟨its, rv, p, hz⟩ := I.list hq
    obtain ⟨u, hu, ru⟩ := rv.get hx
    obtain ⟨f0, f1, f2, f3, f4, f5⟩ := hf it (by simp)
    refine wpAny_pyNext_list_item st p.isList (x := u) (by simpa using hu) fun h' st' sb => ?_
    have I1 : Inv X pins σ H { s with heap := h' } := I.turned (t' := s.toks) (fun b o hb e => (sb.2 b hb).trans e) f0 f1 f3 f4 f5
    obtain ⟨o, e, c, d⟩ := id st'
    exact ⟨u, rfl, go_of (s := { s with heap := h' }) e c d (by decide) ⟨x, H, I1, ru, ⟨rfl, fun ys hy => by rw [I.list_inj hy hq]; exact hx⟩, st', fun b hb => (hf b hb).1⟩⟩
  done := by
    intro X hP hw hK hc i pins s σ H E I hf st hg
    subst hP hw hK
    obtain ⟨xs, hq, hx⟩ := hg
    obtain ⟨its, rv, p, hz⟩ := I.list hq
    obtain ⟨f0, f1, f2, f3, f4, f5⟩ := hf it (by simp)
    have hl := rv.length
    rcases hc with hc | ⟨_, hc⟩
    rotate_left
    · obtain ⟨e, cls, dx, a0, tb, hA, hE⟩ := I.ok.hs hc
      have hE' := I.base.frzs e _ _ hE
      obtain ⟨he, _⟩ := I.hok e _ hE'
      exact next_list_endS hA he rfl rfl st p.isList (by simp; omega) (fun z => by rw [z, f0] at hE'; cases hE') fun h' eb => ⟨rfl, I.turned (t' := s.toks) (fun b o hb e => eb b o hb e) f0 f1 f3 f4 f5⟩
    exact wpAny_pyNext_list_end (I.ok.hd hc) st p.isList (by simp; omega) fun h' eb => ⟨rfl, I.turned (t' := s.toks) (fun b o hb e => eb b o hb e) f0 f1 f3 f4 f5⟩
  self := fun _ _ _ _ _ st h => wpAny_pyIter_listiter st h
theorem turn_tuple {P : Program} {w : World} {K : PySem.W.Frag} {tg : Expr} (a it : Addr) : Turn P w K tg (Itt K a) [it] it (fun i h => h.IsTupleIter it a i) where
  mem := by simp
  obj := fun i h st b hb => by
    have e : b = it := by simpa using hb
    subst e
    obtain ⟨o, e, c, d⟩ := st
    exact ⟨o, e, fun v z => by rw [d] at z; cases z⟩
  keep := fun i h h' st k => st.at fun o e => k it (by simp) o e
  item := by
    intro X hP hw hK hc i pins s σ H E I hf st hg
    subst hP hw hK
    obtain ⟨xs, x, hq, hx⟩ := hg
    obtain ⟨its, rv, p, hz⟩ := I.tuple hq
    obtain ⟨u, hu, ru⟩ := rv.get hx
    obtain ⟨f0, f1, f2, f3, f4, f5⟩ := hf it (by simp)
    refine wpAny_pyNext_tuple_item st (show s.heap.IsTuple a its.toArray from p) (x := u) (by simpa using hu) fun h' st' sb => ?_
    have I1 : Inv X pins σ H { s with heap := h' } := I.turned (t' := s.toks) (fun b o hb e => (sb.2 b hb).trans e) f0 f1 f3 f4 f5
    obtain ⟨o, e, c, d⟩ := id st'
    exact ⟨u, rfl, go_of (s := { s with heap := h' }) e c d (by decide) ⟨x, H, I1, ru, ⟨rfl, fun ys hy => by rw [I.tuple_inj hy hq]; exact hx⟩, st', fun b hb => (hf b hb).1⟩⟩
  done := by
    intro X hP hw hK hc i pins s σ H E I hf st hg
    subst hP hw hK
    obtain ⟨xs, hq, hx⟩ := hg
    obtain ⟨its, rv, p, hz⟩ := I.tuple hq
    obtain ⟨f0, f1, f2, f3, f4, f5⟩ := hf it (by simp)
    have hl := rv.length
    have hc := hc.resolve_right fun z => Bool.noConfusion (show false = true from z.1)
    exact wpAny_pyNext_tuple_end (I.ok.hd hc) st (show s.heap.IsTuple a its.toArray from p) (by simp; omega) fun h' eb => ⟨rfl, I.turned (t' := s.toks) (fun b o hb e => eb b o hb e) f0 f1 f3 f4 f5⟩
  self := fun _ _ _ _ _ st h => wpAny_pyIter_tupleiter st h
theorem turn_range {P : Program} {w : World} {K : PySem.W.Frag} {tg : Expr} (it : Addr) (lo : Int) (n : Nat) : Turn P w K tg (Itr lo n) [it] it (fun i h => IsRangeIter h it (lo + (i : Nat) * 1) ((n : Int) - (i : Nat)) 1) where
  mem := by simp
  obj := fun i h st b hb => by
    have e : b = it := by simpa using hb
    subst e
    exact ⟨_, st, fun v z => by
      have z' : Data.fields _ = Data.cell v := z
      cases z'⟩
  keep := fun i h h' st k => k it (by simp) _ st
  item := by
    intro X hP hw hK hc i pins s σ H E I hf st hg
    subst hP hw hK
    obtain ⟨f0, f1, f2, f3, f4, f5⟩ := hf it (by simp)
    have hc := hc.resolve_right fun z => Bool.noConfusion (show false = true from z.1)
    have W := Walks.range (prog := X.prog) (w := X.w) (I.ok.hd hc) it lo 1 n
    refine W.item i s _ _ hg st fun v h' tk hv st' kk => ?_
    obtain ⟨t, rfl⟩ := hv
    have I1 : Inv X pins σ H { s with heap := h', toks := tk } := I.turned (fun b o hb e => kk b o (by simpa using hb) e) f0 f1 f3 f4 f5
    refine ⟨_, rfl, go_of (s := { s with heap := h', toks := tk }) (n := "range_iterator") st' rfl rfl (by decide) ⟨.int (lo + i), H, I1, ⟨t, ?_⟩, ⟨rfl, rfl⟩, st', fun b hb => (hf b hb).1⟩⟩
    rw [Int.mul_one]
  done := by
    intro X hP hw hK hc i pins s σ H E I hf st hg
    subst hP hw hK
    obtain ⟨f0, f1, f2, f3, f4, f5⟩ := hf it (by simp)
    have hc := hc.resolve_right fun z => Bool.noConfusion (show false = true from z.1)
    exact wpAny_pyNext_range_end (I.ok.hd hc) st (by have : n ≤ i := hg; omega) fun h' eb => ⟨rfl, I.turned (t' := s.toks) (fun b o hb e => eb b o hb e) f0 f1 f3 f4 f5⟩
  self := fun _ _ _ _ _ st h => wpAny_pyIter_rangeiter st h
end L2

namespace L2
open PySem PySem.Spec PyProof.Rows
section
variable {X : Cx} {tg : Expr}
def iList (K : PySem.W.Frag) (tl : TE) : TI := fun σ H R => tl σ H fun x H1 => ∃ a, x = .ref a ∧ (∃ xs, SqL K H1 a xs) ∧ R (Itl K a) H1
def iTup (K : PySem.W.Frag) (tl : TE) : TI := fun σ H R => tl σ H fun x H1 => ∃ a, x = .ref a ∧ (∃ xs, SqT K H1 a xs) ∧ R (Itt K a) H1
theorem pi_list {l : Expr} {tl : TE} (hl : PE X l tl) : PI X tg l (iList X.K tl) := by
  intro pins s σ H R I h
  refine thn (hl pins s σ H _ I h) fun v s1 ⟨x, H1, I1, r1, q1⟩ => ?_
  obtain ⟨a, e, ⟨xs, hq⟩, q⟩ := q1
  subst e
  cases r1
  obtain ⟨its, rv, p, hz⟩ := I1.list hq
  refine wpAny_pyIter_list p.isList ?_
  refine ⟨s1.heap.objs.size, [s1.heap.objs.size], _, _, H1, rfl, I1.kept (t' := s1.toks) fun b o e => Heap.get?_push_of_some _ e, turn_list a _, ⟨_, Heap.get?_push_size _ rfl, rfl, rfl⟩, fun b hb => ?_, q⟩
  have e : b = s1.heap.objs.size := by simpa using hb
  subst e
  exact I1.fpOk (Nat.le_refl _) (I1.hok.fresh (Nat.le_refl _))
theorem pi_tup {l : Expr} {tl : TE} (hl : PE X l tl) : PI X tg l (iTup X.K tl) := by
  intro pins s σ H R I h
  refine thn (hl pins s σ H _ I h) fun v s1 ⟨x, H1, I1, r1, q1⟩ => ?_
  obtain ⟨a, e, ⟨xs, hq⟩, q⟩ := q1
  subst e
  cases r1
  obtain ⟨its, rv, p, hz⟩ := I1.tuple hq
  refine wpAny_pyIter_tuple (show s1.heap.IsTuple a its.toArray from p) ?_
  refine ⟨s1.heap.objs.size, [s1.heap.objs.size], _, _, H1, rfl, I1.kept (t' := s1.toks) fun b o e => Heap.get?_push_of_some _ e, turn_tuple a _, ⟨_, Heap.get?_push_size _ rfl, rfl, rfl⟩, fun b hb => ?_, q⟩
  have e : b = s1.heap.objs.size := by simpa using hb
  subst e
  exact I1.fpOk (Nat.le_refl _) (I1.hok.fresh (Nat.le_refl _))
/-- a range object just made, walked -/
theorem range_it {pins : List (Addr × Obj)} {σ : St} {H : Hp} {s : Shared} {R : It → Hp → Prop} {E : Value → Shared → Prop} {lo hi : Int} {t u v : Tok} {tk : Nat} (I : Inv X pins σ H s) (h1 : -(2 ^ 62) ≤ lo) (h2 : lo < 2 ^ 62) (h3 : -(2 ^ 62) ≤ hi) (h4 : hi < 2 ^ 62)
    (q : R (Itr lo (hi - lo).toNat) H) : wpAny (model X.prog X.w) X.A (pyIter (.ref s.heap.objs.size)) (PIE X pins σ tg R) E { s with heap := s.heap.push { cls := .type "range", data := .fields #[.int lo t, .int hi u, .int 1 v] }, toks := tk } := by
  refine wpAny_pyIter_range (IsRange.new ..) (small_one h1 h2 h3 h4) ?_
  have I1 : Inv X pins σ H { s with heap := s.heap.push { cls := .type "range", data := .fields #[.int lo t, .int hi u, .int 1 v] }, toks := tk } := I.kept fun b o e => Heap.get?_push_of_some _ e
  refine ⟨(s.heap.push { cls := .type "range", data := .fields #[.int lo t, .int hi u, .int 1 v] }).objs.size, [(s.heap.push { cls := .type "range", data := .fields #[.int lo t, .int hi u, .int 1 v] }).objs.size], _, _, H, rfl,
    I1.kept (t' := tk) fun b o e => Heap.get?_push_of_some _ e, turn_range _ lo (hi - lo).toNat, ?_, fun b hb => ?_, q⟩
  · have e1 : lo + ((0 : Nat) : Int) * 1 = lo := by simp
    have e2 : (((hi - lo).toNat : Nat) : Int) - ((0 : Nat) : Int) = Builtin.Range.rangeSize lo hi 1 := by rw [rangeSize_one]; split <;> omega
    show IsRangeIter _ _ (lo + ((0 : Nat) : Int) * 1) ((((hi - lo).toNat : Nat) : Int) - ((0 : Nat) : Int)) 1
    rw [e1, e2]
    exact Heap.get?_push_size _ rfl
  · have e : b = (s.heap.push { cls := .type "range", data := .fields #[.int lo t, .int hi u, .int 1 v] }).objs.size := by simpa using hb
    subst e
    exact I1.fpOk (Nat.le_refl _) (I1.hok.fresh (Nat.le_refl _))
def iRng1 (ta : TA) : TI := fun σ H R => ta σ H fun vs H1 => ∃ j : Int, vs = [.int j] ∧ -(2 ^ 62) ≤ j ∧ j < 2 ^ 62 ∧ R (Itr 0 j.toNat) H1
def iRng2 (ta : TA) : TI := fun σ H R => ta σ H fun vs H1 => ∃ i j : Int, vs = [.int i, .int j] ∧ (-(2 ^ 62) ≤ i ∧ i < 2 ^ 62 ∧ -(2 ^ 62) ≤ j ∧ j < 2 ^ 62) ∧ R (Itr i (j - i).toNat) H1
theorem pi_range1 {a : Expr} {ta : TA} {p pos : Pos} (hg : Gl X "range") (hm : X.mg "range" = none) (ha : PA X [a] ta) (hs : starEach [a] X.env = [(false, eval a X.env)] := by rfl) : PI X tg (.Call (.Name "range" p) [a] [] pos) (iRng1 ta) := by
  intro pins s σ H R I h
  refine Call_ (ld_blt I hg hm boot_range (PyProof.Rows.callWith_type1 (thn (ha pos pins s σ H _ I h) fun us s1 ⟨vs, H1, I1, r1, q1⟩ => ?_) hs rfl))
  obtain ⟨j, e, q1, q2, q⟩ := q1
  subst e
  cases r1 with
  | cons r rr =>
    cases rr
    obtain ⟨t, rfl⟩ := r
    exact call_range_1 (range_it I1 (by omega) (by omega) q1 q2 (by simpa using q))
theorem pi_range2 {a b : Expr} {ta : TA} {p pos : Pos} (hg : Gl X "range") (hm : X.mg "range" = none) (ha : PA X [a, b] ta) (hs : starEach [a, b] X.env = [(false, eval a X.env), (false, eval b X.env)] := by rfl) (hs2 : starEach [b] X.env = [(false, eval b X.env)] := by rfl) :
    PI X tg (.Call (.Name "range" p) [a, b] [] pos) (iRng2 ta) := by
  intro pins s σ H R I h
  refine Call_ (ld_blt I hg hm boot_range (PyProof.Rows.callWith_type1 (thn (ha pos pins s σ H _ I h) fun us s1 ⟨vs, H1, I1, r1, q1⟩ => ?_) (by rw [hs, hs2]) (by rw [hs2]; rfl)))
  obtain ⟨i, j, e, ⟨q1, q2, q3, q4⟩, q⟩ := q1
  subst e
  cases r1 with
  | cons r rr =>
    cases rr with
    | cons r' rr =>
      cases rr
      obtain ⟨t, rfl⟩ := r
      obtain ⟨t', rfl⟩ := r'
      exact call_range_2 (range_it I1 q1 q2 q3 q4 q)

/-! ### for -/
/-- W: the invariant by the turn and a measure; N: what the body is to reach -/
def tFor (wi : TI) (g : TG) (tb : TS) : TS := fun D σ H => wi σ H fun J H1 => ∃ W : Nat → Nat → St → Hp → Prop, (∃ m, W 0 m σ H1) ∧ ∀ i m σ H, W i m σ H →
  (J.stop i H ∧ D.nx σ H) ∨ (J.go i H ∧ ∃ N : St → Hp → Prop, (∀ σ' H', N σ' H' → ∃ m', m' < m ∧ W (i + 1) m' σ' H') ∧ ∀ x H', J.yld i H x H' → g x σ H' fun σ2 H2 => tb { D with nx := N, ct := N, bk := D.nx } σ2 H2)
/-- the records at fp as they stand -/
def pinsAt (fp : List Addr) (h : Heap) : List (Addr × Obj) := fp.filterMap fun b => (h.get? b).map fun o => (b, o)
theorem mem_pinsAt {fp : List Addr} {h : Heap} {b : Addr} {o : Obj} (hb : b ∈ fp) (e : h.get? b = some o) : (b, o) ∈ pinsAt fp h := List.mem_filterMap.mpr ⟨b, hb, by rw [e]; rfl⟩
theorem of_pinsAt {fp : List Addr} {h : Heap} {p : Addr × Obj} (hp : p ∈ pinsAt fp h) : p.1 ∈ fp ∧ h.get? p.1 = some p.2 := by
  obtain ⟨b, hb, e⟩ := List.mem_filterMap.mp hp
  cases q : h.get? b with
  | none => rw [q] at e; cases e
  | some o =>
    rw [q] at e
    have e' : (b, o) = p := Option.some.inj e
    subst e'
    exact ⟨hb, q⟩
theorem Inv.pinned {pins : List (Addr × Obj)} {σ : St} {H : Hp} {s : Shared} {fp : List Addr} (I : Inv X pins σ H s) (hf : ∀ b ∈ fp, FpOk X pins H b) (ho : ∀ b ∈ fp, ∃ o, s.heap.get? b = some o ∧ ∀ v, o.data ≠ .cell v) : Inv X (pins ++ pinsAt fp s.heap) σ H s :=
  I.pins_of fun p hp => (List.mem_append.mp hp).elim (fun z => I.pin p (List.mem_append_right _ z)) fun z => by
    obtain ⟨hb, e⟩ := of_pinsAt z
    obtain ⟨f0, f1, f2, _⟩ := hf p.1 hb
    obtain ⟨o, e', d⟩ := ho p.1 hb
    rw [e] at e'; cases e'
    exact ⟨e, f0, f1, f2, d⟩
theorem Inv.unpinned {pins pl : List (Addr × Obj)} {σ : St} {H : Hp} {s : Shared} (I : Inv X (pins ++ pl) σ H s) : Inv X pins σ H s := I.pins_of fun p hp => I.pin p (List.mem_append_right _ (List.mem_append_left _ hp))
theorem ps_for {iter : Expr} {body : List Stmt} {wi : TI} {g : TG} {tb : TS} {pos : Pos} (hp : PassesOwn (model X.prog X.w) X.A X.env X.xe) (hc : X.calm = true) (hi : PI X tg iter wi) (hg : PG X tg g) (hb : PSs X body tb)
    (hs : ∀ x, foldedSetIterable iter X.env x = pure x := by intro _; rfl) : PS X (.For tg iter body [] pos) (tFor wi g tb) := by
  intro pins s σ H D I h
  refine wpAny_For (thn (hi pins s σ H _ I h) fun v s1 h1 => thn h1 fun itv s2 h2 => ?_) hs
  obtain ⟨it, fp, tn, J, H2, e, I2, T, st2, f2, W, ⟨m0, w0⟩, turn⟩ := h2
  subst e
  -- what stays true of the iterator's objects through the loop
  have stat : ∀ {H' : Hp}, (∀ b ∈ fp, H' b = none) → ∀ b ∈ fp, FpOk X pins H' b := fun hn b hb => ⟨hn b hb, (f2 b hb).2⟩
  refine codeAny_forLoop_any (fun n s' => ∃ i σ' H', Inv X pins σ' H' s' ∧ tn i s'.heap ∧ (∀ b ∈ fp, H' b = none) ∧ W i n σ' H') ?_ m0 ⟨0, σ, H2, I2, st2, fun b hb => (f2 b hb).1, w0⟩
  rintro n s3 ⟨i, σ3, H3, I3, st3, fr3, w3⟩
  rcases turn i n σ3 H3 w3 with ⟨stop, qn⟩ | ⟨go, N, hN, step⟩
  · refine wpAny_passesOwn hp (thn (T.done X rfl rfl rfl (.inl hc) i pins s3 σ3 H3 X.xe I3 (stat fr3) st3 stop) fun r s4 ⟨hr, I4⟩ => ?_)
    subst hr
    exact wpAny_execs_nil ⟨σ3, H3, I4, qn⟩
  · refine wpAny_passesOwn hp (thn (T.item X rfl rfl rfl (.inl hc) i pins s3 σ3 H3 X.xe I3 (stat fr3) st3 go) fun r s4 ⟨u, hr, h4⟩ => ?_)
    subst hr
    refine wpAny_passesOwn hp (thn h4 fun _ s5 ⟨x, H5, I5, r5, y5, st5, fr5⟩ => ?_)
    have I5' := I5.pinned (stat fr5) (T.obj _ _ st5)
    refine wpAny_passesOwn hp (thn (hg _ s5 σ3 H5 x u _ I5' r5 (step x H5 y5)) fun _ s6 ⟨σ6, H6, I6, q6⟩ => ?_)
    refine wpAny_passesOwn hp (thn (hb _ s6 σ6 H6 _ I6 q6) fun f s7 q7 => ?_)
    have again : ∀ {σ7 : St} {H7 : Hp}, Inv X (pins ++ pinsAt fp s5.heap) σ7 H7 s7 → N σ7 H7 → ∃ m, m < n ∧ ∃ i σ' H', Inv X pins σ' H' s7 ∧ tn i s7.heap ∧ (∀ b ∈ fp, H' b = none) ∧ W i m σ' H' := fun {σ7 H7} I7 n7 => by
      obtain ⟨m', hm, w7⟩ := hN σ7 H7 n7
      refine ⟨m', hm, i + 1, σ7, H7, I7.unpinned, T.keep _ _ _ st5 fun b hb o e => (I7.pin (b, o) (List.mem_append_right _ (List.mem_append_right _ (mem_pinsAt hb e)))).1, fun b hb => ?_, w7⟩
      obtain ⟨o, e, d⟩ := T.obj _ _ st5 b hb
      exact (I7.pin (b, o) (List.mem_append_right _ (List.mem_append_right _ (mem_pinsAt hb e)))).2.1
    cases f with
    | next => obtain ⟨σ7, H7, I7, n7⟩ := q7; exact again I7 n7
    | cont => obtain ⟨σ7, H7, I7, n7⟩ := q7; exact again I7 n7
    | brk => obtain ⟨σ7, H7, I7, q7⟩ := q7; exact ⟨σ7, H7, I7.unpinned, q7⟩
    | ret v => obtain ⟨x7, σ7, H7, I7, r7, q7⟩ := q7; exact ⟨x7, σ7, H7, I7.unpinned, r7, q7⟩
end

/-! ### the forms one uses -/
theorem for_range {lo : Int} {n : Nat} {g : TG} {tb : TS} {D : Ends} {σ : St} {H : Hp} (Pv : Nat → St → Hp → Prop) (h0 : Pv 0 σ H)
    (hs : ∀ i σ H, i < n → Pv i σ H → g (.int (lo + i)) σ H fun σ2 H2 => tb { D with nx := Pv (i + 1), ct := Pv (i + 1), bk := D.nx } σ2 H2) (hd : ∀ σ H, Pv n σ H → D.nx σ H) :
    ∃ W : Nat → Nat → St → Hp → Prop, (∃ m, W 0 m σ H) ∧ ∀ i m σ H, W i m σ H →
      ((Itr lo n).stop i H ∧ D.nx σ H) ∨ ((Itr lo n).go i H ∧ ∃ N : St → Hp → Prop, (∀ σ' H', N σ' H' → ∃ m', m' < m ∧ W (i + 1) m' σ' H') ∧ ∀ x H', (Itr lo n).yld i H x H' → g x σ H' fun σ2 H2 => tb { D with nx := N, ct := N, bk := D.nx } σ2 H2) := by
  refine ⟨fun i m σ H => m = n - i ∧ i ≤ n ∧ Pv i σ H, ⟨n, by simp, Nat.zero_le _, h0⟩, ?_⟩
  rintro i m σ H ⟨rfl, hi, p⟩
  by_cases hlt : i < n
  · refine .inr ⟨hlt, Pv (i + 1), fun σ' H' p' => ⟨n - (i + 1), by omega, rfl, hlt, p'⟩, fun x H' y => ?_⟩
    obtain ⟨e, y⟩ := y
    subst e y
    exact hs i σ _ hlt p
  · have e : i = n := by omega
    subst e
    exact .inl ⟨Nat.le_refl _, hd σ H p⟩
/-- while, by a word and a measure of the state -/
theorem while_by {c : TT} {tb : TS} {D : Ends} {σ : St} {H : Hp} (Pv : St → Hp → Prop) (μ : St → Hp → Nat) (h0 : Pv σ H)
    (hs : ∀ σ H, Pv σ H → c σ H fun b H1 => if b = true then tb { D with nx := fun σ' H' => Pv σ' H' ∧ μ σ' H' < μ σ H, ct := fun σ' H' => Pv σ' H' ∧ μ σ' H' < μ σ H, bk := D.nx } σ H1 else D.nx σ H1)
    (mono : ∀ σ H Q Q', (∀ b H1, Q b H1 → Q' b H1) → c σ H Q → c σ H Q') : tWhile c tb D σ H := by
  refine ⟨fun m σ H => m = μ σ H ∧ Pv σ H, ⟨_, rfl, h0⟩, ?_⟩
  rintro m σ H ⟨rfl, p⟩
  refine mono σ H _ _ (fun b H1 q => ?_) (hs σ H p)
  cases b with
  | true => exact ⟨_, fun σ' H' ⟨p', l⟩ => ⟨_, l, rfl, p'⟩, q⟩
  | false => exact q
end L2

namespace L2
open PySem PySem.Spec PyProof.Rows

abbrev R2 := V → V → Hp → VK → Prop
/-- a two-place operation on values: f is binaryOp op, inplaceOp op or compareOp op -/
def OpR (X : Cx) (f : Value → Value → Sem Value) (r : R2) : Prop :=
  ∀ (pins : List (Addr × Obj)) (s : Shared) (σ : St) (H : Hp) (x y : V) (v u : Value) (Q : VK), Inv X pins σ H s → RelV x v → RelV y u → r x y H Q →
    wpAny (model X.prog X.w) X.A (f v u) (EP X pins σ Q) X.xe s
/-- a one-place operation -/
def UnR (X : Cx) (f : Value → Sem Value) (r : V → Hp → VK → Prop) : Prop :=
  ∀ (pins : List (Addr × Obj)) (s : Shared) (σ : St) (H : Hp) (x : V) (v : Value) (Q : VK), Inv X pins σ H s → RelV x v → r x H Q →
    wpAny (model X.prog X.w) X.A (f v) (EP X pins σ Q) X.xe s
/-- a call of a value that is known (a builtin, a type) with values -/
def CallR (X : Cx) (f : Value) (r : List V → Hp → VK → Prop) : Prop :=
  ∀ (pins : List (Addr × Obj)) (s : Shared) (σ : St) (H : Hp) (xs : List V) (us : List Value) (Q : VK), Inv X pins σ H s → Vals xs us → r xs H Q →
    wpAny (model X.prog X.w) X.A (call f us) (EP X pins σ Q) X.xe s
/-- a value's truth -/
def TruR (X : Cx) (r : V → Hp → (Bool → Hp → Prop) → Prop) : Prop :=
  ∀ (pins : List (Addr × Obj)) (s : Shared) (σ : St) (H : Hp) (x : V) (v : Value) (Q : Bool → Hp → Prop), Inv X pins σ H s → RelV x v → r x H Q →
    wpAny (model X.prog X.w) X.A (truthy v) (TP X pins σ Q) X.xe s

def tOp (r : R2) (ta tb : TE) : TE := fun σ H Q => ta σ H fun x H1 => tb σ H1 fun y H2 => r x y H2 Q
def tUn (r : V → Hp → VK → Prop) (ta : TE) : TE := fun σ H Q => ta σ H fun x H1 => r x H1 Q
/-- ints in, under C, and a value out -/
def rI (C : Int → Int → Prop) (g : Int → Int → V) : R2 := fun x y H Q => ∃ i j, x = .int i ∧ y = .int j ∧ C i j ∧ Q (g i j) H
def rI0 (g : Int → Int → V) : R2 := fun x y H Q => ∃ i j, x = .int i ∧ y = .int j ∧ Q (g i j) H
def rU (g : Int → V) : V → Hp → VK → Prop := fun x H Q => ∃ i, x = .int i ∧ Q (g i) H

section
variable {X : Cx} {a b c : Expr} {ta tb tc : TE} {pos : Pos}

theorem binT (ha : PE X a ta) (hb : PE X b tb) {pins : List (Addr × Obj)} {s : Shared} {σ : St} {H : Hp} {R : V → V → Hp → Prop} (I : Inv X pins σ H s)
    (h : ta σ H fun x H1 => tb σ H1 fun y H2 => R x y H2) {Q : Value → Shared → Prop} {f : Value → Value → Sem Value}
    (hf : ∀ v u s2 x y H2, Inv X pins σ H2 s2 → RelV x v → RelV y u → R x y H2 → wpAny (model X.prog X.w) X.A (f v u) Q X.xe s2) :
    wpAny (model X.prog X.w) X.A (eval a X.env) (fun v s₁ => wpAny (model X.prog X.w) X.A (eval b X.env) (fun u s₂ => wpAny (model X.prog X.w) X.A (f v u) Q X.xe s₂) X.xe s₁) X.xe s := by
  refine thn (ha pins s σ H _ I h) fun v s1 ⟨x, H1, I1, r1, q1⟩ => ?_
  refine thn (hb pins s1 σ H1 _ I1 q1) fun u s2 ⟨y, H2, I2, r2, q2⟩ => ?_
  exact hf v u s2 x y H2 I2 r1 r2 q2

theorem pe_op {op : Operator} {r : R2} (ho : OpR X (binaryOp op) r) (ha : PE X a ta) (hb : PE X b tb) : PE X (.BinOp a op b pos) (tOp r ta tb) := by
  intro pins s σ H Q I h
  exact wpAny_BinOp (binT ha hb I h fun v u s2 x y H2 I2 rx ry q => ho pins s2 σ H2 x y v u Q I2 rx ry q)
theorem pe_un {op : UnaryOp} {r : V → Hp → VK → Prop} (ho : UnR X (unaryOp op) r) (ha : PE X a ta) : PE X (.UnaryOp op a pos) (tUn r ta) := by
  intro pins s σ H Q I h
  exact UnaryOp_ (thn (ha pins s σ H _ I h) fun v s1 ⟨x, H1, I1, r1, q1⟩ => ho pins s1 σ H1 x v Q I1 r1 q1)
/-! ### ints -/
theorem opI {f : Value → Value → Sem Value} {C : Int → Int → Prop} {g : Int → Int → Int}
    (rule : ∀ (i j : Int) (t u : Tok) (s : Shared) (Q : Value → Shared → Prop) (E : Value → Shared → Prop), C i j → Q (.int (g i j) s.toks) { s with toks := s.toks + 1 } → wpAny (model X.prog X.w) X.A (f (.int i t) (.int j u)) Q E s) :
    OpR X f (rI C fun i j => .int (g i j)) := by
  intro pins s σ H x y v u Q I rx ry h
  obtain ⟨i, j, rfl, rfl, hc, q⟩ := h
  obtain ⟨t, rfl⟩ := rx
  obtain ⟨t', rfl⟩ := ry
  exact rule i j t t' s _ _ hc ⟨.int (g i j), H, I.tok _, ⟨_, rfl⟩, q⟩
theorem opI0 {f : Value → Value → Sem Value} {g : Int → Int → Int}
    (rule : ∀ (i j : Int) (t u : Tok) (s : Shared) (Q : Value → Shared → Prop) (E : Value → Shared → Prop), Q (.int (g i j) s.toks) { s with toks := s.toks + 1 } → wpAny (model X.prog X.w) X.A (f (.int i t) (.int j u)) Q E s) :
    OpR X f (rI0 fun i j => .int (g i j)) := by
  intro pins s σ H x y v u Q I rx ry h
  obtain ⟨i, j, rfl, rfl, q⟩ := h
  obtain ⟨t, rfl⟩ := rx
  obtain ⟨t', rfl⟩ := ry
  exact rule i j t t' s _ _ ⟨.int (g i j), H, I.tok _, ⟨_, rfl⟩, q⟩
theorem opB0 {f : Value → Value → Sem Value} {g : Int → Int → Bool}
    (rule : ∀ (i j : Int) (t u : Tok) (s : Shared) (Q : Value → Shared → Prop) (E : Value → Shared → Prop), Q (.bool (g i j)) s → wpAny (model X.prog X.w) X.A (f (.int i t) (.int j u)) Q E s) :
    OpR X f (rI0 fun i j => .bl (g i j)) := by
  intro pins s σ H x y v u Q I rx ry h
  obtain ⟨i, j, rfl, rfl, q⟩ := h
  obtain ⟨t, rfl⟩ := rx
  obtain ⟨t', rfl⟩ := ry
  exact rule i j t t' s _ _ ⟨.bl (g i j), H, I, rfl, q⟩

def CDiv (i j : Int) : Prop := 0 < j ∧ j < 1073741824
def CDivN (i j : Int) : Prop := j ≠ 0 ∧ j.natAbs < 1073741824
def CPow (i j : Int) : Prop := 0 ≤ j ∧ j ≤ 1000000 ∧ i.natAbs < 2 ^ 64
def CMul (i j : Int) : Prop := (-(2 ^ 64) < i ∧ i < 2 ^ 64) ∨ (-(2 ^ 64) < j ∧ j < 2 ^ 64)
theorem CMul.ok {i j : Int} (h : CMul i j) : IntMulOk i j := by
  rcases h with ⟨h1, h2⟩ | ⟨h1, h2⟩
  · exact .of_left (intBits_le_64 h1 h2)
  · exact .of_right (intBits_le_64 h1 h2)
theorem op_add : OpR X (binaryOp .Add) (rI0 fun i j => .int (i + j)) := opI0 fun _ _ _ _ _ _ _ q => add_int q
theorem op_sub : OpR X (binaryOp .Sub) (rI0 fun i j => .int (i - j)) := opI0 fun _ _ _ _ _ _ _ q => sub_int q
theorem op_mul : OpR X (binaryOp .Mult) (rI CMul fun i j => .int (i * j)) := opI fun _ _ _ _ _ _ _ hc q => mul_int q hc.ok
/-- // by a positive divisor -/
theorem op_fdiv : OpR X (binaryOp .FloorDiv) (rI CDiv fun i j => .int (i / j)) := opI fun i j _ _ _ _ _ hc q => by
  have h1 : (0 : Int) < j := hc.1
  have h2 : j < 1073741824 := hc.2
  exact floordiv_int (by omega) (by rw [Int.fdiv_eq_ediv_of_nonneg i (by omega)]; exact q) (.inl (PyProof.noPylong_small (by omega)))
/-- % by a positive divisor of any size -/
theorem op_mod : OpR X (binaryOp .Mod) (rI (fun _ j => 0 < j) fun i j => .int (i % j)) := opI fun i j _ _ _ _ _ hc q => by
  have h1 : (0 : Int) < j := hc
  exact mod_int' (by omega) (by rw [Int.fmod_eq_emod_of_nonneg i (by omega)]; exact q)
theorem unI {f : Value → Sem Value} {g : Int → Int}
    (rule : ∀ (i : Int) (t : Tok) (s : Shared) (Q : Value → Shared → Prop) (E : Value → Shared → Prop), Q (.int (g i) s.toks) { s with toks := s.toks + 1 } → wpAny (model X.prog X.w) X.A (f (.int i t)) Q E s) :
    UnR X f (rU fun i => .int (g i)) := by
  intro pins s σ H x v Q I rx h
  obtain ⟨i, rfl, q⟩ := h
  obtain ⟨t, rfl⟩ := rx
  exact rule i t s _ _ ⟨.int (g i), H, I.tok _, ⟨_, rfl⟩, q⟩
theorem un_neg : UnR X (unaryOp .USub) (rU fun i => .int (-i)) := unI fun _ _ _ _ _ q => neg_int q
/-! ### bools among ints: n += (a < b) -/
end

/-! ### comparisons -/
/-- the scalars that == tells apart as data does -/
def scal : V → V → Bool
  | .non, .non => true | .non, .int _ => true | .int _, .non => true | .non, .bl _ => true | .bl _, .non => true | .non, .str _ => true | .str _, .non => true
  | .int _, .int _ => true | .bl _, .bl _ => true | .str _, .str _ => true | .byt _, .byt _ => true
  | .int _, .str _ => true | .str _, .int _ => true | .bl _, .str _ => true | .str _, .bl _ => true
  | _, _ => false
def rEq : R2 := fun x y H Q => scal x y = true ∧ Q (.bl (decide (x = y))) H
def rNe : R2 := fun x y H Q => scal x y = true ∧ Q (.bl (!decide (x = y))) H

theorem dec_int {i j : Int} : decide (V.int i = V.int j) = (i == j) := by
  rw [Bool.eq_iff_iff]
  simp
theorem dec_bl {i j : Bool} : decide (V.bl i = V.bl j) = (i == j) := by
  rw [Bool.eq_iff_iff]
  simp
theorem dec_str {i j : Str} : decide (V.str i = V.str j) = (i == j) := by
  rw [Bool.eq_iff_iff]
  simp
theorem dec_byt {i j : Array UInt8} : decide (V.byt i = V.byt j) = (i.toList == j.toList) := by
  rw [Bool.eq_iff_iff]
  cases i
  cases j
  simp

section
variable {X : Cx} {a b c : Expr} {ta tb tc : TE} {pos : Pos}
theorem fin_bl {pins : List (Addr × Obj)} {σ : St} {H : Hp} {s : Shared} {Q : VK} {k k' : Bool} (I : Inv X pins σ H s) (q : Q (.bl k) H) (e : k = k') : EP X pins σ Q (.bool k') s := by
  subst e
  exact ⟨.bl k, H, I, rfl, q⟩
theorem op_eq : OpR X (compareOp .Eq) rEq := by
  intro pins s σ H x y v u Q I rx ry h
  obtain ⟨hs, q⟩ := h
  cases x with
  | non =>
    cases rx
    cases y with
    | non => cases ry; exact PySem.EqNone.eq_none_none (fin_bl I q (by simp))
    | bl j => cases ry; exact PySem.EqNone.eq_none_bool (fin_bl I q (by simp))
    | int j => obtain ⟨t', rfl⟩ := ry; exact PySem.EqNone.eq_none_int (fin_bl I q (by simp))
    | str j => obtain ⟨t', rfl⟩ := ry; exact PySem.EqNone.eq_none_str (fin_bl I q (by simp))
    | _ => exact absurd (show false = true from hs) Bool.false_ne_true
  | bl i =>
    cases rx
    cases y with
    | non => cases ry; exact PySem.EqNone.eq_bool_none (fin_bl I q (by simp))
    | bl j => cases ry; exact eq_bool (fin_bl I q dec_bl)
    | str j => obtain ⟨t', rfl⟩ := ry; exact PySem.EqMixed.eq_bool_str (fin_bl I q (by simp))
    | _ => exact absurd (show false = true from hs) Bool.false_ne_true
  | int i =>
    obtain ⟨t, rfl⟩ := rx
    cases y with
    | non => cases ry; exact PySem.EqNone.eq_int_none (fin_bl I q (by simp))
    | int j => obtain ⟨t', rfl⟩ := ry; exact eq_int (fin_bl I q dec_int)
    | str j => obtain ⟨t', rfl⟩ := ry; exact PySem.EqMixed.eq_int_str (fin_bl I q (by simp))
    | _ => exact absurd (show false = true from hs) Bool.false_ne_true
  | str i =>
    obtain ⟨t, rfl⟩ := rx
    cases y with
    | non => cases ry; exact PySem.EqNone.eq_str_none (fin_bl I q (by simp))
    | bl j => cases ry; exact PySem.EqMixed.eq_str_bool (fin_bl I q (by simp))
    | int j => obtain ⟨t', rfl⟩ := ry; exact PySem.EqMixed.eq_str_int (fin_bl I q (by simp))
    | str j => obtain ⟨t', rfl⟩ := ry; exact eq_str (fin_bl I q dec_str)
    | _ => exact absurd (show false = true from hs) Bool.false_ne_true
  | byt i =>
    obtain ⟨t, rfl⟩ := rx
    cases y with
    | byt j => obtain ⟨t', rfl⟩ := ry; exact PySem.W.eq_bytes (fin_bl I q dec_byt)
    | _ => exact absurd (show false = true from hs) Bool.false_ne_true
  | _ => cases y <;> exact absurd (show false = true from hs) Bool.false_ne_true
theorem op_ne : OpR X (compareOp .NotEq) rNe := by
  intro pins s σ H x y v u Q I rx ry h
  obtain ⟨hs, q⟩ := h
  cases x with
  | non =>
    cases rx
    cases y with
    | non => cases ry; exact PySem.EqNone.ne_none_none (fin_bl I q (by simp))
    | bl j => cases ry; exact PySem.EqNone.ne_none_bool (fin_bl I q (by simp))
    | int j => obtain ⟨t', rfl⟩ := ry; exact PySem.EqNone.ne_none_int (fin_bl I q (by simp))
    | str j => obtain ⟨t', rfl⟩ := ry; exact PySem.EqNone.ne_none_str (fin_bl I q (by simp))
    | _ => exact absurd (show false = true from hs) Bool.false_ne_true
  | bl i =>
    cases rx
    cases y with
    | non => cases ry; exact PySem.EqNone.ne_bool_none (fin_bl I q (by simp))
    | bl j => cases ry; exact ne_bool (fin_bl I q (congrArg not dec_bl))
    | str j => obtain ⟨t', rfl⟩ := ry; exact PySem.EqMixed.ne_bool_str (fin_bl I q (by simp))
    | _ => exact absurd (show false = true from hs) Bool.false_ne_true
  | int i =>
    obtain ⟨t, rfl⟩ := rx
    cases y with
    | non => cases ry; exact PySem.EqNone.ne_int_none (fin_bl I q (by simp))
    | int j => obtain ⟨t', rfl⟩ := ry; exact ne_int (fin_bl I q (congrArg not dec_int))
    | str j => obtain ⟨t', rfl⟩ := ry; exact PySem.EqMixed.ne_int_str (fin_bl I q (by simp))
    | _ => exact absurd (show false = true from hs) Bool.false_ne_true
  | str i =>
    obtain ⟨t, rfl⟩ := rx
    cases y with
    | non => cases ry; exact PySem.EqNone.ne_str_none (fin_bl I q (by simp))
    | bl j => cases ry; exact PySem.EqMixed.ne_str_bool (fin_bl I q (by simp))
    | int j => obtain ⟨t', rfl⟩ := ry; exact PySem.EqMixed.ne_str_int (fin_bl I q (by simp))
    | str j => obtain ⟨t', rfl⟩ := ry; exact ne_str (fin_bl I q (congrArg not dec_str))
    | _ => exact absurd (show false = true from hs) Bool.false_ne_true
  | byt i =>
    obtain ⟨t, rfl⟩ := rx
    cases y with
    | byt j => obtain ⟨t', rfl⟩ := ry; exact PySem.W.ne_bytes (fin_bl I q (congrArg not dec_byt))
    | _ => exact absurd (show false = true from hs) Bool.false_ne_true
  | _ => cases y <;> exact absurd (show false = true from hs) Bool.false_ne_true

theorem op_lt : OpR X (compareOp .Lt) (rI0 fun i j => .bl (decide (i < j))) := opB0 fun _ _ _ _ _ _ _ q => lt_int q
theorem op_le : OpR X (compareOp .LtE) (rI0 fun i j => .bl (decide (i ≤ j))) := opB0 fun _ _ _ _ _ _ _ q => le_int q
theorem op_gt : OpR X (compareOp .Gt) (rI0 fun i j => .bl (decide (j < i))) := opB0 fun _ _ _ _ _ _ _ q => gt_int q
/-- is, is not of two objects that are tracked lists or instances -/
def isObj : HO → Bool
  | .lst _ => true
  | .ins _ _ _ => true
  | _ => false
theorem nomark (b : Expr) {op : CmpOp} (h : op ≠ .In := by decide) (h2 : op ≠ .NotIn := by decide) : behindInMarks op b = false := by
  have e1 : (op == CmpOp.In) = false := by cases op <;> first | rfl | exact absurd rfl h
  have e2 : (op == CmpOp.NotIn) = false := by cases op <;> first | rfl | exact absurd rfl h2
  cases b <;> simp [behindInMarks, e1, e2]
/-- a comparison as a value; hm: nomark b, or (for in, not in) by with_unfolding_all rfl -/
theorem pe_cmpR {op : CmpOp} {r : R2} (ho : OpR X (compareOp op) r) (ha : PE X a ta) (hb : PE X b tb) (hm : behindInMarks op b = false) : PE X (.Compare a [op] [b] pos) (tOp r ta tb) := by
  intro pins s σ H Q I h
  exact wpAny_Compare1 (binT ha hb I h fun v u s2 x y H2 I2 rx ry q => ho pins s2 σ H2 x y v u Q I2 rx ry q) hm
/-- a reading of a value as a test -/
def tTest (t : TE) : TT := fun σ H Q => t σ H fun x H' => ∃ k, x = .bl k ∧ Q k H'
theorem pt_cmpR {op : CmpOp} {r : R2} (ho : OpR X (compareOp op) r) (ha : PE X a ta) (hb : PE X b tb) (hm : behindInMarks op b = false) : PT X (.Compare a [op] [b] pos) (tTest (tOp r ta tb)) := by
  intro pins s σ H Q I h
  refine wpAny_isTrue_Compare1 (thn (ha pins s σ H _ I h) fun v s1 ⟨x, H1, I1, r1, q1⟩ => thn (hb pins s1 σ H1 _ I1 q1) fun u s2 ⟨y, H2, I2, r2, q2⟩ =>
    thn (ho pins s2 σ H2 x y v u _ I2 r1 r2 q2) fun c s3 ⟨z, H3, I3, r3, k, e, q3⟩ => ?_) hm
  subst e
  cases r3
  exact wpAny_truthy_bool ⟨H3, I3, q3⟩
/-- a op1 b op2 c -/
def tChain (r r' : R2) (ta tb tc : TE) : TE := fun σ H Q => ta σ H fun x H1 => tb σ H1 fun y H2 => r x y H2 fun z H3 => ∃ k, z = .bl k ∧
  (if k = true then tc σ H3 fun w' H4 => r' y w' H4 Q else Q (.bl false) H3)
theorem pe_chain {op op' : CmpOp} {r r' : R2} (ho : OpR X (compareOp op) r) (ho' : OpR X (compareOp op') r') (ha : PE X a ta) (hb : PE X b tb) (hc : PE X c tc)
    (hm : lastMarks [op, op'] [b, c] = false := by with_unfolding_all rfl) : PE X (.Compare a [op, op'] [b, c] pos) (tChain r r' ta tb tc) := by
  intro pins s σ H Q I h
  refine Compare_chain (thn (ha pins s σ H _ I h) fun v s1 ⟨x, H1, I1, r1, q1⟩ => chain_link (thn (hb pins s1 σ H1 _ I1 q1) fun u s2 ⟨y, H2, I2, r2, q2⟩ =>
    thn (ho pins s2 σ H2 x y v u _ I2 r1 r2 q2) fun d s3 ⟨z, H3, I3, r3, k, e, q3⟩ => ?_)) hm
  subst e
  cases r3
  refine wpAny_truthy_bool ?_
  cases k with
  | false => exact ite_ff ⟨.bl false, H3, I3, rfl, q3⟩
  | true => exact ite_tt (chain_last (thn (hc pins s3 σ H3 _ I3 q3) fun w' s4 ⟨z', H4, I4, r4, q4⟩ => ho' pins s4 σ H4 y z' u w' Q I4 r2 r4 q4))
/-! ### truth -/
/-- a value's truth by the abstract heap -/
def TruV (K : PySem.W.Frag) (x : V) (H : Hp) (k : Bool) : Prop :=
  match x with
  | .non => k = false
  | .bl b => k = b
  | .int i => k = (i != 0)
  | .str y => y.length ≤ sizeLine ∧ k = ((y.length : Int) != 0)
  | .byt y => y.size ≤ sizeLine ∧ k = ((y.size : Int) != 0)
  | .ref p => (∃ xs, SqL K H p xs ∧ k = !xs.isEmpty) ∨ (∃ xs, SqT K H p xs ∧ k = !xs.isEmpty) ∨ ∃ kvs, H p = some (.dK kvs) ∧ k = !kvs.isEmpty
  | _ => False
theorem line63 : (sizeLine : Nat) < 2 ^ 63 := by rw [sizeLine_eq]; decide
/-! ### strs and bytes -/
theorem op_add_str : OpR X (binaryOp .Add) (fun x y H Q => ∃ i j, x = .str i ∧ y = .str j ∧ i.length + j.length ≤ sizeLine ∧ Q (.str (i ++ j)) H) := by
  intro pins s σ H x y v u Q I rx ry h
  obtain ⟨i, j, rfl, rfl, hz, q⟩ := h
  obtain ⟨t, rfl⟩ := rx
  obtain ⟨t', rfl⟩ := ry
  exact add_str (fun t' tk => ⟨.str (i ++ j), H, I.tok _, ⟨_, rfl⟩, q⟩) hz
def PlainIxT (b : Expr) : Prop := ∀ o i, subscripted b false o i = operate [o, i] (getItem o i)
/-! ### scalar builtins, by CallR -/
theorem vals1 {x : V} {us : List Value} (r : Vals [x] us) : ∃ u, us = [u] ∧ RelV x u := by
  cases r with
  | cons r1 r2 => cases r2; exact ⟨_, rfl, r1⟩
theorem vals2 {x y : V} {us : List Value} (r : Vals [x, y] us) : ∃ u w', us = [u, w'] ∧ RelV x u ∧ RelV y w' := by
  cases r with
  | cons r1 r2 =>
    cases r2 with
    | cons r3 r4 => cases r4; exact ⟨_, _, rfl, r1, r3⟩
theorem call_max2 (hc : X.calm = true) : CallR X (.builtin "max") (fun xs H Q => ∃ i j, xs = [.int i, .int j] ∧ Q (.int (if j > i then j else i)) H) := by
  intro pins s σ H xs us Q I r h
  obtain ⟨i, j, rfl, q⟩ := h
  obtain ⟨u, w', rfl, ⟨t, rfl⟩, ⟨t', rfl⟩⟩ := vals2 r
  refine max_two_ints (I.ok.hd hc) fun h' tk k => ⟨_, H, I.kept k, ?_, q⟩
  by_cases hj : j > i
  · rw [if_pos hj, if_pos hj]; exact ⟨_, rfl⟩
  · rw [if_neg hj, if_neg hj]; exact ⟨_, rfl⟩
theorem call_int1 : CallR X (.type "int") (fun xs H Q => (∃ i, xs = [.int i] ∧ Q (.int i) H) ∨ ∃ k, xs = [.bl k] ∧ Q (.int (if k then 1 else 0)) H) := by
  intro pins s σ H xs us Q I r h
  rcases h with ⟨i, rfl, q⟩ | ⟨k, rfl, q⟩
  · obtain ⟨u, rfl, t, rfl⟩ := vals1 r
    exact call_int_int ⟨.int i, H, I, ⟨_, rfl⟩, q⟩
  · obtain ⟨u, rfl, r1⟩ := vals1 r
    cases r1
    exact call_int_bool ⟨.int (if k then 1 else 0), H, I.tok _, ⟨_, rfl⟩, q⟩
theorem call_str_int : CallR X (.type "str") (fun xs H Q => ∃ i, xs = [.int i] ∧ i.natAbs.log2 < 1920 ∧ Q (.str (toString i)) H) := by
  intro pins s σ H xs us Q I r h
  obtain ⟨i, rfl, hz, q⟩ := h
  obtain ⟨u, rfl, t, rfl⟩ := vals1 r
  exact PySem.P.str_of_int hz ⟨.str _, H, I.tok _, ⟨_, rfl⟩, q⟩
theorem call_ord : CallR X (.builtin "ord") (fun xs H Q => ∃ x, xs = [.str x] ∧ x.length = 1 ∧ Q (.int (x.cps.getD 0 0 : Nat)) H) := by
  intro pins s σ H xs us Q I r h
  obtain ⟨x, rfl, hz, q⟩ := h
  obtain ⟨u, rfl, t, rfl⟩ := vals1 r
  exact ord_of_one hz ⟨.int _, H, I.tok _, ⟨_, rfl⟩, q⟩
/-- len of a str, a bytes, a list, a tuple -/
def LenV (K : PySem.W.Frag) (x : V) (H : Hp) (n : Nat) : Prop :=
  match x with
  | .str y => y.length ≤ sizeLine ∧ n = y.length
  | .byt y => y.size ≤ sizeLine ∧ n = y.size
  | .ref p => (∃ xs, SqL K H p xs ∧ n = xs.length) ∨ ∃ xs, SqT K H p xs ∧ n = xs.length
  | _ => False
end
end L2

namespace L2
open PySem PySem.Spec PyProof.Rows

/-! ### an instance, its attributes a map -/
structure ObjM (h : Heap) (x dx C : Addr) (mA : Str → Option Value) : Prop where
  obj : h.get? x = some (PySem.W.instObj C dx)
  ns : h.Ns1 dx mA
  ne : dx ≠ x

theorem lookIn_ns {h : Heap} {dx : Addr} {mA : Str → Option Value} (n : h.Ns1 dx mA) : ∃ od, h.get? dx = some od ∧ ∀ name, PySem.W.lookIn name od = some (mA name) := by
  obtain ⟨o, es, ep, ho, hd, hk, _, hm⟩ := n
  refine ⟨o, ho, fun name => ?_⟩
  have e := hm name
  unfold nsFind findBy at e
  rw [← Array.find?_toList] at e
  unfold PySem.W.lookIn
  rw [hd]
  dsimp only
  split
  · rename_i y q
    rw [q] at e
    exact congrArg some e
  · rename_i q
    rw [q] at e
    have a : es.toList.any (·.refKey) = false := by
      rw [List.any_eq_false]
      intro y hy
      obtain ⟨z, t, hkey⟩ := hk y (Array.mem_toList_iff.mp hy)
      simp [DictEntry.refKey, hkey]
    have a' : ¬ es.toList.any (·.refKey) = true := by rw [a]; exact Bool.false_ne_true
    rw [if_neg a']
    exact congrArg some e

theorem ObjM.look {h : Heap} {x dx C : Addr} {mA : Str → Option Value} (I : ObjM h x dx C mA) : ∃ od, PySem.W.InstAt h x (PySem.W.instObj C dx) C (some od) ∧ ∀ name, PySem.W.lookIn name od = some (mA name) :=
  let ⟨od, ho, hl⟩ := lookIn_ns I.ns
  ⟨od, ⟨I.obj, rfl, rfl, ho⟩, hl⟩

section
variable {prog : Program} {w : World} {A : Around} {E : Value → Shared → Prop} {s : Shared} {K : PySem.W.Frag} {x dx C f : Addr} {mA : Str → Option Value} {name : Str} {v : Value}

theorem get_map {expr : Bool} {Q : Value → Shared → Prop} (X : K.In s.heap) (I : ObjM s.heap x dx C mA) (hg : PySem.W.plainGet K C name = true) (hh : PySem.W.hasDictIn K C = true)
    (ha : PySem.W.findIn K (.ref C) name = some none) (hv : mA name = some v) (hv' : PySem.W.handedIn v = true) (h : Q v { s with toks := s.toks + 1 }) :
    wpAny (model prog w) A (getAttr (.ref x) name expr) Q E s := by
  obtain ⟨od, J, hl⟩ := I.look
  exact PySem.W.get_value X J (PySem.W.plainGet_of hg).1 (PySem.W.findObj_own hh ha rfl (by rw [hl, hv])) hv' h

theorem get_meth {pl : Sem Bool} {Q : Value × List Value → Shared → Prop} (X : K.In s.heap) (I : ObjM s.heap x dx C mA) (hg : PySem.W.plainGet K C name = true)
    (hf : PySem.W.findIn K (.ref C) name = some (some (.ref f))) (ht : PySem.W.isFn K (.ref f) = true) (hv : mA name = none) (h : Q (.ref f, [.ref x]) s) :
    wpAny (model prog w) A (getMethod (.ref x) name pl) Q E s := by
  obtain ⟨od, J, hl⟩ := I.look
  exact PySem.W.method_fn X J (PySem.W.plainGet_of hg).1 (PySem.W.plainGet_of hg).2 hf (beq_iff_eq.mp ht) (by show (PySem.W.lookIn name od).map (·.isSome) = some false; rw [hl, hv]; rfl) h

theorem set_map {ns : List Str} {Q : Unit → Shared → Prop} (X : K.In s.heap) (I : ObjM s.heap x dx C mA)
    (hs : PySem.W.findIn K (.ref C) "__setattr__" = some (some (.builtin "object.__setattr__"))) (hp : PySem.W.plainOver K C = true) (ht : PySem.W.takerIn K C name = some none) (hh : PySem.W.hasDictIn K C = true)
    (hw : PySem.Within mA ns) (hsz : ns.length ≤ sizeLine)
    (h : ∀ h', ObjM h' x dx C (fun y => if y = name then some v else mA y) → Heap.SameBut dx s.heap h' → Q () { s with heap := h', toks := s.toks + 2 }) :
    wpAny (model prog w) A (setAttr (.ref x) name v) Q E s := by
  obtain ⟨od, J, hl⟩ := I.look
  refine PySem.W.set_plain X J hs (PySem.W.osa_open (s := { s with toks := s.toks + 1 }) (r := none) X J hp ht fun b => ?_)
  obtain ⟨cd, hc, hd'⟩ := PySem.W.any_some hh
  have hx : s.heap.get? x = some ⟨.ref C, some dx, .plain, #[]⟩ := I.obj
  refine wpAny_bind (wpAny_pure (wpAny_bind (wpAny_bind (wpAny_loadPart hx (wpAny_bind (PySem.W.Looks.here (s := { s with toks := s.toks + 1 }) (PySem.W.looks_clsIn X hc) ?_))))))
  rw [hd']
  refine wpAny_pure (a := some dx) (wpAny_bind (wpAny_pure (wpAny_bind ?_)))
  refine wpAny_nsSet1 (s := { s with toks := s.toks + 1 }) I.ns fun h' hn2 hs2 => ?_
  obtain ⟨oD, esD, epD, hoD, hdD, hcD⟩ := hn2.count (PySem.Within.cons name v hw)
  refine wpAny_bind (wpAny_lookBehind hoD (by rw [hdD]; exact pastItsLine_dict (Nat.le_trans hcD (by rw [List.length_cons]; omega))) ?_)
  exact wpAny_pure (h _ ⟨(hs2.2 _ (Ne.symm I.ne)).trans I.obj, hn2, I.ne⟩ hs2)

/-- C(..): the dict at the heap's end, the instance behind it; then its __init__ -/
theorem make_map {R : Result → Shared → Prop} {vs : List Value} {kw : List (Str × Value)} (X : K.In s.heap) (hm : PySem.W.makesIn K C = true)
    (hi : PySem.W.findIn K (.ref C) "__init__" = some (some (.ref f))) (hf : PySem.W.typeIn K (.ref f) = some (.type "function"))
    (h : codeAny (model prog w) (A.under (.builtin "type.__call__" ⟨.ref C :: vs, kw⟩)) (.call (.ref f) ⟨.ref (s.heap.objs.size + 1) :: vs, kw⟩) (PySem.W.InitBack (s.heap.objs.size + 1) R)
      { s with heap := (s.heap.push PySem.W.emptyDict).push (PySem.W.instObj C s.heap.objs.size) }) :
    codeAny (model prog w) A (.call (.ref C) ⟨vs, kw⟩) R s := by
  obtain ⟨hh, g, d, t, os⟩ := s
  exact PySem.W.make_core (PySem.W.makes_of X hm) (PySem.W.looks_findIn X hi) (fun self => PySem.W.bind_fn X self hf) (.inl rfl) h
/-- C() where there is no __init__ but object's -/
theorem make_map0 {R : Result → Shared → Prop} (X : K.In s.heap) (hm : PySem.W.makesIn K C = true)
    (hi : PySem.W.findIn K (.ref C) "__init__" = some (some (.builtin "object.__init__")))
    (hb : ∀ self, PySem.W.Looks (model prog w) s.heap (bindSpecial (.builtin "object.__init__") self) (.builtin "object.__init__", [self]))
    (h : codeAny (model prog w) (A.under (.builtin "type.__call__" ⟨[.ref C], []⟩)) (.call (.builtin "object.__init__") ⟨[.ref (s.heap.objs.size + 1)], []⟩) (PySem.W.InitBack (s.heap.objs.size + 1) R)
      { s with heap := (s.heap.push PySem.W.emptyDict).push (PySem.W.instObj C s.heap.objs.size) }) :
    codeAny (model prog w) A (.call (.ref C) ⟨[], []⟩) R s := by
  obtain ⟨hh, g, d, t, os⟩ := s
  exact PySem.W.make_core (PySem.W.makes_of X hm) (PySem.W.looks_findIn X hi) hb (.inr ⟨rfl, rfl⟩) h
end

/-! ### the attributes as a list of pairs -/
def putF (f : Str) (v : V) : List (Str × V) → List (Str × V)
  | [] => [(f, v)]
  | (g, x) :: r => if g = f then (g, v) :: r else (g, x) :: putF f v r
theorem lookup_putF (f g : Str) (v : V) : ∀ fs : List (Str × V), (putF f v fs).lookup g = if g = f then some v else fs.lookup g
  | [] => by
    show List.lookup g [(f, v)] = _
    by_cases h : g = f
    · have hb : (g == f) = true := beq_iff_eq.mpr h
      simp only [List.lookup, hb, if_pos h]
    · have hb : (g == f) = false := beq_eq_false_iff_ne.mpr h
      simp only [List.lookup, hb, if_neg h]
  | (k, x) :: r => by
    have ih := lookup_putF f g v r
    rw [show putF f v ((k, x) :: r) = (if k = f then (k, v) :: r else (k, x) :: putF f v r) from rfl]
    by_cases hk : k = f
    · rw [if_pos hk]
      by_cases h : g = k
      · have hb : (g == k) = true := beq_iff_eq.mpr h
        simp only [List.lookup, hb, if_pos (h.trans hk)]
      · have hb : (g == k) = false := beq_eq_false_iff_ne.mpr h
        simp only [List.lookup, hb, if_neg (fun e : g = f => h (e.trans hk.symm))]
    · rw [if_neg hk]
      by_cases h : g = k
      · have hb : (g == k) = true := beq_iff_eq.mpr h
        simp only [List.lookup, hb, if_neg (fun e : g = f => hk (h.symm.trans e))]
      · have hb : (g == k) = false := beq_eq_false_iff_ne.mpr h
        simp only [List.lookup, hb]
        exact ih
theorem keys_putF (f : Str) (v : V) : ∀ fs : List (Str × V), f ∈ (putF f v fs).map (·.1) ∧ ∀ g, g ∈ fs.map (·.1) → g ∈ (putF f v fs).map (·.1)
  | [] => ⟨by simp [putF], fun g h => by simp at h⟩
  | (k, x) :: r => by
    obtain ⟨i1, i2⟩ := keys_putF f v r
    rw [show putF f v ((k, x) :: r) = (if k = f then (k, v) :: r else (k, x) :: putF f v r) from rfl]
    by_cases hk : k = f
    · rw [if_pos hk]
      subst hk
      exact ⟨by simp, fun g h => by simpa using h⟩
    · rw [if_neg hk]
      refine ⟨?_, fun g h => ?_⟩
      · rw [List.map_cons]
        exact List.mem_cons_of_mem _ i1
      · rw [List.map_cons] at h ⊢
        rcases List.mem_cons.mp h with e | e
        · exact List.mem_cons.mpr (.inl e)
        · exact List.mem_cons_of_mem _ (i2 g e)
theorem length_putF (f : Str) (v : V) : ∀ fs : List (Str × V), (putF f v fs).length ≤ fs.length + 1
  | [] => by simp [putF]
  | (k, x) :: r => by
    have ih := length_putF f v r
    rw [show putF f v ((k, x) :: r) = (if k = f then (k, v) :: r else (k, x) :: putF f v r) from rfl]
    by_cases hk : k = f
    · rw [if_pos hk, List.length_cons, List.length_cons]; omega
    · rw [if_neg hk, List.length_cons, List.length_cons]; omega

theorem RelO.some_of {v : V} {o : Option Value} (r : RelO (some v) o) : ∃ u, o = some u ∧ RelV v u := by
  cases o with
  | none => exact (show False from r).elim
  | some u => exact ⟨u, rfl, r⟩
theorem RelO.none_of {o : Option Value} (r : RelO none o) : o = none := by
  cases o with
  | none => rfl
  | some u => exact (show False from r).elim
theorem handed_of {v : V} {u : Value} (r : RelV v u) : PySem.W.handedIn u = true := by
  cases v with
  | non => cases (show u = Value.none from r); rfl
  | bl b => cases (show u = Value.bool b from r); rfl
  | int i => obtain ⟨t, e⟩ := (show ∃ t, u = Value.int i t from r); cases e; rfl
  | str x => obtain ⟨t, e⟩ := (show ∃ t, u = Value.str x t from r); cases e; rfl
  | byt b => obtain ⟨t, e⟩ := (show ∃ t, u = Value.bytes b t from r); cases e; rfl
  | flt b => obtain ⟨t, e⟩ := (show ∃ t, u = Value.float b t from r); cases e; rfl
  | ref a => cases (show u = Value.ref a from r); rfl
  | ty n => cases (show u = Value.type n from r); rfl

section
variable {P : Program} {w : World} {H H' : Hp} {h h' : Heap} {a C dx : Addr} {fs fs' : List (Str × V)}
theorem ins_get (hok : HOk P w H h) (e : H a = some (.ins C dx fs)) : ∃ mA, ObjM h a dx C mA ∧ (∀ f, RelO (fs.lookup f) (mA f)) ∧ PySem.Within mA (fs.map (·.1)) ∧ fs.length ≤ 1000 ∧ H dx = some (.own a) := by
  obtain ⟨d, z, ne, ob, mA, n, r, q⟩ := (show ObjOk P w H h a (.ins C dx fs) from hok a _ e)
  exact ⟨mA, ⟨ob, n, ne⟩, r, q, z, d⟩
end

/-! ### what of the text a class must have -/
structure Cls (K : PySem.W.Frag) (C : Addr) : Prop where
  pg : PySem.W.plainGet K C Str.empty = true
  hd : PySem.W.hasDictIn K C = true
  po : PySem.W.plainOver K C = true
  sa : PySem.W.findIn K (.ref C) "__setattr__" = some (some (.builtin "object.__setattr__"))
theorem Cls.get {K : PySem.W.Frag} {C : Addr} (c : Cls K C) (f : Str) : PySem.W.plainGet K C f = true := c.pg
/-- no class of it has the name -/
def NoAttr (K : PySem.W.Frag) (C : Addr) (f : Str) : Prop := PySem.W.findIn K (.ref C) f = some none
theorem NoAttr.taker {K : PySem.W.Frag} {C : Addr} {f : Str} (n : NoAttr K C f) : PySem.W.takerIn K C f = some none := by
  unfold PySem.W.takerIn
  rw [show PySem.W.findIn K (.ref C) f = some none from n]
  rfl
/-- a constant of the class -/
structure Con (K : PySem.W.Frag) (C : Addr) (f : Str) (v : V) (u : Value) : Prop where
  at_ : PySem.W.findIn K (.ref C) f = some (some u)
  rel : RelV v u
  get : PySem.W.specialIn K u "__get__" = some none
  cp : PySem.W.copiedNames.contains f = false
/-- a method: a plain def of the class or of one above it -/
structure Meth (K : PySem.W.Frag) (C : Addr) (m : Str) (f : Addr) : Prop where
  at_ : PySem.W.findIn K (.ref C) m = some (some (.ref f))
  fn : PySem.W.isFn K (.ref f) = true
  kp : PySem.W.keepIn K (.ref f) = true

section
variable {X : Cx} {pins : List (Addr × Obj)} {σ : St} {H : Hp} {s : Shared} {a C dx : Addr} {fs : List (Str × V)} {f : Str} {v : V} {A : Around} {E : Value → Shared → Prop}

theorem getattr_ok {b : Bool} {Q : Value → Shared → Prop} (I : Inv X pins σ H s) (e : H a = some (.ins C dx fs)) (c : Cls X.K C) (n : NoAttr X.K C f) (l : fs.lookup f = some v)
    (h : ∀ u s', Inv X pins σ H s' → RelV v u → Q u s') : wpAny (model X.prog X.w) A (getAttr (.ref a) f b) Q E s := by
  obtain ⟨mA, O, r, _, _, _⟩ := ins_get I.hok e
  obtain ⟨u, hu, ru⟩ := RelO.some_of (v := v) (o := mA f) (by rw [← l]; exact r f)
  exact get_map I.kIn O (c.get f) c.hd n hu (handed_of ru) (h u _ (I.tok _) ru)

theorem getmeth_ok {m : Str} {g : Addr} {pl : Sem Bool} {Q : Value × List Value → Shared → Prop} (I : Inv X pins σ H s) (e : H a = some (.ins C dx fs)) (c : Cls X.K C) (k : Meth X.K C m g) (l : fs.lookup m = none)
    (h : Q (.ref g, [.ref a]) s) : wpAny (model X.prog X.w) A (getMethod (.ref a) m pl) Q E s := by
  obtain ⟨mA, O, r, _, _, _⟩ := ins_get I.hok e
  have hn : mA m = none := RelO.none_of (by rw [← l]; exact r m)
  exact get_meth I.kIn O (c.get m) k.at_ k.fn hn h

theorem setattr_ok {y : V} {u : Value} {Q : Unit → Shared → Prop} (I : Inv X pins σ H s) (e : H a = some (.ins C dx fs)) (c : Cls X.K C) (n : NoAttr X.K C f) (hl : fs.length < 1000) (ry : RelV y u)
    (h : ∀ s', Inv X pins σ (upd H a (.ins C dx (putF f y fs))) s' → Q () s') : wpAny (model X.prog X.w) A (setAttr (.ref a) f u) Q E s := by
  obtain ⟨mA, O, r, wi, _, ho⟩ := ins_get I.hok e
  have hz : (fs.map (·.1)).length ≤ sizeLine := by rw [List.length_map, sizeLine_eq]; omega
  refine set_map I.kIn O c.sa c.po n.taker c.hd wi hz fun h' O' sb => h _ ?_
  have hd : ∃ o, h'.get? dx = some o := let ⟨o, _, _, e', _⟩ := O'.ns; ⟨o, e'⟩
  refine I.write (x := a) (e := dx) (by rw [e]; exact True.intro) (.inr ho) (fun b q hb z => (sb.2 b hb).trans z) hd ?_
  refine ⟨by rw [upd_ne O.ne]; exact ho, ?_, O.ne, O'.obj, _, O'.ns, fun g => ?_, fun g hg => ?_⟩
  · have := length_putF f y fs; omega
  · show RelO ((putF f y fs).lookup g) (if g = f then some u else mA g)
    rw [lookup_putF]
    by_cases q : g = f
    · rw [if_pos q, if_pos q]; exact ry
    · rw [if_neg q, if_neg q]; exact r g
  · by_cases q : g = f
    · rw [q]; exact (keys_putF f y fs).1
    · refine (keys_putF f y fs).2 g (wi g fun z => hg ?_)
      show (if g = f then some u else mA g) = none
      rw [if_neg q]; exact z

/-- a new instance, tracked, without attributes -/
theorem Inv.made (I : Inv X pins σ H s) : Inv X pins σ (upd (upd H s.heap.objs.size (.own (s.heap.objs.size + 1))) (s.heap.objs.size + 1) (.ins C s.heap.objs.size []))
    { s with heap := (s.heap.push PySem.W.emptyDict).push (PySem.W.instObj C s.heap.objs.size) } := by
  have e1 : (s.heap.push PySem.W.emptyDict).get? s.heap.objs.size = some PySem.W.emptyDict := Heap.get?_push_size s.heap rfl
  have e2 : ((s.heap.push PySem.W.emptyDict).push (PySem.W.instObj C s.heap.objs.size)).get? (s.heap.objs.size + 1) = some (PySem.W.instObj C s.heap.objs.size) := by
    have := Heap.get?_push_size (s.heap.push PySem.W.emptyDict) (o := PySem.W.instObj C s.heap.objs.size) rfl
    rwa [Heap.size_push] at this
  have e3 : (s.heap.push PySem.W.emptyDict).Ns s.heap.objs.size (fun _ => none) := ⟨PySem.W.emptyDict, #[], _, e1, rfl, (fun e he => absurd he (by simp)), fun _ => rfl⟩
  have I1 := I.laid (a := s.heap.objs.size) (o := .own (s.heap.objs.size + 1)) (h' := s.heap.push PySem.W.emptyDict) (t' := s.toks) (fun b u q => Heap.get?_push_of_some _ q) (Nat.le_refl _) ⟨_, e1⟩
  refine I1.laid (a := s.heap.objs.size + 1) (o := .ins C s.heap.objs.size []) (t' := s.toks) (fun b u q => Heap.get?_push_of_some _ q) (Nat.le_of_eq (Heap.size_push _ _)) ?_
  have ne : s.heap.objs.size ≠ s.heap.objs.size + 1 := Nat.ne_of_lt (Nat.lt_succ_self _)
  refine ⟨by rw [upd_ne ne, upd_same], Nat.zero_le _, ne, e2, fun _ => none, (Heap.Ns1.of_empty e3).at fun o q => Heap.get?_push_of_some _ q, fun _ => True.intro, fun y hy => absurd rfl hy⟩

/-- e.f where nothing but the object is asked: through attributeBase (super) and the last hold -/
theorem attr_of {prog : Program} {w : World} {env : Env} {e : Expr} {f : Str} {pos : Pos} {s : Shared} {Q : Value → Shared → Prop} (hb : attributeBase e f env (eval e env) = eval e env)
    (h : wpAny (model prog w) A (eval e env) (fun o s₁ => wpAny (model prog w) A (getAttr o f true) Q E s₁) E s) : wpAny (model prog w) A (eval (.Attribute e f pos) env) Q E s :=
  Attribute_any_ h (by rw [arm_eval_Attribute, hb])
end

/-! ### readings and rules -/
/-- e.f, an attribute of the instance -/
def tFld (K : PySem.W.Frag) (ta : TE) (f : Str) : TE := fun σ H Q => ta σ H fun x H1 => ∃ a C dx fs v, x = .ref a ∧ H1 a = some (.ins C dx fs) ∧ Cls K C ∧ NoAttr K C f ∧ fs.lookup f = some v ∧ Q v H1
/-- e.f, a constant of the class -/
def tCon (K : PySem.W.Frag) (ta : TE) (f : Str) : TE := fun σ H Q => ta σ H fun x H1 => ∃ a C dx fs v u, x = .ref a ∧ H1 a = some (.ins C dx fs) ∧ Cls K C ∧ Con K C f v u ∧ fs.lookup f = none ∧ Q v H1
/-- e.f = value -/
def sFld (K : PySem.W.Frag) (ta tv : TE) (f : Str) : TS := fun D σ H => tv σ H fun y H1 => ta σ H1 fun x H2 => ∃ a C dx fs, x = .ref a ∧ H2 a = some (.ins C dx fs) ∧ Cls K C ∧ NoAttr K C f ∧ fs.length < 1000 ∧
  D.nx σ (upd H2 a (.ins C dx (putF f y fs)))
/-- an augmented operator on two values -/
def InOp (X : Cx) (op : Operator) (rd : V → V → Hp → VK → Prop) : Prop :=
  ∀ (pins : List (Addr × Obj)) (s : Shared) (σ : St) (H : Hp) (x y : V) (u v : Value) (Q : VK), Inv X pins σ H s → RelV x u → RelV y v → rd x y H Q → wpAny (model X.prog X.w) X.A (inplaceOp op u v) (EP X pins σ Q) X.xe s
/-- e.f op= value -/
def sFldAug (K : PySem.W.Frag) (ta tv : TE) (rd : V → V → Hp → VK → Prop) (f : Str) : TS := fun D σ H => ta σ H fun x H1 => ∃ a C dx fs v, x = .ref a ∧ H1 a = some (.ins C dx fs) ∧ Cls K C ∧ NoAttr K C f ∧ fs.lookup f = some v ∧
  tv σ H1 fun y H2 => rd v y H2 fun z H3 => ∃ dx' fs', H3 a = some (.ins C dx' fs') ∧ fs'.length < 1000 ∧ D.nx σ (upd H3 a (.ins C dx' (putF f z fs')))

section
variable {X : Cx} {o e value : Expr} {f : Str} {pos pos' tpos : Pos} {ta tv : TE}
theorem pe_fld (he : PE X e ta) (hb : attributeBase e f X.env (eval e X.env) = eval e X.env) : PE X (.Attribute e f pos) (tFld X.K ta f) := by
  intro pins s σ H Q I h
  refine attr_of hb (thn (he pins s σ H _ I h) fun u s1 ⟨x, H1, I1, rx, a, C, dx, fs, v, ex, ea, c, n, l, q⟩ => ?_)
  subst ex
  obtain rfl : u = Value.ref a := rx
  exact getattr_ok I1 ea c n l fun u' s2 I2 ru => ⟨v, H1, I2, ru, q⟩
theorem ps_fld (ha : PE X o ta) (hv : PE X value tv) (hs : swapsWith value (some (.Attribute o f pos')) pos.line X.env = pure false) : PS X (.Assign [.Attribute o f pos'] value pos) (sFld X.K ta tv f) := by
  intro pins s σ H D I h
  refine plainObj_wpAny_Assign_Attribute (thn (hv pins s σ H _ I h) fun u s1 ⟨y, H1, I1, ry, q⟩ => thn (ha pins s1 σ H1 _ I1 q) fun ov s2 ⟨x, H2, I2, rx, a, C, dx, fs, ex, ea, c, n, l, q2⟩ => ?_) hs
  subst ex
  obtain rfl : ov = Value.ref a := rx
  exact setattr_ok I2 ea c n l ry fun s3 I3 => ⟨σ, _, I3, q2⟩
def rAdd : V → V → Hp → VK → Prop := fun x y H Q => ∃ i j, x = .int i ∧ y = .int j ∧ Q (.int (i + j)) H
def rSub : V → V → Hp → VK → Prop := fun x y H Q => ∃ i j, x = .int i ∧ y = .int j ∧ Q (.int (i - j)) H
end

/-! ### isinstance -/
section
variable {X : Cx} {pins : List (Addr × Obj)} {σ : St} {H : Hp} {s : Shared} {A : Around} {E : Value → Shared → Prop} {Q : Value → Shared → Prop} {c : Value} {b : Bool}
/-- the type of a value, as the fragment's deciders take it; for an instance its class -/
inductive TyOf (K : PySem.W.Frag) (H : Hp) : V → Value → Prop where
  | non : TyOf K H .non (.type "NoneType")
  | bl (x : Bool) : TyOf K H (.bl x) (.type "bool")
  | int (i : Int) : TyOf K H (.int i) (.type "int")
  | str (x : Str) : TyOf K H (.str x) (.type "str")
  | flt (x : UInt64) : TyOf K H (.flt x) (.type "float")
  | lst {a : Addr} {xs : List V} (e : H a = some (.lst xs)) : TyOf K H (.ref a) (.type "list")
  | frz {a : Addr} {o : Obj} {xs : List V} (e : H a = some (.frz o (.lst xs))) : TyOf K H (.ref a) (.type "list")
  | tup {a : Addr} {xs : List V} (e : H a = some (.tup xs)) : TyOf K H (.ref a) (.type "tuple")
  | dK {a : Addr} {kvs : List (Key × V)} (e : H a = some (.dK kvs)) : TyOf K H (.ref a) (.type "dict")
  | dT {a : Addr} {kvs : List (List Key × V)} (e : H a = some (.dT kvs)) : TyOf K H (.ref a) (.type "dict")
  | ins {a C dx : Addr} {fs : List (Str × V)} (e : H a = some (.ins C dx fs)) (cl : Cls K C) (ha : PySem.W.findIn K (.ref C) "__class__" = some (some (.builtin "object.__class__")))
      (hn : PySem.W.specialIn K (.builtin "object.__class__") "__get__" = some (some (.builtin "getset_descriptor.__get__"))) (htk : PySem.W.takesIn K (.builtin "object.__class__") = some true)
      (hm : PySem.W.mroIn K C (.type "object") = some true) : TyOf K H (.ref a) (.ref C)
/-- isinstance(x, c) for one class c, a built-in or an own one: kitOne's answer -/
theorem isinst_ok {x : V} {u t : Value} (I : Inv X pins σ H s) (rx : RelV x u) (ty : TyOf X.K H x t) (e : PySem.W.kitOne X.K t c = some b) (h : ∀ tk, Q (.bool b) { s with toks := tk }) :
    wpAny (model X.prog X.w) A (call (.builtin "isinstance") [u, c]) Q E s := by
  cases ty with
  | non => cases (show u = Value.none from rx); exact PySem.W.kia_one PySem.W.kitx_none I.kIn True.intro e (fun z => nomatch z) h
  | bl y => cases (show u = Value.bool y from rx); exact PySem.W.kia_one PySem.W.kitx_bool I.kIn True.intro e (fun z => nomatch z) h
  | int i => obtain ⟨t, q⟩ := (show ∃ t, u = Value.int i t from rx); cases q; exact PySem.W.kia_one PySem.W.kitx_int I.kIn True.intro e (fun z => nomatch z) h
  | str y => obtain ⟨t, q⟩ := (show ∃ t, u = Value.str y t from rx); cases q; exact PySem.W.kia_one PySem.W.kitx_str I.kIn True.intro e (fun z => nomatch z) h
  | flt y => obtain ⟨t, q⟩ := (show ∃ t, u = Value.float y t from rx); cases q; exact PySem.W.kia_one PySem.W.kitx_float I.kIn True.intro e (fun z => nomatch z) h
  | @lst a xs ea =>
    cases (show u = Value.ref a from rx)
    obtain ⟨_, _, n, _, h1⟩ := (show ObjOk X.prog X.w H s.heap a (.lst xs) from I.hok a _ ea)
    exact PySem.W.kia_one PySem.W.kitx_list I.kIn ⟨_, h1, rfl⟩ e (fun z => nomatch z) h
  | @frz a ob xs ea =>
    cases (show u = Value.ref a from rx)
    obtain ⟨_, _, _, n, _, h1⟩ := (show ObjOk X.prog X.w H s.heap a (.frz ob (.lst xs)) from I.hok a _ ea)
    exact PySem.W.kia_one PySem.W.kitx_list I.kIn ⟨_, h1, rfl⟩ e (fun z => nomatch z) h
  | @tup a xs ea =>
    cases (show u = Value.ref a from rx)
    obtain ⟨_, _, _, p⟩ := (show ObjOk X.prog X.w H s.heap a (.tup xs) from I.hok a _ ea)
    obtain ⟨o, h1, h2, _⟩ := p
    exact PySem.W.kia_one PySem.W.kitx_tuple I.kIn ⟨o, h1, h2⟩ e (fun z => nomatch z) h
  | @dK a kvs ea =>
    cases (show u = Value.ref a from rx)
    obtain ⟨_, _, vs, _, p⟩ := (show ObjOk X.prog X.w H s.heap a (.dK kvs) from I.hok a _ ea)
    obtain ⟨o, es, ep, h1, h2, _⟩ := p
    exact PySem.W.kia_one PySem.W.kitx_dict I.kIn ⟨o, h1, h2.1⟩ e (fun z => nomatch z) h
  | @dT a kvs ea =>
    cases (show u = Value.ref a from rx)
    obtain ⟨_, _, xs, _, o, es, ep, h1, h2, _⟩ := (show ObjOk X.prog X.w H s.heap a (.dT kvs) from I.hok a _ ea)
    exact PySem.W.kia_one PySem.W.kitx_dict I.kIn ⟨o, h1, h2.1⟩ e (fun z => nomatch z) h
  | @ins a C dx fs ea cl ha hn htk hm =>
    cases (show u = Value.ref a from rx)
    obtain ⟨mA, O, _⟩ := ins_get I.hok ea
    obtain ⟨od, J, _⟩ := O.look
    exact PySem.W.kia_one (PySem.W.kitx_own (cl.get _) cl.hd ha hn htk hm) I.kIn J e (fun z => nomatch z) h
end
end L2

namespace L2
open PySem PySem.Spec PyProof.Rows

/-! ### room -/
structure Room (k : Nat) (A : Around) : Prop where
  dp : A.depth + 3 * k + 5 < recursionLimit
  un : A.units + 16 * k + 200 < cLine
theorem Room.mono {j k : Nat} {A : Around} (r : Room k A) (h : j ≤ k) : Room j A := ⟨by have := r.dp; omega, by have := r.un; omega⟩
theorem Room.deeper {k : Nat} {A : Around} (r : Room (k + 1) A) (env : Env) : Room k (A.deeper env) :=
  ⟨by have := r.dp; show A.depth + 1 + 3 * k + 5 < _; omega, by have := r.un; show A.units + 3 + 16 * k + 200 < _; omega⟩
theorem make_depth {A : Around} {C : Addr} {us : List Value} {kw : List (Str × Value)} : (A.under (.builtin "type.__call__" ⟨.ref C :: us, kw⟩)).depth = A.depth + 1 := by
  first | rfl | simp [Around.under, Code.weight, Code.isCreation, Code.isGuard, Code.isCaller, Code.frames, Code.isFrame, guardIds]
theorem make_units {A : Around} {C : Addr} {us : List Value} {kw : List (Str × Value)} : (A.under (.builtin "type.__call__" ⟨.ref C :: us, kw⟩)).units = A.units + 1 := by
  first | rfl | simp [Around.under, Code.cUnits, Code.frames, Code.isFrame]
theorem Room.make {k : Nat} {A : Around} (r : Room (k + 1) A) (C : Addr) (us : List Value) (kw : List (Str × Value)) : Room k (A.under (.builtin "type.__call__" ⟨.ref C :: us, kw⟩)) :=
  ⟨by have := r.dp; rw [make_depth]; omega, by have := r.un; rw [make_units]; omega⟩
theorem Room.depth {k : Nat} {A : Around} (r : Room k A) : A.depth < recursionLimit := by have := r.dp; omega
theorem Room.units {k : Nat} {A : Around} (r : Room k A) : A.units + 64 < cLine := by have := r.un; omega
/-! ### argument lists and displays -/
def tNil : TA := fun _ H Q => Q [] H
def tCons (ta : TE) (tr : TA) : TA := fun σ H Q => ta σ H fun x H1 => tr σ H1 fun xs H2 => Q (x :: xs) H2
section
variable {X : Cx} {e : Expr} {es : List Expr} {te : TE} {t : TA} {pos : Pos}
theorem pa_nil : PA X [] tNil := fun _ _ _ _ H Q I h => Calls.spliced_nil ⟨[], H, I, .nil, h⟩
theorem pa_cons (ha : PE X e te) (hr : PA X es t) (hs : starEach (e :: es) X.env = (false, eval e X.env) :: starEach es X.env := by rfl) : PA X (e :: es) (tCons te t) := by
  intro pos pins s σ H Q I h
  rw [hs]
  show wpAny _ _ (spliced ((false, eval e X.env) :: backTo pos (starEach es X.env))) _ _ s
  refine Calls.spliced_cons (thn (ha pins s σ H _ I h) fun u s1 ⟨x, H1, I1, r1, q1⟩ => ?_)
  exact thn (hr pos pins s1 σ H1 _ I1 q1) fun us s2 ⟨xs, H2, I2, r2, q2⟩ => ⟨x :: xs, H2, I2, .cons r1 r2, q2⟩

/-- a tuple, a list of written items -/
def tTup (t : TA) : TE := fun σ H Q => t σ H fun xs H1 => xs.length ≤ sizeLine ∧ ∀ p, H1 p = none → Q (.ref p) (upd H1 p (.tup xs))
def tLst (t : TA) : TE := fun σ H Q => t σ H fun xs H1 => xs.length ≤ sizeLine ∧ ∀ p, H1 p = none → Q (.ref p) (upd H1 p (.lst xs))
theorem pe_tup {x1} (h : PA X es t) : PE X (.Tuple es x1 pos) (tTup t) := by
  intro pins s σ H Q I hq
  refine wpAny_Tuple_spliced (thn (h pos pins s σ H _ I hq) fun us s1 ⟨xs, H1, I1, r, z, q⟩ => ⟨by rw [← r.length]; exact z, ?_⟩)
  have hf : H1 s1.heap.objs.size = none := I1.hok.fresh (Nat.le_refl _)
  refine ⟨.ref s1.heap.objs.size, upd H1 s1.heap.objs.size (.tup xs), I1.laid (t' := s1.toks) (fun b u e => Heap.get?_push_of_some _ e) (Nat.le_refl _) ?_, rfl, q _ hf⟩
  exact ⟨z, us, r, ⟨_, Heap.get?_push_size _ rfl, rfl, _, rfl⟩⟩
theorem pe_lst (h : PA X es t) : PE X (.List es pos) (tLst t) := by
  intro pins s σ H Q I hq
  refine wpAny_List_spliced (thn (h pos pins s σ H _ I hq) fun us s1 ⟨xs, H1, I1, r, z, q⟩ => ⟨by rw [← r.length]; exact z, ?_⟩)
  have hf : H1 s1.heap.objs.size = none := I1.hok.fresh (Nat.le_refl _)
  refine ⟨.ref s1.heap.objs.size, upd H1 s1.heap.objs.size (.lst xs), I1.laid (t' := s1.toks) (fun b u e => Heap.get?_push_of_some _ e) (Nat.le_refl _) ?_, rfl, q _ hf⟩
  exact ⟨z, us, 0, r, Heap.get?_push_size _ rfl⟩
end

/-! ### what a def promises -/
/-- a def's promise: the bound arguments in the parameters' order, the heap, the wanted end, the wanted exception -/
abbrev Sp := List V → Hp → VK → XK → Prop
/-- how an exception lies behind a call (file 08 gives it): the callers' frames, abstract heap and state ahead of the call, the wish, the exception, the state -/
structure CXT where
  cm : Bool
  sm : Bool
  cx : List Env → Hp → Shared → XK → Value → Shared → Prop

/-- the state at a call -/
structure Env0 (P : Program) (w : World) (K : PySem.W.Frag) (mg : Str → Option Value) (base : Heap) (A : Around) (outer : List Env) (s : Shared) (H : Hp) : Prop where
  frames : A.frames = some outer
  mod : Mod K mg base
  bs : ∀ b o, base.get? b = some o → s.heap.get? b = some o ∧ H b = none
  bsz : base.objs.size ≤ s.heap.objs.size
  funs : s.heap.FunFrames base outer
  frf : ∀ b ∈ frs outer, H b = none
  hok : HOk P w H s.heap
  bare : AllBare s.gens
/-- a call's end -/
def CE (outer : List Env) (P : Program) (w : World) (H : Hp) (s : Shared) (Q : VK) (u : Value) (s' : Shared) : Prop :=
  ∃ v H', s'.os = s.os ∧ AllBare s'.gens ∧ Un (frs outer) [] H H' s.heap s'.heap ∧ HOk P w H' s'.heap ∧ RelV v u ∧ Q v H'
def CR (CX : CXT) (outer : List Env) (P : Program) (w : World) (H : Hp) (s : Shared) (Q : VK) (E : XK) (r : Result) (s' : Shared) : Prop :=
  match r with
  | .ok (.ret u) => CE outer P w H s Q u s'
  | .ok _ => False
  | .error e => CX.cx outer H s E e s'
structure FnOk (P : Program) (w : World) (K : PySem.W.Frag) (mg : Str → Option Value) (base : Heap) (CX : CXT) (k : Nat) (f : Addr) (fd : FuncData) (ps : List Str) (sp : Sp) : Prop where
  len : ∀ vs H Q E, sp vs H Q E → vs.length = ps.length
  run : ∀ (A : Around) (outer : List Env) (s : Shared) (H : Hp) (args : Args) (us : List Value) (vs : List V) (Q : VK) (E : XK), Room k A → (CX.cm = true → A.handled = none) → (CX.sm = true → Hd A H) → Env0 P w K mg base A outer s H → BindsTo s fd args (ps.zip us) → Vals vs us → sp vs H Q E →
    codeAny (model P w) A (.call (.ref f) args) (CR CX outer P w H s Q E) s
theorem FnOk.mono {P : Program} {w : World} {K : PySem.W.Frag} {mg : Str → Option Value} {base : Heap} {CX : CXT} {j k : Nat} {f : Addr} {fd : FuncData} {ps : List Str} {sp : Sp} (F : FnOk P w K mg base CX j f fd ps sp) (h : j ≤ k) :
    FnOk P w K mg base CX k f fd ps sp := ⟨F.len, fun A outer s H args us vs Q E hr => F.run A outer s H args us vs Q E (hr.mono h)⟩
/-- a weaker promise -/
theorem FnOk.imp {P : Program} {w : World} {K : PySem.W.Frag} {mg : Str → Option Value} {base : Heap} {CX : CXT} {k : Nat} {f : Addr} {fd : FuncData} {ps : List Str} {sp sp' : Sp} (F : FnOk P w K mg base CX k f fd ps sp)
    (h : ∀ vs H Q E, sp' vs H Q E → sp vs H Q E) : FnOk P w K mg base CX k f fd ps sp' :=
  ⟨fun vs H Q E q => F.len vs H Q E (h _ _ _ _ q), fun A outer s H args us vs Q E hr hc hsm he hb hv hs => F.run A outer s H args us vs Q E hr hc hsm he hb hv (h _ _ _ _ hs)⟩

theorem Env0.make {P : Program} {w : World} {K : PySem.W.Frag} {mg : Str → Option Value} {base : Heap} {A : Around} {outer : List Env} {s : Shared} {H : Hp} (e : Env0 P w K mg base A outer s H) (C : Addr) (us : List Value) (kw : List (Str × Value)) :
    Env0 P w K mg base (A.under (.builtin "type.__call__" ⟨.ref C :: us, kw⟩)) outer s H := ⟨by first | exact e.frames | (simpa [Around.under, Code.envs, Code.isFrame, pushEnvs] using e.frames), e.mod, e.bs, e.bsz, e.funs, e.frf, e.hok, e.bare⟩
section
variable {X : Cx} {pins : List (Addr × Obj)} {σ : St} {H : Hp} {s s' : Shared}
/-- from a body: what a callee wants -/
theorem Inv.env0 (I : Inv X pins σ H s) : Env0 X.prog X.w X.K X.mg X.base X.A X.stack s H :=
  ⟨I.ok.frames, I.ok.mod, I.bs, Nat.le_trans I.ok.bsz I.sz, I.stack, I.stkFree, I.hok, I.bare⟩
/-- behind a call -/
theorem Inv.after {Q : VK} {u : Value} (I : Inv X pins σ H s) (h : CE X.stack X.prog X.w H s Q u s') : EP X pins σ Q u s' := by
  obtain ⟨v, H', os, bare, un, hok, r, q⟩ := h
  obtain ⟨hh, g, d, t, os'⟩ := s'
  obtain rfl : os' = s.os := os
  exact ⟨v, H', I.call (h' := hh) (g' := g) (d' := d) (t' := t) (ch := []) un hok bare (fun b z => absurd z (by simp)), r, q⟩
end

/-! ### calls -/
/-- f(..): the written arguments, then the defaults dvs; E: what is wanted of an exception -/
def tCall (sp : Sp) (dvs : List V) (E : XK) (t : TA) : TE := fun σ H Q => t σ H fun vs H1 => sp (vs ++ dvs) H1 Q E
/-- o.m(..) of an instance of the class at C -/
def tMeth (C : Addr) (m : Str) (sp : Sp) (dvs : List V) (E : XK) (ta : TE) (t : TA) : TE := fun σ H Q => ta σ H fun x H1 => ∃ a dx fs, x = .ref a ∧ H1 a = some (.ins C dx fs) ∧ fs.lookup m = none ∧
  t σ H1 fun vs H2 => sp (x :: (vs ++ dvs)) H2 Q E
/-- C(..): a new instance and its dict, then __init__ -/
def tMake (C : Addr) (sp : Sp) (dvs : List V) (E : XK) (t : TA) : TE := fun σ H Q => t σ H fun vs H1 => ∀ x dx, H1 x = none → H1 dx = none → dx ≠ x →
  sp (.ref x :: (vs ++ dvs)) (upd (upd H1 dx (.own x)) x (.ins C dx [])) (fun v H2 => v = .non ∧ Q (.ref x) H2) E

/-- how the parameters are bound: us the positional arguments, kw the keywords' values by name, ds the defaults that fill up -/
def Binds (K : PySem.W.Frag) (fd : FuncData) (ps : List Str) (ds : List Value) : Prop :=
  ∀ (s : Shared) (us : List Value), K.In s.heap → (us ++ ds).length = ps.length → BindsTo s fd ⟨us, []⟩ (ps.zip (us ++ ds))
/-- every parameter is given -/
theorem Binds.all {K : PySem.W.Frag} {fd : FuncData} {ps : List Str} (h : ∀ us : List Value, us.length = ps.length → bindArgs fd ⟨us, []⟩ = pure (ps.zip us)) : Binds K fd ps [] := fun s us _ hl => by
  rw [List.append_nil] at hl ⊢
  exact .of_eq (h us hl)

/-- an exception of a callee reaches what this body wants of exceptions -/
def Passes (CX : CXT) (X : Cx) (E : XK) : Prop := (CX.cm = true → X.calm = true) ∧ CX.sm = false ∧ ∀ (pins : List (Addr × Obj)) (σ : St) (H : Hp) (s : Shared) (e : Value) (s' : Shared), Inv X pins σ H s → CX.cx X.stack H s E e s' → X.xe e s'

section
variable {X : Cx} {CX : CXT} {k : Nat} {f C : Addr} {fd : FuncData} {ps : List Str} {sp : Sp} {dvs : List V} {ds : List Value} {E : XK} {x m : Str} {p pos apos : Pos} {e o : Expr} {es : List Expr} {ta : TE} {t : TA}

/-- the callee runs -/
theorem run_fn {pins : List (Addr × Obj)} {σ : St} {H : Hp} {s : Shared} {Q : VK} {us : List Value} {vs : List V} (F : FnOk X.prog X.w X.K X.mg X.base CX k f fd ps sp) (hr : Room k X.A) (hb : Binds X.K fd ps ds) (hd : Vals dvs ds) (hx : Passes CX X E)
    (I : Inv X pins σ H s) (r : Vals vs us) (h : sp (vs ++ dvs) H Q E) : wpAny (model X.prog X.w) X.A (call (.ref f) us) (EP X pins σ Q) X.xe s := by
  have r2 : Vals (vs ++ dvs) (us ++ ds) := r.append hd
  have hl : (us ++ ds).length = ps.length := by rw [← r2.length]; exact F.len _ _ _ _ h
  refine wpAny_call (codeAny_mono (F.run X.A X.stack s H ⟨us, []⟩ (us ++ ds) (vs ++ dvs) Q E hr (fun z => I.ok.hd (hx.1 z)) (fun z => by rw [hx.2.1] at z; cases z) I.env0 (hb s us I.kIn hl) r2 h) fun r s' hq => ?_)
  cases r with
  | error e => exact hx.2.2 pins σ H s e s' I hq
  | ok fl =>
    cases fl with
    | ret u => exact I.after hq
    | next => exact False.elim hq
    | brk => exact False.elim hq
    | cont => exact False.elim hq

theorem pe_call (F : FnOk X.prog X.w X.K X.mg X.base CX k f fd ps sp) (hr : Room k X.A) (hg : Gl X x) (hm : X.mg x = some (.ref f)) (hk : PySem.W.keepIn X.K (.ref f) = true) (hb : Binds X.K fd ps ds) (hd : Vals dvs ds) (hx : Passes CX X E)
    (ha : PA X (e :: es) t) (hdb : (x == ("__debug__" : Str)) = false := by decide) (he : starEach (e :: es) X.env = (false, eval e X.env) :: starEach es X.env := by rfl) (hpl : (backTo pos (starEach es X.env)).any (·.1) = false := by rfl) :
    PE X (.Call (.Name x p) (e :: es) [] pos) (tCall sp dvs E t) := by
  intro pins s σ H Q I h
  refine wpAny_Call_Name_kw (ld_glob I hg hm ?_ hdb)
  refine PySem.W.callWith_K (h₀ := X.base) I.ok.mod.kin hk (thn (ha pos pins s σ H _ I h) fun us s1 ⟨vs, H1, I1, r, q⟩ => ⟨I1.kIn, ?_⟩) he hpl
  exact run_fn F hr hb hd hx I1 r q
/-- what a class must have to be made -/
structure Mk (K : PySem.W.Frag) (C f : Addr) : Prop where
  makes : PySem.W.makesIn K C = true
  init : PySem.W.findIn K (.ref C) "__init__" = some (some (.ref f))
  fn : PySem.W.isFn K (.ref f) = true
  kp : PySem.W.keepIn K (.ref C) = true

theorem run_make {pins : List (Addr × Obj)} {σ : St} {H : Hp} {s : Shared} {Q : VK} {us : List Value} {vs : List V} (M : Mk X.K C f) (F : FnOk X.prog X.w X.K X.mg X.base CX k f fd ps sp) (hr : Room (k + 1) X.A) (hb : Binds X.K fd ps ds) (hd : Vals dvs ds)
    (hx : Passes CX X E) (I : Inv X pins σ H s) (r : Vals vs us)
    (h : ∀ x dx, H x = none → H dx = none → dx ≠ x → sp (.ref x :: (vs ++ dvs)) (upd (upd H dx (.own x)) x (.ins C dx [])) (fun v H2 => v = .non ∧ Q (.ref x) H2) E) :
    wpAny (model X.prog X.w) X.A (call (.ref C) us) (EP X pins σ Q) X.xe s := by
  have hq := h (s.heap.objs.size + 1) s.heap.objs.size (I.hok.fresh (Nat.le_succ _)) (I.hok.fresh (Nat.le_refl _)) (Nat.ne_of_lt (Nat.lt_succ_self _))
  have I2 := Inv.made (C := C) I
  have r2 : Vals (V.ref (s.heap.objs.size + 1) :: (vs ++ dvs)) (Value.ref (s.heap.objs.size + 1) :: (us ++ ds)) := .cons rfl (r.append hd)
  have hl : (Value.ref (s.heap.objs.size + 1) :: us ++ ds).length = ps.length := by
    have e := r2.length
    rw [F.len _ _ _ _ hq] at e
    exact e.symm
  refine wpAny_call (make_map (f := f) I.kIn M.makes M.init (beq_iff_eq.mp M.fn) (codeAny_mono (F.run _ X.stack _ _ ⟨Value.ref (s.heap.objs.size + 1) :: us, []⟩ (Value.ref (s.heap.objs.size + 1) :: (us ++ ds)) _ _ E (hr.make C us []) (fun z => I.ok.hd (hx.1 z)) (fun z => by rw [hx.2.1] at z; cases z)
    (I2.env0.make C us []) (hb _ (Value.ref (s.heap.objs.size + 1) :: us) I2.kIn hl) r2 hq) fun r s' hq' => ?_))
  cases r with
  | error e => exact hx.2.2 pins σ _ _ e s' I2 hq'
  | ok fl =>
    cases fl with
    | ret u =>
      obtain ⟨v, H', I3, rv, ev, q3⟩ := I2.after hq'
      subst ev
      exact ⟨rv, ⟨V.ref (s.heap.objs.size + 1), H', I3, rfl, q3⟩⟩
    | next => exact False.elim hq'
    | brk => exact False.elim hq'
    | cont => exact False.elim hq'
theorem pe_make (M : Mk X.K C f) (F : FnOk X.prog X.w X.K X.mg X.base CX k f fd ps sp) (hr : Room (k + 1) X.A) (hg : Gl X x) (hm : X.mg x = some (.ref C)) (hb : Binds X.K fd ps ds) (hd : Vals dvs ds) (hx : Passes CX X E)
    (ha : PA X (e :: es) t) (hdb : (x == ("__debug__" : Str)) = false := by decide) (he : starEach (e :: es) X.env = (false, eval e X.env) :: starEach es X.env := by rfl) (hpl : (backTo pos (starEach es X.env)).any (·.1) = false := by rfl) :
    PE X (.Call (.Name x p) (e :: es) [] pos) (tMake C sp dvs E t) := by
  intro pins s σ H Q I h
  refine wpAny_Call_Name_kw (ld_glob I hg hm ?_ hdb)
  refine PySem.W.callWith_K (h₀ := X.base) I.ok.mod.kin M.kp (thn (ha pos pins s σ H _ I h) fun us s1 ⟨vs, H1, I1, r, q⟩ => ⟨I1.kIn, ?_⟩) he hpl
  exact run_make M F hr hb hd hx I1 r q
theorem pe_make0 (M : Mk X.K C f) (F : FnOk X.prog X.w X.K X.mg X.base CX k f fd ps sp) (hr : Room (k + 1) X.A) (hg : Gl X x) (hm : X.mg x = some (.ref C)) (hb : Binds X.K fd ps ds) (hd : Vals dvs ds) (hx : Passes CX X E)
    (hdb : (x == ("__debug__" : Str)) = false := by decide) : PE X (.Call (.Name x p) [] [] pos) (tMake C sp dvs E tNil) := by
  intro pins s σ H Q I h
  refine wpAny_Call_Name_kw (ld_glob I hg hm ?_ hdb)
  exact PySem.W.callWith_K0 I.kIn M.kp (run_make (us := []) M F hr hb hd hx I .nil h)
end

/-! ### keywords -/
/-- the values of the keywords, from the left -/
def PK (X : Cx) (kws : List Keyword) (t : TA) : Prop :=
  ∀ (pos : Pos) (pins : List (Addr × Obj)) (s : Shared) (σ : St) (H : Hp) (Q : List V → Hp → Prop), Inv X pins σ H s → t σ H Q → wpAny (model X.prog X.w) X.A (evalAll ((backToKw pos (keywordEach kws X.env)).map (·.2))) (AP X pins σ Q) X.xe s
section
variable {X : Cx} {CX : CXT} {k : Nat} {f C : Addr} {fd : FuncData} {ps ks : List Str} {sp : Sp} {E : XK} {x m : Str} {p pos apos kpos : Pos} {e o : Expr} {es : List Expr} {kws : List Keyword} {te ta : TE} {t tk : TA} {nm : Option Str}
/-- how a call with keywords binds: g puts the positional values us and the keywords' values ws (names ks) in the parameters' order, defaults among them -/
structure KBinds (K : PySem.W.Frag) (fd : FuncData) (ps ks : List Str) (g : List Value → List Value → List Value) (gV : List V → List V → List V) : Prop where
  to : ∀ (s : Shared) (us ws : List Value), K.In s.heap → (g us ws).length = ps.length → BindsTo s fd ⟨us, ks.zip ws⟩ (ps.zip (g us ws))
  rel : ∀ {vs : List V} {us : List Value} {zs : List V} {ws : List Value}, Vals vs us → Vals zs ws → Vals (gV vs zs) (g us ws)
def tCallK (sp : Sp) (gV : List V → List V → List V) (E : XK) (t tk : TA) : TE := fun σ H Q => t σ H fun vs H1 => tk σ H1 fun zs H2 => sp (gV vs zs) H2 Q E
variable {g : List Value → List Value → List Value} {gV : List V → List V → List V}
end

/-! ### a def's body keeps its promise -/
/-- names: the parameters first -/
structure FnScope (N P : List Str) (sc : Scope) : Prop where
  kind : sc.kind = .function
  co : sc.isCoroutine = false
  gen : sc.isGenerator = false
  nd : N.Nodup
  pre : N.take P.length = P
  par : ∀ x ∈ P, sc.names.lookup x = some .local ∨ sc.names.lookup x = some .cell
  nofree : ∀ y ∈ sc.names, y.2 ≠ .free

theorem bindL_out {kindOf : Str → Option NameKind} {x : Str} : ∀ {binds : List (Str × Value)} {m : Str → Option Value}, (∀ v, (x, v) ∉ binds) → bindL kindOf binds m x = m x
  | [], _, _ => rfl
  | (n, v) :: r, m, h => by
    unfold bindL
    rw [bindL_out fun w hw => h w (List.mem_cons_of_mem _ hw)]
    split
    · have : x ≠ n := by rintro rfl; exact h v List.mem_cons_self
      simp [this]
    · rfl
theorem bindC_out {kindOf : Str → Option NameKind} {x : Str} : ∀ {binds : List (Str × Value)} {m : Str → Option Value}, (∀ v, (x, v) ∉ binds) → bindC kindOf binds m x = m x
  | [], _, _ => rfl
  | (n, v) :: r, m, h => by
    unfold bindC
    rw [bindC_out fun w hw => h w (List.mem_cons_of_mem _ hw)]
    split
    · rfl
    · have : x ≠ n := by rintro rfl; exact h v List.mem_cons_self
      simp [this]
theorem bindL_get {kindOf : Str → Option NameKind} {x : Str} {v : Value} : ∀ {P : List Str} {vs : List Value} {i : Nat} {m : Str → Option Value}, P.Nodup → P[i]? = some x → vs[i]? = some v → kindOf x = some .local →
    bindL kindOf (P.zip vs) m x = some v
  | [], _, _, _, _, h, _, _ => by simp at h
  | _ :: _, [], _, _, _, _, h, _ => by simp at h
  | p :: P, w :: vs, 0, m, nd, h1, h2, hk => by
    simp at h1 h2; subst h1; subst h2
    show bindL kindOf ((p, w) :: P.zip vs) m p = _
    unfold bindL
    rw [bindL_out fun v hv => (List.nodup_cons.mp nd).1 (List.of_mem_zip hv).1, if_pos hk]
    simp
  | p :: P, w :: vs, i + 1, m, nd, h1, h2, hk => by
    show bindL kindOf ((p, w) :: P.zip vs) m x = _
    unfold bindL
    exact bindL_get (i := i) (List.nodup_cons.mp nd).2 (by simpa using h1) (by simpa using h2) hk
theorem bindC_get {kindOf : Str → Option NameKind} {x : Str} {v : Value} : ∀ {P : List Str} {vs : List Value} {i : Nat} {m : Str → Option Value}, P.Nodup → P[i]? = some x → vs[i]? = some v → kindOf x ≠ some .local →
    bindC kindOf (P.zip vs) m x = some v
  | [], _, _, _, _, h, _, _ => by simp at h
  | _ :: _, [], _, _, _, _, h, _ => by simp at h
  | p :: P, w :: vs, 0, m, nd, h1, h2, hk => by
    simp at h1 h2; subst h1; subst h2
    show bindC kindOf ((p, w) :: P.zip vs) m p = _
    unfold bindC
    rw [bindC_out fun v hv => (List.nodup_cons.mp nd).1 (List.of_mem_zip hv).1, if_neg hk]
    simp
  | p :: P, w :: vs, i + 1, m, nd, h1, h2, hk => by
    show bindC kindOf ((p, w) :: P.zip vs) m x = _
    unfold bindC
    exact bindC_get (i := i) (List.nodup_cons.mp nd).2 (by simpa using h1) (by simpa using h2) hk

/-- the names' values at the entry -/
def start (N : List Str) (vs : List V) : St := vs.map some ++ List.replicate (N.length - vs.length) none

/-- the context of a def's body, at its entry; an exception leaves the frame, then lies as CX says -/
def cxOf (CX : CXT) (P : Program) (w : World) (K : PySem.W.Frag) (mg : Str → Option Value) (base : Heap) (N : List Str) (qual : Str) (scope : Scope) (f : Addr) (cd : Value) (A : Around) (outer : List Env) (s : Shared) (H : Hp) (E : XK) : Cx where
  prog := P
  w := w
  K := K
  mg := mg
  base := base
  A := A.deeper (envOfC qual scope s.heap.objs.size f cd)
  N := N
  s₀ := s
  H₀ := H
  env := envOfC qual scope s.heap.objs.size f cd
  outer := outer
  stack := envOfC qual scope s.heap.objs.size f cd :: outer
  ex := []
  calm := CX.cm
  suit := CX.sm
  fn := fun _ => true
  pn := []
  xe := fun e s' => wpAny (model P w) (A.deeper (envOfC qual scope s.heap.objs.size f cd)) (leaving (envOfC qual scope s.heap.objs.size f cd) e) (fun _ s'' => CX.cx outer H s E e s'') (fun e' s'' => CX.cx outer H s E e' s'') s'

theorem cell_has {sc : Scope} {n : Nat} {x : Str} (h : sc.names.lookup x = some .cell) : ∃ c, (cellsFrom n sc.names []).lookup x = some c := by
  have q := PySem.W.cellsFrom_some sc.names n [] (.inl h)
  exact Option.isSome_iff_exists.mp q

theorem inv_start {CX : CXT} {P : Program} {w : World} {K : PySem.W.Frag} {mg : Str → Option Value} {base : Heap} {N ps : List Str} {qual : Str} {scope : Scope} {f : Addr} {cd : Value} {A : Around} {outer : List Env} {s s1 : Shared} {H : Hp} {E : XK} {us : List Value} {vs : List V}
    (S : FnScope N ps scope) (hd : CX.cm = true → A.handled = none) (hsm : CX.sm = true → Hd A H) (e0 : Env0 P w K mg base A outer s H) (hl : vs.length = ps.length) (r : Vals vs us)
    (x : InCallC s s.heap.objs.size (bindL (envOfC qual scope s.heap.objs.size f cd).kindOf (ps.zip us) fun _ => none) (cellsFrom (s.heap.objs.size + 1) scope.names []) (bindC (envOfC qual scope s.heap.objs.size f cd).kindOf (ps.zip us) fun _ => none) s1) :
    Inv (cxOf CX P w K mg base N qual scope f cd A outer s H E) [] (start N vs) H s1 := by
  have hpl : ps.length ≤ N.length := by have := congrArg List.length S.pre; rw [List.length_take] at this; omega
  obtain ⟨h1, tk, rfl, hk⟩ := x.done
  have noA : ∀ b : Addr, b ∉ (cxOf CX P w K mg base N qual scope f cd A outer s H E).ex := fun b z => absurd (show b ∈ ([] : List Addr) from z) (by simp)
  refine ⟨⟨e0.mod, S.kind, rfl, rfl, Nat.le_refl _, fun y z c h1 h2 => ?_, fun y hy => ?_, fun y c _ h => ?_, hd, Around.frames_deeper e0.frames, .inr ⟨rfl, rfl⟩, fun b z => absurd z (noA b), e0.bs, e0.bsz, fun b _ _ => noA b, fun b z => absurd z (noA b), e0.funs, e0.frf, hsm⟩,
    rfl, e0.bare, Un.kept hk, ⟨_, x.toInCall.ns, fun i y v h1 h2 h3 => ?_⟩, fun y c h => ⟨_, x.cell y c h⟩, e0.hok.fresh (Nat.le_refl _), fun y c h => ?_, fun p hp => absurd (show p ∈ ([] : List (Addr × Obj)) from hp) (by simp), e0.hok.kept hk, ?_⟩
  · exact name_of_addr x.apart (PySem.mem_of_lookup h1) (PySem.mem_of_lookup h2)
  · have hy : scope.names.lookup y = some .cell ∨ scope.names.lookup y = some .free := hy
    rcases hy with hy | hy
    · exact cell_has hy
    · exact absurd rfl (S.nofree _ (PySem.mem_of_lookup hy))
  · exact Nat.le_of_lt (x.above y c (PySem.mem_of_lookup h))
  · have hi : i < vs.length := by
      unfold start at h2
      by_cases hi : i < vs.length
      · exact hi
      · rw [List.getElem?_append_right (by simpa using hi)] at h2
        rw [List.getElem?_replicate] at h2
        split at h2 <;> cases h2
    have ha : vs[i]? = some v := by
      unfold start at h2
      rw [List.getElem?_append_left (by simpa using hi), List.getElem?_map] at h2
      cases e : vs[i]? with
      | none => rw [e] at h2; cases h2
      | some a => rw [e] at h2; cases h2; rfl
    obtain ⟨u, hu, rv⟩ := r.get ha
    have hp : ps[i]? = some y := by
      rw [← S.pre, List.getElem?_take_of_lt (by omega)]; exact h1
    have ndP : ps.Nodup := by rw [← S.pre]; exact S.nd.sublist (List.take_sublist _ _)
    refine ⟨u, rv, ?_⟩
    rcases S.par y (List.mem_of_getElem? hp) with k | k
    · exact .inl ⟨k, bindL_get ndP hp hu k⟩
    · obtain ⟨c, e⟩ := cell_has (n := s.heap.objs.size + 1) k
      refine .inr ⟨.inl k, c, e, ?_⟩
      have q := x.cell y c e
      rw [bindC_get ndP hp hu (by show scope.names.lookup y ≠ _; rw [k]; decide)] at q
      exact q
  · exact e0.hok.fresh (Nat.le_of_lt (x.above y c (PySem.mem_of_lookup h)))
  · unfold start
    show _ = N.length
    rw [List.length_append, List.length_map, List.length_replicate]
    omega

/-- THE RULE: a def (or a method) of the text, by its body. The body's reading t is chosen for each entry; it is run at the parameters' values -/
theorem fn_of {CX : CXT} {P : Program} {w : World} {K : PySem.W.Frag} {mg : Str → Option Value} {base : Heap} {k : Nat} {f : Addr} {name qual : Str} {params : Arguments} {body : List Stmt} {scope : Scope} {dV kV doc pm cdv ct oc : Value} {an od : Option Addr}
    {osl : Array (Option Value)} {N ps : List Str} {sp : Sp} (lk : K.lookup f = some ⟨oc, od, .func (PySem.W.fnOf name qual params body scope dV kV doc pm an cdv ct), osl⟩) (hcd : PySem.W.codeIn K cdv qual = true) (S : FnScope N ps scope)
    (len : ∀ vs H Q E, sp vs H Q E → vs.length = ps.length)
    (hbody : ∀ (A : Around) (outer : List Env) (s : Shared) (H : Hp) (vs : List V) (Q : VK) (E : XK), Room k (A.deeper (envOfC qual scope s.heap.objs.size f cdv)) → sp vs H Q E →
      ∃ t, PSs (cxOf CX P w K mg base N qual scope f cdv A outer s H E) body t ∧ t { nx := fun _ H' => Q .non H', rt := Q } (start N vs) H) :
    FnOk P w K mg base CX (k + 1) f (PySem.W.fnOf name qual params body scope dV kV doc pm an cdv ct) ps sp := by
  refine ⟨len, fun A outer s H args us vs Q E hr hcm hsm e0 hb r hsp => ?_⟩
  have hl := len _ _ _ _ hsp
  have KX : K.In s.heap := e0.mod.kin.keeps fun b o e => (e0.bs b o e).1
  have lim : s.heap.NoLimit := e0.mod.nolimit.keeps fun b o e => (e0.bs b o e).1
  have hkind : ∀ y ∈ ps.zip us, scope.names.lookup y.1 = some .local ∨ (scope.names.lookup y.1 = some .cell ∧ ((cellsFrom (s.heap.objs.size + 1) scope.names []).lookup y.1).isSome = true) := fun ⟨n, v⟩ hy => by
    rcases S.par n (List.of_mem_zip hy).1 with q | q
    · exact .inl q
    · exact .inr ⟨q, PySem.W.cellsFrom_some _ _ _ (.inl q)⟩
  refine codeAny_call_function hr.depth (KX _ _ lk) rfl S.co S.gen rfl (PySem.W.codeRec_of KX hcd) (hb _ _ _ _ ?_)
  refine wpAny_newFunctionEnv_cells S.kind hkind fun env he s1 x => ?_
  subst he
  refine ⟨lim.keeps x.toInCall.keep, codeAny_func ?_⟩
  obtain ⟨t, ht, hq⟩ := hbody A outer s H vs Q E (hr.deeper _) hsp
  have I : Inv (cxOf CX P w K mg base N qual scope f cdv A outer s H E) [] (start N vs) H s1 := inv_start S hcm hsm e0 hl r x
  refine wpAny_mono (ht [] s1 (start N vs) H _ I hq) (fun fl s' hs => ?_) fun e s' hs => hs
  have fin : ∀ {σ' : St} {H' : Hp} {v : V} {u : Value}, Inv (cxOf CX P w K mg base N qual scope f cdv A outer s H E) [] σ' H' s' → RelV v u → Q v H' → CE outer P w H s Q u s' :=
    fun {σ' H' v u} J rv q => ⟨v, H', J.os, J.bare, J.base, J.hok, rv, q⟩
  cases fl with
  | ret u =>
    obtain ⟨v, σ', H', J, rv, q⟩ := hs
    exact fin J rv q
  | next =>
    obtain ⟨σ', H', J, q⟩ := hs
    exact fin (v := V.non) (u := Value.none) J rfl q
  | brk =>
    obtain ⟨_, _, _, q⟩ := hs
    exact False.elim q
  | cont =>
    obtain ⟨_, _, _, q⟩ := hs
    exact False.elim q
end L2

namespace L2
open PySem PySem.Spec PyProof.Rows
section
variable {X : Cx} {x : Str} {p pos : Pos} {e : Expr} {es : List Expr} {t : TA} {id T : String} {r : List V → Hp → VK → Prop}

def tCB (r : List V → Hp → VK → Prop) (t : TA) : TE := fun σ H Q => t σ H fun vs H1 => r vs H1 Q
/-- f(e, ..), f a built-in function -/
theorem pe_callB (hc : CallR X (.builtin id) r) (hg : Gl X x) (hm : X.mg x = none) (hv : bootBuiltins x = some (.builtin id)) (ha : PA X (e :: es) t) (hn : x ≠ "__name__" := by decide) (hdb : (x == ("__debug__" : Str)) = false := by decide)
    (he : starEach (e :: es) X.env = (false, eval e X.env) :: starEach es X.env := by rfl) (hpl : (backTo pos (starEach es X.env)).any (·.1) = false := by rfl) : PE X (.Call (.Name x p) (e :: es) [] pos) (tCB r t) := by
  intro pins s σ H Q I h
  refine wpAny_Call_Name_kw (ld_blt I hg hm hv ?_ hn hdb)
  exact PyProof.Rows.callWith_builtin1 (thn (ha pos pins s σ H _ I h) fun us s1 ⟨vs, H1, I1, r1, q1⟩ => hc pins s1 σ H1 vs us Q I1 r1 q1) he hpl
/-- T(e, ..), T a built-in type -/
theorem pe_callTy (hc : CallR X (.type T) r) (hg : Gl X x) (hm : X.mg x = none) (hv : bootBuiltins x = some (.type T)) (ha : PA X (e :: es) t) (hn : x ≠ "__name__" := by decide) (hdb : (x == ("__debug__" : Str)) = false := by decide)
    (he : starEach (e :: es) X.env = (false, eval e X.env) :: starEach es X.env := by rfl) (hpl : (backTo pos (starEach es X.env)).any (·.1) = false := by rfl) : PE X (.Call (.Name x p) (e :: es) [] pos) (tCB r t) := by
  intro pins s σ H Q I h
  refine wpAny_Call_Name_kw (ld_blt I hg hm hv ?_ hn hdb)
  exact PyProof.Rows.callWith_type1 (thn (ha pos pins s σ H _ I h) fun us s1 ⟨vs, H1, I1, r1, q1⟩ => hc pins s1 σ H1 vs us Q I1 r1 q1) he hpl
end
end L2

namespace HT
open PySem PyProof.Rows

/-- t < u of tuples of ints -/
def lexLt : List Int → List Int → Bool
  | [], [] => false
  | [], _ :: _ => true
  | _ :: _, [] => false
  | x :: xs, y :: ys => if x = y then lexLt xs ys else decide (x < y)
section
open PySem.SeqAt
open PySem.AutoSeq1 (wpAny_loadPart')
open PySem.MeetsSeq PySem.MeetsSeq2 PySem.MeetsSeq3

end

section
variable {prog : Program} {w : World} {A : Around} {E : Value → Shared → Prop} {s : Shared}

/-! ### t[a:b], not the whole -/
/-- a slice's bound as a place among n (d where it is left out) -/
def sIx (n d : Nat) : Option Int → Nat
  | none => d
  | some v => if v < 0 then (v + (n : Int)).toNat else min v.toNat n
theorem sIx_le (n d : Nat) (hd : d ≤ n) (o : Option Int) : sIx n d o ≤ n := by
  cases o with
  | none => exact hd
  | some v =>
    show (if v < 0 then (v + (n : Int)).toNat else min v.toNat n) ≤ n
    by_cases hv : v < 0
    · rw [if_pos hv]; omega
    · rw [if_neg hv]; exact Nat.min_le_right _ _
theorem clip_eq (v : Int) (n d : Nat) : (if v < 0 then max (v + (n : Int)) 0 else min v (n : Int)) = ((sIx n d (some v) : Nat) : Int) := by
  show (if v < 0 then max (v + (n : Int)) 0 else min v (n : Int)) = (((if v < 0 then (v + (n : Int)).toNat else min v.toNat n) : Nat) : Int)
  by_cases hv : v < 0
  · simp only [if_pos hv]; omega
  · simp only [if_neg hv]; omega
theorem adjust_gen (lo hi : Option Int) (n : Nat) : Builtin.Slice.sliceAdjust lo hi 1 (n : Int) = (((sIx n 0 lo : Nat) : Int), ((sIx n n hi : Nat) : Int)) := by
  have h1 : ¬ ((1 : Int) < 0) := by omega
  unfold Builtin.Slice.sliceAdjust
  simp only [h1, if_false]
  refine Prod.ext ?_ ?_
  · cases lo with
    | none => rfl
    | some v => exact clip_eq v n 0
  · cases hi with
    | none => rfl
    | some v => exact clip_eq v n n
theorem places_gen (i j : Nat) : Builtin.Slice.slicePlaces (i : Int) (j : Int) 1 = j - i := by
  unfold Builtin.Slice.slicePlaces
  have h1 : (1 : Int) > 0 := by omega
  simp only [h1, if_true, Int.ediv_one]
  split <;> omega
theorem slicePart_ {v : Value} {o : Option Int} {Q : Option Int → Shared → Prop} (p : IsPart v o) (h : Q o s) : wpAny (model prog w) A (Builtin.Slice.slicePartIndex v) Q E s := by
  cases p with
  | none => exact slicePart_none h
  | int i t => exact slicePart_int h
theorem sliceApplied_gen {sl : Addr} {vl vu : Value} {lo hi : Option Int} {n : Nat} {Q : Int × Int × Nat → Shared → Prop} (hs : s.heap.IsSliceOf sl vl vu .none) (pl : IsPart vl lo) (pu : IsPart vu hi)
    (h : Q (((sIx n 0 lo : Nat) : Int), 1, sIx n n hi - sIx n 0 lo) s) : wpAny (model prog w) A (Builtin.Slice.sliceApplied (.ref sl) (pure (n : Int))) Q E s := by
  obtain ⟨os, hos, hcs, hds⟩ := id hs
  unfold Builtin.Slice.sliceApplied Builtin.Slice.sliceFields
  refine wpAny_bind (wpAny_bind (wpAny_field hos hds (x := vl) rfl (wpAny_bind (wpAny_field hos hds (x := vu) rfl (wpAny_bind (wpAny_field hos hds (x := .none) rfl (wpAny_pure ?_)))))))
  refine wpAny_bind (slicePart_none ?_)
  show wpAny _ _ (if ((1 : Int) == 0) = true then _ else _) _ _ s
  rw [if_neg (by decide)]
  refine wpAny_bind (slicePart_ pl (wpAny_bind (slicePart_ pu (wpAny_bind (wpAny_pure ?_)))))
  show wpAny _ _ (match Builtin.Slice.sliceAdjust lo hi 1 (n : Int) with | (lo, hi) => pure (lo, (1 : Int), Builtin.Slice.slicePlaces lo hi 1)) _ _ s
  rw [adjust_gen lo hi n]
  show wpAny _ _ (pure (((sIx n 0 lo : Nat) : Int), (1 : Int), Builtin.Slice.slicePlaces ((sIx n 0 lo : Nat) : Int) ((sIx n n hi : Nat) : Int) 1)) _ _ s
  rw [places_gen]
  exact wpAny_pure h
theorem pick_gen (xs : Array Value) (i k : Nat) : ((List.range k).filterMap fun (m : Nat) => xs[((i : Int) + (m : Int) * 1).toNat]?).toArray = ((xs.toList.drop i).take k).toArray := by
  have e : (fun (m : Nat) => xs[((i : Int) + (m : Int) * 1).toNat]?) = fun m => xs[i + m]? := by
    funext m
    have : ((i : Int) + (m : Int) * 1).toNat = i + m := by omega
    rw [this]
  rw [e]
  have := pick_run xs i k
  rw [List.filterMap_map] at this
  have e2 : ((fun x => xs[x]?) ∘ fun x => i + x) = fun m => xs[i + m]? := rfl
  rw [e2] at this
  rw [this]

theorem getItem_tuple_cut {t sl : Addr} {items : Array Value} {vl vu : Value} {lo hi : Option Int} {Q : Value → Shared → Prop} (ht : IsTup s.heap t items) (hs : s.heap.IsSliceOf sl vl vu .none) (pl : IsPart vl lo) (pu : IsPart vu hi)
    (hw : ¬ (sIx items.size 0 lo = 0 ∧ sIx items.size items.size hi = items.size))
    (h : Q (.ref s.heap.objs.size) { s with heap := s.heap.push { cls := .type "tuple", data := .seq ((items.toList.drop (sIx items.size 0 lo)).take (sIx items.size items.size hi - sIx items.size 0 lo)).toArray } })
    (hsz : items.size ≤ sizeLine) : wpAny (model prog w) A (getItem (.ref t) (.ref sl)) Q E s := by
  have htake : sizeOk (.seq ((items.toList.drop (sIx items.size 0 lo)).take (sIx items.size items.size hi - sIx items.size 0 lo)).toArray) := by
    show ((items.toList.drop (sIx items.size 0 lo)).take (sIx items.size items.size hi - sIx items.size 0 lo)).toArray.size ≤ sizeLine
    rw [List.size_toArray, List.length_take, List.length_drop, Array.length_toList]
    omega
  have hj : sIx items.size items.size hi ≤ items.size := sIx_le _ _ (Nat.le_refl _) hi
  obtain ⟨os, hos, hcs, hds⟩ := id hs
  have hTs : s.TypeIs (.ref sl) "slice" := ⟨os, hos, hcs⟩
  unfold getItem
  try with_reducible refine wpAny_holding ?_
  first | refine wpAny_bind (wpAny_pure ?_) | skip
  refine wpAny_bind (wpAny_sequenceKey ht.typeIs (by decide) ?_)
  refine wpAny_bind (wpAny_callSpecial?_slot (name := Str.ofString "__getitem__") ht.typeIs PyProof.Rows.slot_tuple_getitem
    (wpAny_call_entry PyProof.Rows.slot_tuple_getitem ht.typeIs entry_tuple_getitem ?_ (args_tuple_getitem _ _)))
  show wpAny _ _ (Builtin.Tuple.tupleItemsOf (.ref t) >>= _) _ _ s
  refine wpAny_bind (tupleItemsOf_ ht ?_)
  refine wpAny_bind (wpAny_typeOf hTs ?_)
  rw [if_pos (by decide)]
  refine wpAny_bind (sliceApplied_gen hs pl pu ?_)
  have hno : ¬ ((((sIx items.size 0 lo : Nat) : Int) == 0 && (1 : Int) == 1 && (sIx items.size items.size hi - sIx items.size 0 lo) == items.size) = true) := by
    intro q
    rw [Bool.and_eq_true, Bool.and_eq_true] at q
    have q1 : ((sIx items.size 0 lo : Nat) : Int) = 0 := eq_of_beq q.1.1
    have q2 : sIx items.size items.size hi - sIx items.size 0 lo = items.size := eq_of_beq q.2
    exact hw ⟨by omega, by omega⟩
  show wpAny _ _ (if (((sIx items.size 0 lo : Nat) : Int) == 0 && (1 : Int) == 1 && (sIx items.size items.size hi - sIx items.size 0 lo) == items.size) = true then _ else _) _ _ s
  rw [if_neg hno, pick_gen]
  first
    | exact wpAny_bind (m := Builtin.Tuple.tupleExact _) (wpAny_newObj_type (wpAny_pure ⟨_, rfl, wpAny_pure h⟩) htake)
    | exact wpAny_bind (m := Builtin.Tuple.tupleExact _) (wpAny_newObj_type (wpAny_bind (wpAny_pure (wpAny_pure ⟨_, rfl, wpAny_pure h⟩))) htake)
    | exact wpAny_bind (wpAny_bind (m := Builtin.Tuple.tupleExact _) (wpAny_newObj_type (wpAny_pure (wpAny_pure ⟨_, rfl, wpAny_pure h⟩)) htake))
    | exact wpAny_bind (wpAny_bind (m := Builtin.Tuple.tupleExact _) (wpAny_newObj_type (wpAny_pure ⟨_, rfl, wpAny_pure h⟩) htake))
end
end HT

namespace L2
open PySem PySem.Spec PyProof.Rows

/-! ### the parts of a slice -/
abbrev TO := St → Hp → (Option Int → Hp → Prop) → Prop
/-- a slice's part (left out, or an int) -/
def PO (X : Cx) (e : Option Expr) (t : TO) : Prop :=
  ∀ (pins : List (Addr × Obj)) (s : Shared) (σ : St) (H : Hp) (Q : Option Int → Hp → Prop), Inv X pins σ H s → t σ H Q →
    wpAny (model X.prog X.w) X.A (evalPart e X.env) (fun u s' => ∃ o H', Inv X pins σ H' s' ∧ IsPart u o ∧ Q o H') X.xe s
def tNoPart : TO := fun _ H Q => Q none H
def tPart (t : TE) : TO := fun σ H Q => t σ H fun x H1 => ∃ i, x = .int i ∧ Q (some i) H1

section
variable {X : Cx} {e : Expr} {te : TE} {lo hi : Option Expr} {tl th : TO} {pos p2 : Pos}

theorem po_none : PO X none tNoPart := by
  intro pins s σ H Q I h
  rw [evalPart_none]
  exact wpAny_pure ⟨none, H, I, .none, h⟩
theorem po_some (h : PE X e te) : PO X (some e) (tPart te) := by
  intro pins s σ H Q I hw
  rw [evalPart_some]
  refine thn (h pins s σ H _ I hw) fun u s1 ⟨x, H1, I1, r1, q1⟩ => ?_
  obtain ⟨i, rfl, q⟩ := q1
  obtain ⟨t, rfl⟩ := r1
  exact ⟨some i, H1, I1, .int i t, q⟩

/-- what a slice of a value is, by values: the slice object stands at sl -/
def SlR (X : Cx) (r : V → Option Int → Option Int → Hp → VK → Prop) : Prop :=
  ∀ (pins : List (Addr × Obj)) (s : Shared) (σ : St) (H : Hp) (x : V) (v vl vu : Value) (lo hi : Option Int) (sl : Addr) (Q : VK), Inv X pins σ H s → RelV x v → s.heap.IsSliceOf sl vl vu .none → IsPart vl lo → IsPart vu hi → r x lo hi H Q →
    ∃ T id, typeLookup (.type T) "__getitem__" = pure (some (.builtin id)) ∧ s.TypeIs v T ∧ wpAny (model X.prog X.w) X.A (getItem v (.ref sl)) (EP X pins σ Q) X.xe s
def tSl (r : V → Option Int → Option Int → Hp → VK → Prop) (te : TE) (tl th : TO) : TE := fun σ H Q => te σ H fun x H1 => tl σ H1 fun l H2 => th σ H2 fun u H3 => r x l u H3 Q
/-- a[lo:hi], any a -/
theorem pe_slice {r : V → Option Int → Option Int → Hp → VK → Prop} (hr : SlR X r) (he : PE X e te) (hl : PO X lo tl) (hu : PO X hi th) : PE X (.Subscript e (.Slice lo hi none p2) pos) (tSl r te tl th) := by
  intro pins s σ H Q I h
  refine Subscript_ (thn (he pins s σ H _ I h) fun v s1 ⟨x, H1, I1, r1, q1⟩ => ?_)
  refine wpAny_Slice (thn (hl pins s1 σ H1 _ I1 q1) fun vl s2 ⟨l, H2, I2, pl, q2⟩ => thn (hu pins s2 σ H2 _ I2 q2) fun vu s3 ⟨u, H3, I3, pu, q3⟩ => ?_)
  rw [evalPart_none]
  refine wpAny_pure ?_
  have I4 : Inv X pins σ H3 { s3 with heap := s3.heap.push { cls := .type "slice", data := .fields #[vl, vu, .none] } } := I3.kept (t' := s3.toks) fun b ob q => Heap.get?_push_of_some _ q
  obtain ⟨T, id, hT, ht, hg⟩ := hr pins { s3 with heap := s3.heap.push { cls := .type "slice", data := .fields #[vl, vu, .none] } } σ H3 x v vl vu l u s3.heap.objs.size Q I4 r1 (Heap.IsSliceOf.new ..) pl pu q3
  show wpAny (model X.prog X.w) X.A (subscriptTail e (.Slice lo hi none p2) v (.ref s3.heap.objs.size)) (EP X pins σ Q) X.xe { s3 with heap := s3.heap.push { cls := .type "slice", data := .fields #[vl, vu, .none] } }
  exact tail_any (ops := [.ref s3.heap.objs.size, v]) ht hT hg (by with_unfolding_all rfl)

/-- the items of xs[lo:hi] -/
def cutV (xs : List V) (lo hi : Option Int) : List V := (xs.drop (HT.sIx xs.length 0 lo)).take (HT.sIx xs.length xs.length hi - HT.sIx xs.length 0 lo)
theorem cutV_length (xs : List V) (lo hi : Option Int) : (cutV xs lo hi).length ≤ xs.length := by
  unfold cutV
  rw [List.length_take, List.length_drop]
  omega
/-- t[lo:hi], not the whole of it (the whole would be t itself) -/
def rSlT (K : PySem.W.Frag) : V → Option Int → Option Int → Hp → VK → Prop := fun x lo hi H Q => ∃ a xs, x = .ref a ∧ SqT K H a xs ∧
  ¬ (HT.sIx xs.length 0 lo = 0 ∧ HT.sIx xs.length xs.length hi = xs.length) ∧ ∀ p, H p = none → Q (.ref p) (upd H p (.tup (cutV xs lo hi)))
theorem sl_tup : SlR X (rSlT X.K) := by
  intro pins s σ H x v vl vu lo hi sl Q I rx hs pl pu h
  obtain ⟨a, xs, rfl, hx, hw, q⟩ := h
  cases rx
  obtain ⟨its, r, ht, hz⟩ := I.tuple hx
  have hlen : its.toArray.size = xs.length := by rw [List.size_toArray]; exact r.length.symm
  refine ⟨"tuple", _, PyProof.Rows.slot_tuple_getitem.lookup, ht.typeIs, ?_⟩
  refine HT.getItem_tuple_cut ht hs pl pu (by rw [hlen]; exact hw) ?_ (by rw [hlen]; exact hz)
  rw [hlen]
  refine ⟨.ref s.heap.objs.size, _, I.laid (t' := s.toks) (o := .tup (cutV xs lo hi)) (fun b ob q => Heap.get?_push_of_some _ q) (Nat.le_refl _) ?_, rfl, q _ (I.hok.fresh (Nat.le_refl _))⟩
  exact ⟨Nat.le_trans (cutV_length xs lo hi) hz, _, (r.drop (HT.sIx xs.length 0 lo)).take (HT.sIx xs.length xs.length hi - HT.sIx xs.length 0 lo), IsTup.new _ _⟩

/-! ### t < u, t + u -/
def rLtT (K : PySem.W.Frag) : R2 := fun x y H Q => ∃ a b ns ms, x = .ref a ∧ y = .ref b ∧ SqT K H a (ns.map V.int) ∧ SqT K H b (ms.map V.int) ∧ Q (.bl (HT.lexLt ns ms)) H
/-- t + u, t not empty: u empty gives t itself -/
def rCatT (K : PySem.W.Frag) : R2 := fun x y H Q => ∃ a b xs ys, x = .ref a ∧ y = .ref b ∧ SqT K H a xs ∧ SqT K H b ys ∧ xs ≠ [] ∧ xs.length + ys.length ≤ sizeLine ∧
  (ys = [] → Q (.ref a) H) ∧ (ys ≠ [] → ∀ p, H p = none → Q (.ref p) (upd H p (.tup (xs ++ ys))))
end
end L2

namespace L2
open PySem PySem.Spec PyProof.Rows

/-! ### places -/
/-- the place that an index of any sign means -/
def ixN (n : Nat) (i : Int) : Option Nat := if 0 ≤ i then (if i < n then some i.toNat else none) else if -(n : Int) ≤ i then some (i + n).toNat else none
def atI {α : Type} (xs : List α) (i : Int) : Option α := (ixN xs.length i).bind fun j => xs[j]?
theorem ixN_seq {n : Nat} {i : Int} {j : Nat} (h : ixN n i = some j) : seqIndex? i n = some j ∧ j < n ∧ -(n : Int) ≤ i ∧ i < n := by
  unfold ixN at h
  by_cases h0 : 0 ≤ i
  · rw [if_pos h0] at h
    by_cases h1 : i < n
    · rw [if_pos h1] at h
      have e : i.toNat = j := Option.some.inj h
      exact ⟨by rw [seqIndex_of h0 h1, e], by omega, by omega, h1⟩
    · rw [if_neg h1] at h; cases h
  · rw [if_neg h0] at h
    by_cases h1 : -(n : Int) ≤ i
    · rw [if_pos h1] at h
      have e : (i + n).toNat = j := Option.some.inj h
      exact ⟨by rw [seqIndex_neg (by omega) h1, e], by omega, h1, by omega⟩
    · rw [if_neg h1] at h; cases h
theorem atI_get {α : Type} {xs : List α} {i : Int} {v : α} (h : atI xs i = some v) : ∃ j, seqIndex? i xs.length = some j ∧ xs[j]? = some v ∧ j < xs.length ∧ -(xs.length : Int) ≤ i ∧ i < xs.length := by
  unfold atI at h
  cases e : ixN xs.length i with
  | none => rw [e] at h; cases h
  | some j =>
    rw [e] at h
    obtain ⟨h1, h2, h3, h4⟩ := ixN_seq e
    exact ⟨j, h1, h, h2, h3, h4⟩
theorem atI_nat {α : Type} {xs : List α} {j : Nat} {v : α} (h : xs[j]? = some v) : atI xs (j : Int) = some v := by
  have hj : j < xs.length := (List.getElem?_eq_some_iff.mp h).1
  have e : ixN xs.length (j : Int) = some j := by
    unfold ixN
    rw [if_pos (by omega), if_pos (by omega)]; simp
  unfold atI; rw [e]; exact h
/-! ### what may be subscripted -/
/-- what stands as an index of a plain subscript -/
def PlainIx (b : Expr) : Prop := ∀ o i, subscripted b false o i = operate [o, i] (getItem o i)
/-- a subscript by values -/
def IxR (X : Cx) (r : R2) : Prop :=
  ∀ (value slice : Expr) (pins : List (Addr × Obj)) (s : Shared) (σ : St) (H : Hp) (x y : V) (v u : Value) (Q : VK), Inv X pins σ H s → RelV x v → RelV y u → r x y H Q →
    subscripted slice false v u = operate [v, u] (getItem v u) → wpAny (model X.prog X.w) X.A (subscriptTail value slice v u) (EP X pins σ Q) X.xe s
/-- a call of a builtin's method by values: the receiver, the arguments -/
def MtR (X : Cx) (id : String) (r : V → List V → Hp → VK → Prop) : Prop :=
  ∀ (pins : List (Addr × Obj)) (s : Shared) (σ : St) (H : Hp) (x : V) (xs : List V) (v : Value) (us : List Value) (Q : VK), Inv X pins σ H s → RelV x v → Vals xs us → r x xs H Q →
    wpAny (model X.prog X.w) X.A (call (.builtin id) (v :: us)) (EP X pins σ Q) X.xe s
section
variable {X : Cx} {a b : Expr} {ta tb : TE} {pos : Pos}
/-- a[b] -/
theorem pe_ix {r : R2} (hr : IxR X r) (ha : PE X a ta) (hb : PE X b tb) (hs : PlainIx b) : PE X (.Subscript a b pos) (tOp r ta tb) := by
  intro pins s σ H Q I h
  exact Subscript_ (binT ha hb I h fun v u s2 x y H2 I2 rx ry q => hr a b pins s2 σ H2 x y v u Q I2 rx ry q (hs _ _))

def rIxL (K : PySem.W.Frag) : R2 := fun x y H Q => ∃ p xs i v, x = .ref p ∧ y = .int i ∧ SqL K H p xs ∧ atI xs i = some v ∧ Q v H
def rIxT (K : PySem.W.Frag) : R2 := fun x y H Q => ∃ p xs i v, x = .ref p ∧ y = .int i ∧ SqT K H p xs ∧ atI xs i = some v ∧ Q v H
def rIxS : R2 := fun x y H Q => ∃ z i c, x = .str z ∧ y = .int i ∧ z.length ≤ sizeLine ∧ atI z.cps.toList i = some c ∧ Q (.str ⟨#[c]⟩) H
theorem ix_list : IxR X (rIxL X.K) := by
  intro value slice pins s σ H x y v u Q I rx ry h hs
  obtain ⟨p, xs, i, z, rfl, rfl, hq, he, q⟩ := h
  cases rx
  obtain ⟨t, rfl⟩ := ry
  obtain ⟨its, r, pl, hz⟩ := I.list hq
  obtain ⟨j, h1, h2, h3, h4, h5⟩ := atI_get he
  obtain ⟨w, ew, rw'⟩ := r.get h2
  have hl := r.length
  have hn := line63
  have fin : EP X pins σ Q w s := ⟨z, H, I, rw', q⟩
  by_cases h0 : 0 ≤ i
  · have hj : i.toNat = j := by
      rw [seqIndex_of h0 h5] at h1
      exact Option.some.inj h1
    exact item_listR pl.isList h0 (by omega) (by rw [hj]; simpa using ew) fin hs
  · have hj : (i + (its.toArray.size : Int)).toNat = j := by
      rw [seqIndex_neg (by omega) h4] at h1
      rw [List.size_toArray, ← hl]
      exact Option.some.inj h1
    exact subscriptTail_builtinR (x := w) pl.isList.typeIs slot_list_getitem.lookup
      (wpAny_getItem_list_neg (Q := fun r s' => r = w ∧ EP X pins σ Q r s') pl.isList (by omega) (by rw [List.size_toArray] <;> omega) (by omega) (by rw [hj]; simpa using ew) ⟨rfl, fin⟩) hs
theorem ix_tup : IxR X (rIxT X.K) := by
  intro value slice pins s σ H x y v u Q I rx ry h hs
  obtain ⟨p, xs, i, z, rfl, rfl, hq, he, q⟩ := h
  cases rx
  obtain ⟨t, rfl⟩ := ry
  obtain ⟨its, r, pl, hz⟩ := I.tuple hq
  obtain ⟨j, h1, h2, h3, h4, h5⟩ := atI_get he
  obtain ⟨w, ew, rw'⟩ := r.get h2
  have hl := r.length
  have hn := line63
  have fin : EP X pins σ Q w s := ⟨z, H, I, rw', q⟩
  exact subscriptTail_builtinR (x := w) pl.typeIs slot_tuple_getitem.lookup
    (getItem_tuple (j := j) (Q := fun r s' => r = w ∧ EP X pins σ Q r s') pl (by omega) (by omega) (by rw [List.size_toArray, ← hl]; exact h1) (by simpa using ew) ⟨rfl, fin⟩) hs
theorem ix_str : IxR X rIxS := by
  intro value slice pins s σ H x y v u Q I rx ry h hs
  obtain ⟨z, i, c, rfl, rfl, hz, he, q⟩ := h
  obtain ⟨t, rfl⟩ := rx
  obtain ⟨t', rfl⟩ := ry
  obtain ⟨j, h1, h2, h3, h4, h5⟩ := atI_get he
  have hl : z.cps.toList.length = z.length := by simp [Str.length]
  rw [hl] at h1 h4 h5
  have hn := line63
  exact tail_any (typeIs_str s z t) slot_str_getitem.lookup (getItem_str (c := c) (by
    have e1 : decide (i < -(2 ^ 63 : Int)) = false := decide_eq_false (by omega)
    have e2 : decide (i ≥ 2 ^ 63) = false := decide_eq_false (by omega)
    rw [e1, e2, Bool.or_false]) (by rw [h1]; simpa using h2) ⟨.str ⟨#[c]⟩, H, I.tok _, ⟨_, rfl⟩, q⟩) hs
/-- list, tuple or str -/
def rIx (K : PySem.W.Frag) : R2 := fun x y H Q => rIxL K x y H Q ∨ rIxT K x y H Q ∨ rIxS x y H Q
/-! ### xs[i] = v, any sign -/
def rSetL : V → V → V → Hp → (Hp → Prop) → Prop := fun o i v H Q => ∃ p xs k j, o = .ref p ∧ i = .int k ∧ H p = some (.lst xs) ∧ ixN xs.length k = some j ∧ Q (upd H p (.lst (xs.set j v)))
/-! ### slices -/
/-- xs[lo:hi] of a list: a new list -/
def rSlL (K : PySem.W.Frag) : V → Option Int → Option Int → Hp → VK → Prop := fun x lo hi H Q => ∃ a xs, x = .ref a ∧ SqL K H a xs ∧ ∀ p, H p = none → Q (.ref p) (upd H p (.lst (cutV xs lo hi)))
/-! ### in, not in: flat items -/
def flatV : V → Bool
  | .non => true
  | .bl _ => true
  | .int _ => true
  | .str _ => true
  | _ => false
/-- == of flat values -/
def eqV : V → V → Bool
  | .non, .non => true
  | .bl a, .bl b => a == b
  | .bl a, .int b => (if a then 1 else 0) == b
  | .int a, .bl b => a == (if b then 1 else 0)
  | .int a, .int b => a == b
  | .str a, .str b => a == b
  | _, _ => false
theorem eqAt_V {A : Around} {s : Shared} {y x : V} {u v : Value} (ry : RelV y u) (rx : RelV x v) (fy : flatV y = true) (fx : flatV x = true) : SeqAt.EqAt A s u v (eqV y x) := by
  cases y with
  | non =>
    cases ry
    cases x with
    | non => cases rx; exact SeqAt.EqAt.same _
    | bl b => cases rx; exact SeqAt.EqAt.none_bool b
    | int b => obtain ⟨t, rfl⟩ := rx; exact SeqAt.EqAt.none_int b t
    | str b => obtain ⟨t, rfl⟩ := rx; exact SeqAt.EqAt.none_str b t
    | _ => exact absurd (show false = true from fx) Bool.false_ne_true
  | bl a =>
    cases ry
    cases x with
    | non => cases rx; exact SeqAt.EqAt.bool_none a
    | bl b => cases rx; exact SeqAt.EqAt.bool_bool a b
    | int b => obtain ⟨t, rfl⟩ := rx; exact SeqAt.EqAt.bool_int a b t
    | str b => obtain ⟨t, rfl⟩ := rx; exact SeqAt.EqAt.bool_str a b t
    | _ => exact absurd (show false = true from fx) Bool.false_ne_true
  | int a =>
    obtain ⟨t', rfl⟩ := ry
    cases x with
    | non => cases rx; exact SeqAt.EqAt.int_none a t'
    | bl b => cases rx; exact SeqAt.EqAt.int_bool a t' b
    | int b => obtain ⟨t, rfl⟩ := rx; exact SeqAt.EqAt.int_int a t' b t
    | str b => obtain ⟨t, rfl⟩ := rx; exact SeqAt.EqAt.int_str a t' b t
    | _ => exact absurd (show false = true from fx) Bool.false_ne_true
  | str a =>
    obtain ⟨t', rfl⟩ := ry
    cases x with
    | non => cases rx; exact SeqAt.EqAt.str_none a t'
    | bl b => cases rx; exact SeqAt.EqAt.str_bool a t' b
    | int b => obtain ⟨t, rfl⟩ := rx; exact SeqAt.EqAt.str_int a t' b t
    | str b => obtain ⟨t, rfl⟩ := rx; exact SeqAt.EqAt.str_str a t' b t
    | _ => exact absurd (show false = true from fx) Bool.false_ne_true
  | _ => exact absurd (show false = true from fy) Bool.false_ne_true
/-- the items' answers, read off the values (a value's own answer does not lean on its token) -/
def eqU (x : V) (u : Value) : Bool := match u with
  | .none => eqV .non x
  | .bool b => eqV (.bl b) x
  | .int i _ => eqV (.int i) x
  | .str z _ => eqV (.str z) x
  | _ => false
theorem eqU_of {x y : V} {u : Value} (r : RelV y u) (f : flatV y = true) : eqU x u = eqV y x := by
  cases y with
  | non => cases r; rfl
  | bl b => cases r; rfl
  | int i => obtain ⟨t, rfl⟩ := r; rfl
  | str z => obtain ⟨t, rfl⟩ := r; rfl
  | _ => exact absurd (show false = true from f) Bool.false_ne_true
theorem any_eqU {x : V} : ∀ {xs : List V} {us : List Value}, Vals xs us → xs.all flatV = true → us.any (eqU x) = xs.any fun y => eqV y x
  | _, _, .nil, _ => rfl
  | y :: xs, u :: us, .cons r t, f => by
    rw [List.all_cons, Bool.and_eq_true] at f
    rw [List.any_cons, List.any_cons, eqU_of r f.1, any_eqU t f.2]
theorem mem_eqAt {A : Around} {s : Shared} {x : V} {v : Value} (rx : RelV x v) (fx : flatV x = true) : ∀ {xs : List V} {us : List Value}, Vals xs us → xs.all flatV = true → ∀ u ∈ us, SeqAt.EqAt A s u v (eqU x u)
  | _, _, .nil, _ => fun u hu => by cases hu
  | y :: xs, u :: us, .cons r t, f => fun u' hu => by
    rw [List.all_cons, Bool.and_eq_true] at f
    rcases List.mem_cons.mp hu with rfl | hu
    · rw [eqU_of r f.1]; exact eqAt_V r rx f.1 fx
    · exact mem_eqAt rx fx t f.2 u' hu
def inV (x : V) (xs : List V) : Bool := xs.any fun y => eqV y x
/-- x in a list or tuple of flat items -/
def rIn (K : PySem.W.Frag) (neg : Bool) : R2 := fun x y H Q => ∃ p xs, y = .ref p ∧ (SqL K H p xs ∨ SqT K H p xs) ∧ flatV x = true ∧ xs.all flatV = true ∧ Q (.bl (if neg then !inV x xs else inV x xs)) H
theorem op_in_seq : OpR X (compareOp .In) (rIn X.K false) := by
  intro pins s σ H x y v u Q I rx ry h
  obtain ⟨p, xs, rfl, hq, fx, fs, q⟩ := h
  cases ry
  rcases hq with hq | hq
  · obtain ⟨its, r, pl, hz⟩ := I.list hq
    refine SeqAt.in_listAt (eqU x) pl.isList (fun w hw => mem_eqAt rx fx r fs w (by simpa using hw)) ⟨.bl _, H, I, rfl, ?_⟩
    rw [show its.toArray.any (eqU x) = its.any (eqU x) by simp, any_eqU r fs]
    exact q
  · obtain ⟨its, r, pl, hz⟩ := I.tuple hq
    refine SeqAt.in_tupleAt (eqU x) pl (fun w hw => mem_eqAt rx fx r fs w (by simpa using hw)) ⟨.bl _, H, I, rfl, ?_⟩
    rw [show its.toArray.any (eqU x) = its.any (eqU x) by simp, any_eqU r fs]
    exact q
theorem op_notIn_seq : OpR X (compareOp .NotIn) (rIn X.K true) := by
  intro pins s σ H x y v u Q I rx ry h
  obtain ⟨p, xs, rfl, hq, fx, fs, q⟩ := h
  cases ry
  rcases hq with hq | hq
  · obtain ⟨its, r, pl, hz⟩ := I.list hq
    refine SeqAt.notIn_listAt (eqU x) pl.isList (fun w hw => mem_eqAt rx fx r fs w (by simpa using hw)) ⟨.bl _, H, I, rfl, ?_⟩
    rw [show its.toArray.any (eqU x) = its.any (eqU x) by simp, any_eqU r fs]
    exact q
  · obtain ⟨its, r, pl, hz⟩ := I.tuple hq
    refine SeqAt.notIn_tupleAt (eqU x) pl (fun w hw => mem_eqAt rx fx r fs w (by simpa using hw)) ⟨.bl _, H, I, rfl, ?_⟩
    rw [show its.toArray.any (eqU x) = its.any (eqU x) by simp, any_eqU r fs]
    exact q
/-! ### len, list(x), tuple(x) of any list or tuple that is read -/
theorem call_len_seq : CallR X (.builtin "len") (fun xs H Q => ∃ p ys, xs = [.ref p] ∧ (SqL X.K H p ys ∨ SqT X.K H p ys) ∧ Q (.int ys.length) H) := by
  intro pins s σ H xs us Q I r h
  obtain ⟨p, ys, rfl, hq, q⟩ := h
  obtain ⟨u, rfl, rx⟩ := vals1 r
  cases rx
  have hn := line63
  rcases hq with hq | hq
  · obtain ⟨its, r', pl, hz⟩ := I.list hq
    have hlen := r'.length
    exact Calls.call_len_list pl.isList (by simp only [List.size_toArray] <;> omega) ⟨.int ys.length, H, I.tok _, ⟨s.toks + 1, by rw [List.size_toArray, hlen]⟩, q⟩
  · obtain ⟨its, r', pl, hz⟩ := I.tuple hq
    have hlen := r'.length
    exact len_tuple pl (by simp only [List.size_toArray] <;> omega) ⟨.int ys.length, H, I.tok _, ⟨s.toks + 1, by rw [List.size_toArray, hlen]⟩, q⟩
theorem call_len_str : CallR X (.builtin "len") (fun xs H Q => ∃ z, xs = [.str z] ∧ z.length ≤ sizeLine ∧ Q (.int z.length) H) := by
  intro pins s σ H xs us Q I r h
  obtain ⟨z, rfl, hz, q⟩ := h
  obtain ⟨u, rfl, t, rfl⟩ := vals1 r
  have hn := line63
  exact len_str (by omega) ⟨.int z.length, H, I.tok _, ⟨_, rfl⟩, q⟩
theorem CallR.or {f : Value} {r r' : List V → Hp → VK → Prop} (h : CallR X f r) (h' : CallR X f r') : CallR X f (fun xs H Q => r xs H Q ∨ r' xs H Q) := by
  intro pins s σ H xs us Q I rs q
  rcases q with q | q
  · exact h pins s σ H xs us Q I rs q
  · exact h' pins s σ H xs us Q I rs q
/-! ### the call of a builtin's method: o.m(..) -/
/-- the value is of that builtin type -/
def tyV (K : PySem.W.Frag) (T : String) (x : V) (H : Hp) : Prop := match x with
  | .str _ => T = "str"
  | .int _ => T = "int"
  | .ref p => (T = "list" ∧ ∃ xs, SqL K H p xs) ∨ (T = "tuple" ∧ ∃ o, K.lookup p = some o ∧ o.cls = .type "tuple" ∧ o.dict = none) ∨
      (T = "dict" ∧ ((∃ kvs, H p = some (.dK kvs)) ∨ ∃ kvs, H p = some (.dT kvs))) ∨ (T = "set" ∧ ∃ S n, H p = some (.set S n))
  | _ => False
theorem tyV_is {pins : List (Addr × Obj)} {σ : St} {H : Hp} {s : Shared} {T : String} {x : V} {v : Value} (I : Inv X pins σ H s) (r : RelV x v) (ty : tyV X.K T x H) :
    s.TypeIs v T ∧ ∀ a, v = .ref a → ∃ ob, s.heap.get? a = some ob ∧ ob.dict = none := by
  cases x with
  | str z =>
    obtain ⟨t, rfl⟩ := r
    cases (show T = "str" from ty)
    exact ⟨typeIs_str s z t, fun _ e => nomatch e⟩
  | int i =>
    obtain ⟨t, rfl⟩ := r
    cases (show T = "int" from ty)
    exact ⟨typeIs_int s i t, fun _ e => nomatch e⟩
  | ref p =>
    cases r
    rcases ty with ⟨rfl, xs, hq⟩ | ⟨rfl, o, hk, hc, hd⟩ | ⟨rfl, hk⟩ | ⟨rfl, S, n, hk⟩
    · obtain ⟨its, _, pl, _⟩ := I.list hq
      refine ⟨pl.isList.typeIs, fun a e => ?_⟩
      cases e
      obtain ⟨o, n, e, c, hd, _⟩ := pl
      exact ⟨o, e, hd⟩
    · refine ⟨⟨o, I.kIn p o hk, hc⟩, fun a e => ?_⟩
      cases e
      exact ⟨o, I.kIn _ o hk, hd⟩
    · have z : ∃ o, s.heap.get? p = some o ∧ o.ExactDict := by
        rcases hk with ⟨kvs, hk⟩ | ⟨kvs, hk⟩
        · obtain ⟨_, _, _, _, o, _, _, e, ex, _⟩ := I.hok p _ hk
          exact ⟨o, e, ex⟩
        · obtain ⟨_, _, _, _, o, _, _, e, ex, _⟩ := I.hok p _ hk
          exact ⟨o, e, ex⟩
      obtain ⟨o, e, ex⟩ := z
      refine ⟨⟨o, e, ex.1⟩, fun a e2 => ?_⟩
      cases e2
      exact ⟨o, e, ex.2.1⟩
    · obtain ⟨o, _, _, _, e, ex, _⟩ := I.hok p _ hk
      refine ⟨⟨o, e, ex.1⟩, fun a e2 => ?_⟩
      cases e2
      exact ⟨o, e, ex.2.1⟩
  | _ => exact False.elim ty
def tBM0 (K : PySem.W.Frag) (T : String) (r : V → List V → Hp → VK → Prop) (to : TE) : TE := fun σ H Q => to σ H fun x H1 => tyV K T x H1 ∧ r x [] H1 Q
def tBM (K : PySem.W.Frag) (T : String) (r : V → List V → Hp → VK → Prop) (to : TE) (t : TA) : TE := fun σ H Q => to σ H fun x H1 => tyV K T x H1 ∧ t σ H1 fun xs H2 => r x xs H2 Q
variable {o e : Expr} {es : List Expr} {to : TE} {t : TA} {name : Str} {apos cpos : Pos} {T id : String} {r : V → List V → Hp → VK → Prop}
theorem pe_bm0 (pa : PlainAttrs T) (slot : Slot T name id) (hty : typeOf (.builtin id) = pure (.type "method_descriptor")) (hm : MtR X id r) (ho : PE X o to)
    (hbase : attributeBase o name X.env (eval o X.env) = eval o X.env := by rfl) (hline : (apos.endLine == cpos.line) = true := by rfl) : PE X (.Call (.Attribute o name apos) [] [] cpos) (tBM0 X.K T r to) := by
  intro pins s σ H Q I h
  refine wpAny_Call_method0_late hbase hline (thn (ho pins s σ H _ I h) fun v s1 ⟨x, H1, I1, r1, ty, q1⟩ => ?_)
  obtain ⟨h1, h2⟩ := tyV_is I1 r1 ty
  exact ⟨T, id, pa, slot, hty, h1, h2, Calls.callWith_builtin rfl (PySem.evalArgs_none (hm pins s1 σ H1 x [] v [] Q I1 r1 .nil q1))⟩
theorem pe_bm (pa : PlainAttrs T) (slot : Slot T name id) (hty : typeOf (.builtin id) = pure (.type "method_descriptor")) (hm : MtR X id r) (ho : PE X o to) (ha : PA X (e :: es) t)
    (hbase : attributeBase o name X.env (eval o X.env) = eval o X.env := by rfl)
    (hfew : ((backTo cpos (starEach (e :: es) X.env)).all (fun x => !x.1) && (backToKw cpos (keywordEach [] X.env)).all (fun x => x.1.isSome)
      && decide ((e :: es).length + ([] : List Keyword).length + (if ([] : List Keyword).isEmpty then 0 else 1) < 30)) = true := by rfl)
    (hline : (apos.endLine == cpos.line) = true := by rfl) (hs : starEach (e :: es) X.env = (false, eval e X.env) :: starEach es X.env := by rfl) (hplain : (backTo cpos (starEach es X.env)).any (·.1) = false := by rfl) :
    PE X (.Call (.Attribute o name apos) (e :: es) [] cpos) (tBM X.K T r to t) := by
  intro pins s σ H Q I h
  refine wpAny_Call_method_late hbase hfew hline rfl (thn (ho pins s σ H _ I h) fun v s1 ⟨x, H1, I1, r1, ty, q1⟩ => ?_)
  obtain ⟨h1, h2⟩ := tyV_is I1 r1 ty
  refine ⟨T, id, pa, slot, hty, h1, h2, ?_⟩
  have hA := ha cpos pins s1 σ H1 _ I1 q1
  rw [hs] at hA ⊢
  refine Calls.callWith_builtin (by show (false || (backTo cpos (starEach es X.env)).any (·.1)) = false; rw [hplain] <;> rfl) (Calls.evalArgs_plain ?_)
  exact thn hA fun us s2 ⟨vs, H2, I2, r2, q2⟩ => hm pins s2 σ H2 x vs v us Q I2 r1 r2 q2
/- xs.append(e), list.index on a module's tuple .. are MtR facts of 06m -/
end
end L2

namespace L2
open PySem PySem.Spec PyProof.Rows

def MtM (X : Cx) (id : String) (r : V → List V → Hp → VK → Prop) : Prop :=
  ∀ (pins : List (Addr × Obj)) (s : Shared) (σ : St) (H : Hp) (x : V) (xs : List V) (v : Value) (us : List Value) (Q : VK), Inv X pins σ H s → RelV x v → Vals xs us → r x xs H Q →
    wpAny (model X.prog X.w) X.A (call (.builtin id) (v :: us)) (EP X pins σ Q) X.xe s

/-! ### lists of values -/
theorem Vals.one : ∀ {x : V} {us : List Value}, Vals [x] us → ∃ u, us = [u] ∧ RelV x u
  | _, _, .cons r .nil => ⟨_, rfl, r⟩
theorem Vals.two : ∀ {x y : V} {us : List Value}, Vals [x, y] us → ∃ u v, us = [u, v] ∧ RelV x u ∧ RelV y v
  | _, _, _, .cons r (.cons q .nil) => ⟨_, _, rfl, r, q⟩
theorem Vals.rep {xs : List V} {us : List Value} (h : Vals xs us) : ∀ k : Nat, Vals (List.replicate k xs).flatten (List.replicate k us).flatten
  | 0 => .nil
  | k + 1 => by
    rw [List.replicate_succ, List.replicate_succ, List.flatten_cons, List.flatten_cons]
    exact Vals.append h (Vals.rep h k)
theorem foldl_rep (its : List Value) : ∀ (k : Nat) (acc : List Value),
    List.foldl (fun x1 x2 => x1 ++ x2) acc.toArray (List.replicate k its.toArray) = (acc ++ (List.replicate k its).flatten).toArray
  | 0, acc => by simp
  | k + 1, acc => by
    have e : acc.toArray ++ its.toArray = (acc ++ its).toArray := by simp
    have e2 : (acc ++ its) ++ (List.replicate k its).flatten = acc ++ (List.replicate (k + 1) its).flatten := by
      rw [List.replicate_succ, List.flatten_cons, List.append_assoc]
    rw [← e2, ← foldl_rep its k (acc ++ its), ← e, List.replicate_succ, List.foldl_cons]

section
variable {X : Cx} {pins : List (Addr × Obj)} {σ : St} {H : Hp} {s : Shared} {l b : Addr} {xs ys zs : List V}

/-! ### the two steps: a tracked list is rewritten, a new list is laid -/
theorem Inv.lset {its its' : List Value} {n : Nat} {f : Array Value → Array Value} {t' : Nat} (I : Inv X pins σ H s) (hH : H l = some (.lst xs))
    (e : s.heap.get? l = some { cls := .type "list", data := .seq its.toArray n }) (hf : f its.toArray = its'.toArray) (hv : Vals ys its') (hz : ys.length ≤ sizeLine) :
    Inv X pins σ (upd H l (.lst ys)) { s with heap := s.heap.update l (Obj.mapSeq f), toks := t' } := by
  have q := PySem.IsL.update e f
  rw [hf] at q
  refine I.write (x := l) (e := l) (by rw [hH]; exact trivial) (.inl rfl) (fun b' u hb hu => (Heap.get?_update_other s.heap (Obj.mapSeq f) (Ne.symm hb)).trans hu) ⟨_, q⟩ ?_
  exact ⟨hz, its', _, hv, q⟩
theorem Inv.lnew {its : List Value} {t' : Nat} (I : Inv X pins σ H s) (hv : Vals ys its) (hz : ys.length ≤ sizeLine) :
    Inv X pins σ (upd H s.heap.objs.size (.lst ys)) { s with heap := s.heap.push { cls := .type "list", data := .seq its.toArray }, toks := t' } :=
  I.laid (fun _ _ q => Heap.get?_push_of_some _ q) (Nat.le_refl _) ⟨hz, its, 0, hv, Heap.get?_push_size _ rfl⟩
theorem Inv.fresh (I : Inv X pins σ H s) : H s.heap.objs.size = none := I.hok.fresh (Nat.le_refl _)
theorem Inv.lstM (I : Inv X pins σ H s) (hH : H l = some (.lst xs)) : xs.length ≤ sizeLine ∧ ∃ (its : List Value) (n : Nat), Vals xs its ∧ xs.length = its.length ∧ s.heap.get? l = some { cls := .type "list", data := .seq its.toArray n } := by
  obtain ⟨z, its, n, r, e⟩ := I.hok l _ hH
  exact ⟨z, its, n, r, r.length, e⟩

theorem notLongL {n : Nat} (h : n ≤ sizeLine) : Builtin.List.listTooLong n = false := by
  unfold Builtin.List.listTooLong
  exact decide_eq_false (by omega)
end

section
variable {X : Cx}

/-! ### methods -/
def rAppend : V → List V → Hp → VK → Prop := fun x vs H Q => ∃ l xs y, x = .ref l ∧ vs = [y] ∧ H l = some (.lst xs) ∧ xs.length < sizeLine ∧ Q .non (upd H l (.lst (xs ++ [y])))
theorem mt_append : MtM X "list.append" rAppend := by
  intro pins s σ H x vs v us Q I rx rv h
  obtain ⟨l, xs, y, rfl, rfl, hH, hz, q⟩ := h
  cases rx
  obtain ⟨u, rfl, ru⟩ := rv.one
  obtain ⟨z, its, n, r, hl, e⟩ := I.lstM hH
  refine call_meets F.slot_list_append ⟨_, e, rfl⟩ F.entry_list_append (F.args_list_append_2 _ _) (PySem.list_append l its.toArray n u (by rw [List.size_toArray]; omega)) ⟨e, ?_⟩
  refine ⟨.non, _, I.lset (its' := its ++ [u]) hH e (by simp) (r.append (.cons ru .nil)) ?_, rfl, q⟩
  rw [List.length_append, List.length_singleton]
  omega

def rExtend : V → List V → Hp → VK → Prop := fun x vs H Q => ∃ l b xs zs, x = .ref l ∧ vs = [.ref b] ∧ H l = some (.lst xs) ∧ H b = some (.lst zs) ∧ xs.length + zs.length ≤ sizeLine ∧ Q .non (upd H l (.lst (xs ++ zs)))
def rPop : V → List V → Hp → VK → Prop := fun x vs H Q => ∃ l xs y, x = .ref l ∧ vs = [] ∧ H l = some (.lst xs) ∧ xs[xs.length - 1]? = some y ∧ Q y (upd H l (.lst xs.dropLast))
def rPopAt : V → List V → Hp → VK → Prop := fun x vs H Q => ∃ l xs i k y, x = .ref l ∧ vs = [.int i] ∧ H l = some (.lst xs) ∧ -(2 ^ 63) ≤ i ∧ i < 2 ^ 63 ∧ seqIndex? i xs.length = some k ∧ xs[k]? = some y ∧ Q y (upd H l (.lst (xs.eraseIdx k)))
def rReverse : V → List V → Hp → VK → Prop := fun x vs H Q => ∃ l xs, x = .ref l ∧ vs = [] ∧ H l = some (.lst xs) ∧ Q .non (upd H l (.lst xs.reverse))
def rClear : V → List V → Hp → VK → Prop := fun x vs H Q => ∃ l xs, x = .ref l ∧ vs = [] ∧ H l = some (.lst xs) ∧ Q .non (upd H l (.lst []))
/-! ### list + list, list += list, list * int -/
def rCat : R2 := fun x y H Q => ∃ l b xs zs, x = .ref l ∧ y = .ref b ∧ H l = some (.lst xs) ∧ H b = some (.lst zs) ∧ xs.length + zs.length ≤ sizeLine ∧ ∀ p, H p = none → Q (.ref p) (upd H p (.lst (xs ++ zs)))
theorem op_cat : OpR X (binaryOp .Add) rCat := by
  intro pins s σ H x y v u Q I rx ry h
  obtain ⟨l, b, xs, zs, rfl, rfl, hH, hB, hz, q⟩ := h
  cases rx
  cases ry
  obtain ⟨z, its, n, r, hl, e⟩ := I.lstM hH
  obtain ⟨z2, its2, n2, r2, hl2, e2⟩ := I.lstM hB
  refine PySem.P.add_list e e2 ?_ (by rw [List.size_toArray, List.size_toArray]; omega)
  have ea : its.toArray ++ its2.toArray = (its ++ its2).toArray := by simp
  rw [ea]
  exact ⟨.ref _, _, I.lnew (t' := s.toks) (r.append r2) (by rw [List.length_append]; omega), rfl, q _ I.fresh⟩
/-- a list times an int (a negative one is nothing) -/
def rRep : R2 := fun x y H Q => ∃ l k xs, x = .ref l ∧ y = .int k ∧ H l = some (.lst xs) ∧ -(2 ^ 63) ≤ k ∧ k < 2 ^ 63 ∧ xs.length * k.toNat ≤ sizeLine ∧
  ∀ p, H p = none → Q (.ref p) (upd H p (.lst (List.replicate k.toNat xs).flatten))
theorem len_rep {α : Type} (xs : List α) (k : Nat) : (List.replicate k xs).flatten.length = k * xs.length := by
  induction k with
  | zero => simp
  | succ k ih => rw [List.replicate_succ, List.flatten_cons, List.length_append, ih, Nat.succ_mul, Nat.add_comm]
theorem op_rep : OpR X (binaryOp .Mult) rRep := by
  intro pins s σ H x y v u Q I rx ry h
  obtain ⟨l, k, xs, rfl, rfl, hH, h1, h2, hz, q⟩ := h
  cases rx
  obtain ⟨t, rfl⟩ := ry
  obtain ⟨z, its, n, r, hl, e⟩ := I.lstM hH
  have hlen : its.toArray.size * k.toNat ≤ sizeLine := by rw [List.size_toArray, ← hl]; exact hz
  have hcap : ¬ its.toArray.size * k.toNat > (2 ^ 63 - 1) / 8 := by
    have : (sizeLine : Nat) ≤ (2 ^ 63 - 1) / 8 := by decide
    omega
  have hfit : ¬ (!Builtin.List.listFitsIndex k) = true := by
    rw [fitsIndex_both h1 h2]
    exact Bool.false_ne_true
  have hlong : ¬ Builtin.List.listTooLong (its.toArray.size * k.toNat) = true := by
    rw [notLongL hlen]
    exact Bool.false_ne_true
  have hnew : List.foldl (fun x1 x2 => x1 ++ x2) #[] (List.replicate (if its.toArray.isEmpty = true then 0 else k.toNat) its.toArray) = (List.replicate k.toNat its).flatten.toArray := by
    have f0 : ∀ m : Nat, List.foldl (fun x1 x2 => x1 ++ x2) #[] (List.replicate m its.toArray) = (List.replicate m its).flatten.toArray := fun m => by
      have := foldl_rep its m []
      rw [List.nil_append] at this
      exact this
    rw [f0]
    cases its with
    | nil => simp
    | cons a r' => rw [if_neg (by simp)]
  refine wpAny_binaryOp_repeat_ref (T := "list") (U := "int") (by decide) ⟨_, e, rfl⟩ (fun s' => typeIs_int s' k t) noFill_list_mul F.fills_int_mul F.slot_int_rmul repeat_list F.slot_int_index.lookup
    (call_meets F.slot_int_rmul (typeIs_int s k t) F.entry_int_rmul (F.args_int_rmul_2 _ _) (int___rmul___int_list k t l its.toArray n)
      ⟨e, rfl, ⟨_, e, rfl⟩, call_meets F.slot_list_mul ⟨_, e, rfl⟩ F.entry_list_mul (F.args_list_mul_2 _ _) (AutoListH.list___mul___list_int_3 l its.toArray n k t hfit hcap hlong) ⟨e, ?_⟩⟩)
  rw [hnew]
  exact ⟨.ref _, _, I.lnew (t' := s.toks) (r.rep k.toNat) (by rw [len_rep, Nat.mul_comm]; exact hz), rfl, q _ I.fresh⟩

/-! ### del xs[i] -/
end

/-! ### xs[a:b] = ys -/
section
variable {prog : Program} {w : World} {A : Around} {E : Value → Shared → Prop} {s : Shared}
end

section
variable {X : Cx}
end
end L2

namespace Att
open PySem PySem.W PySem.Calls PyProof.Rows

/-! ### the script -/
theorem ints_of_wellAll {P : Params} {h : Heap} : ∀ (ns : List Int) (vs : List Value), WellAll P h vs (ns.map WData.int) → IntsAre vs ns := by
  intro ns
  induction ns with
  | nil =>
    intro vs w
    rw [List.map_nil] at w
    cases w
    exact .nil
  | cons n ns ih =>
    intro vs w
    rw [List.map_cons] at w
    cases w with
    | cons a b =>
      cases a
      exact .cons _ _ (ih _ b)

theorem script_of {l : OpenLaw} {n : Nat} (hn : l.most = some n) {P : Params} {h : Heap} {args : List WData} {vals : List Value}
    (hpre : l.row.toRowW.claim.pre args = true) (hwl : WellAll P h vals args) :
    ∃ a vs ns, vals = [Value.ref a] ∧ args = [WData.list (ns.map WData.int)] ∧ h.get? a = some { cls := .type "list", data := .seq vs.toArray } ∧ IntsAre vs ns ∧ ns.length ≤ n := by
  have hsh : WShape.hasAll [] args [.list .int] = true := (pre_splitW hpre).1
  have hc : l.pre.holds [] { args := args } = true := (pre_splitW hpre).2
  obtain ⟨d, r, rfl, h1, h2⟩ := hasAllW_cons hsh
  obtain rfl := hasAllW_nil h2
  obtain ⟨xs, rfl, h3⟩ := hasW_list h1
  obtain ⟨ns, rfl⟩ := items_int h3
  have hlen : ns.length ≤ n := by
    unfold OpenLaw.pre at hc
    have h4 : (WTm.not (.lt (.lit (.int (n : Int))) (.len (.arg 0)))).holds [] { args := [.list (ns.map .int)] } = true := by
      have h4 := (holds_andW hc).1
      rw [hn] at h4
      exact h4
    have h5 := condW_of h4 (w_not (w_lt w_lit (w_len_list (w_arg rfl))))
    rw [List.length_map] at h5
    refine Nat.le_of_not_lt fun q => ?_
    have q' : (n : Int) < ((ns.length : Nat) : Int) := by omega
    first
      | (rw [decide_eq_true q'] at h5; exact absurd h5 (by decide))
      | (simp at h5; omega)
  cases hwl with
  | cons w1 w2 =>
    cases w2
    cases w1 with
    | list ho hall => exact ⟨_, _, ns, rfl, rfl, ho, ints_of_wellAll ns _ hall, hlen⟩

theorem post_true (l : OpenLaw) (args : List WData) : l.row.toRowW.claim.post args (.bool true) args = true :=
  postW_of (r := l.row.toRowW) (X := (true == true))
    (show WShape.has [] (.bool true) .bool = true by first | rfl | decide | simp [WShape.has, WShape.arms, WShape.armsAll])
    (show (WTm.eq .res (.lit (.bool true))).value [] { args := args, res := some (.bool true), after := args } = some (.bool (true == true)) from w_eq_bool (w_res rfl) w_lit) rfl

/-! ### the attachment: holds_open's last premise (the goal 'hc' behind k_head) from a wpAny of the law's body -/
theorem weight_item {ns : List Int} {i : Int} (hi : i ∈ ns) : WData.weight (.int i) ≤ WData.weightAll (ns.map WData.int) := by
  induction ns with
  | nil => cases hi
  | cons a r ih =>
    rw [List.map_cons, WData.weightAll]
    rcases List.mem_cons.mp hi with rfl | h
    · omega
    · have := ih h
      omega
theorem bits_script {ns : List Int} (h : WData.layableAll [WData.list (ns.map WData.int)] = true) : ∀ i ∈ ns, Builtin.Int.intBits i ≤ 1048576 := by
  intro i hi
  have h1 : (WData.list (ns.map WData.int)).layable = true := List.all_eq_true.mp h _ List.mem_cons_self
  have h2 : WData.weight (.list (ns.map WData.int)) ≤ 2 ^ 20 := by
    have h3 := (Bool.and_eq_true_iff.mp h1).2
    exact of_decide_eq_true h3
  rw [WData.weight] at h2
  have h4 := weight_item hi
  have h5 : WData.weight (.int i) = Builtin.Int.intBits i := by rw [WData.weight]; rfl
  rw [h5] at h4
  have e : (2 : Nat) ^ 20 = 1048576 := by decide
  omega
/-- the same from a codeAny of the CALL (for a layer whose function contracts speak of calls) -/
theorem attach_call {l : OpenLaw} {n : Nat} {q : Program} {loose : List Str} {XP : (Str → Option Value) → Heap → Prop} {YP : World → Heap → Prop} {d : DefRec}
    (hn : l.most = some n) (hdf : d.params.defaults = [])
    (call : ∀ (w : World) (s₀ s₁ : Shared) (mg mb : Str → Option Value) (fa : Addr) (o : Obj) (pm cd doc : Value) (a : Addr) (vs : List Value) (ns : List Int),
      Ground q loose [] XP w s₀ mg mb s₁.heap → YP w s₁.heap →
      s₁.heap.get? fa = some o → o.data = .func (docDef d.name d.params d.body d.scope pm cd doc) → s₁.heap.CodeRec cd d.name → mg d.name = some (.ref fa) →
      s₁.heap.get? a = some { cls := .type "list", data := .seq vs.toArray } → IntsAre vs ns → ns.length ≤ n → s₁.gens = #[] → (∀ i ∈ ns, Builtin.Int.intBits i ≤ 1048576) →
      codeAny (model l.prog w) callerA (.call (.ref fa) ⟨[.ref a], []⟩) (fun r s' => r = .ok (.ret (.bool true)) ∧ OldK s₁.heap s'.heap ∧ s'.os = s₁.os ∧ AllBare s'.gens) s₁) :
    WalkO q loose XP YP l.row.toRowW d [] (fun f vs => PySem.call f vs) := by
  intro w s₀ s₁ mg mb G Y fa o pm cd doc dV kV ho hd hcd hD hmg hg args vals as hpre hlay hrd hwl hlo
  obtain rfl : dV = .none := Dflts.none hD hdf
  obtain rfl : kV = .none := Dflts.noKw hD
  obtain ⟨a, vs, ns, rfl, rfl, hobj, hints, hlen⟩ := script_of hn hpre hwl
  refine enter_call (codeAny_mono (call w s₀ s₁ mg mb fa o pm cd doc a vs ns G Y ho (fd_plain hd) hcd hmg hobj hints hlen hg (bits_script hlay)) fun r s' hq => ?_)
  obtain ⟨rfl, h2, h3, h4⟩ := hq
  exact ⟨.inl ⟨.bool true, .bool true, [], rfl, fun _ => rfl, .bool true, post_true l _, fun _ => ⟨List.Pairwise.nil, fun _ hm => (nomatch hm)⟩⟩, h2, h3, h4⟩

/-! ### rules over ANY heap (no ledger) from facts about the written part K: the library's own take a ledger (News) for what they write -/
section
variable {prog : Program} {w : World} {A : Around} {E : Value → Shared → Prop} {s : Shared} {K : Frag}

/-! the whole heap as the ledger: makes every rule that writes through a ledger a rule over any heap -/
def noObjs (h : Heap) : Heap := { h with objs := #[] }
def ledger (h : Heap) (L d : Addr) : List (Addr × Obj) := (List.range h.objs.size).filterMap fun a => if a = L ∨ a = d then none else (h.get? a).map fun o => (a, o)
end
end Att

namespace L2
open PySem PySem.Spec PyProof.Rows

theorem vals_ints : ∀ {vs : List Value} {ns : List Int}, IntsAre vs ns → Vals (ns.map V.int) vs
  | _, _, .nil => .nil
  | _, _, .cons n t h => .cons ⟨t, rfl⟩ (vals_ints h)

/-- nothing is tracked but the script, known to the object (or it is an object of the module) -/
def Only (H : Hp) : Prop := ∀ b, H b = none ∨ ∃ o xs, H b = some (.frz o (.lst xs))

/-- THE HEAD: the law's promise, at the heap behind the top. F, the promise of the law's def, may use that base is part of the heap (so K.In base, base.Ns mainGlobals mg stand in Mod) -/
theorem law_call {P : Program} {w : World} {K : PySem.W.Frag} {mg mb : Str → Option Value} {CX : CXT} {k : Nat} {fa a : Addr} {fd : FuncData} {x : Str} {sp : Sp} {s₁ : Shared} {vs : List Value} {ns : List Int}
    (KX : K.In s₁.heap) (hns : s₁.heap.Ns mainGlobals mg) (hb : s₁.heap.Ns builtinsNs mb) (hbb : ∀ x : Str, x ≠ "__name__" → mb x = bootBuiltins x) (hlim : s₁.heap.NoLimit) (hg : s₁.gens = #[])
    (ha : s₁.heap.get? a = some { cls := .type "list", data := .seq vs.toArray }) (hi : IntsAre vs ns) (hl : ns.length ≤ sizeLine) (hr : Room k callerA)
    (F : ∀ base : Heap, K.In base → base.Ns mainGlobals mg → FnOk P w K mg base CX k fa fd [x] sp) (hbind : ∀ (s : Shared) (u : Value), BindsTo s fd ⟨[u], []⟩ [(x, u)])
    (hsp : ∀ H : Hp, Only H → SqL K H a (ns.map V.int) → sp [.ref a] H (fun v _ => v = .bl true) fun _ _ _ => False)
    (hCX : ∀ H e s', CX.cx [] H s₁ (fun _ _ _ => False) e s' → False) (hsm : CX.sm = false) :
    codeAny (model P w) callerA (.call (.ref fa) ⟨[.ref a], []⟩) (fun r s' => r = .ok (.ret (.bool true)) ∧ OldK s₁.heap s'.heap ∧ s'.os = s₁.os ∧ AllBare s'.gens) s₁ := by
  have rv := vals_ints hi
  have lenV := hi.length
  -- from an abstract heap in which nothing but the script may be tracked
  have core : ∀ H : Hp, Only H → SqL K H a (ns.map V.int) → HOk P w H s₁.heap → (∀ b, H b ≠ none → b = a) → (H a ≠ none → K.lookup a = none) →
      codeAny (model P w) callerA (.call (.ref fa) ⟨[.ref a], []⟩) (fun r s' => r = .ok (.ret (.bool true)) ∧ OldK s₁.heap s'.heap ∧ s'.os = s₁.os ∧ AllBare s'.gens) s₁ := by
    intro H hO hS hok hA hK
    have base_of : ∀ {b : Addr} {o : Obj}, s₁.heap.get? b = some o → H b = none → (hidT s₁.heap H).get? b = some o := fun e n => hidT_get e n
    have noA : ∀ {b : Addr} {o : Obj} {es : Array DictEntry} {ep : Nat}, s₁.heap.get? b = some o → o.data = .dict es ep → H b = none := fun {b o es ep} e d => by
      cases q : H b with
      | none => rfl
      | some u =>
        have e' : b = a := hA b (by rw [q]; simp)
        subst e'
        rw [ha] at e; cases e
        have d' : Data.seq vs.toArray _ = Data.dict es ep := d
        cases d'
    have nsK : ∀ {b : Addr} {m : Str → Option Value}, s₁.heap.Ns b m → (hidT s₁.heap H).Ns b m := fun {b m} ⟨o, es, ep, e, d, r⟩ => ⟨o, es, ep, base_of e (noA e d), d, r⟩
    have hKb : K.In (hidT s₁.heap H) := fun b o e => base_of (KX b o e) (by
      cases q : H b with
      | none => rfl
      | some u =>
        have e' : b = a := hA b (by rw [q]; simp)
        subst e'
        rw [hK (by rw [q]; simp)] at e; cases e)
    have hM : Mod K mg (hidT s₁.heap H) := ⟨hKb, nsK hns, ⟨mb, nsK hb, hbb⟩, let ⟨mc, h1, h2⟩ := hlim; ⟨mc, nsK h1, h2⟩⟩
    have e0 : Env0 P w K mg (hidT s₁.heap H) callerA [] s₁ H := ⟨rfl, hM, fun b o e => of_hidT e, Nat.le_of_eq (hidT_size _ _), trivial, fun b hb => absurd (show b ∈ ([] : List Addr) from hb) (by simp), hok, .of_eq hg⟩
    refine codeAny_mono ((F _ hKb (nsK hns)).run callerA [] s₁ H ⟨[.ref a], []⟩ [.ref a] [.ref a] _ _ hr (fun _ => rfl) (fun z => by rw [hsm] at z; cases z) e0 (hbind s₁ (.ref a)) (.cons rfl .nil) (hsp H hO hS)) fun r s' h => ?_
    cases r with
    | error e => exact (hCX H e s' h).elim
    | ok fl =>
      cases fl with
      | next => exact False.elim h
      | brk => exact False.elim h
      | cont => exact False.elim h
      | ret u =>
        obtain ⟨v, H', os, bare, un, hok', r', q⟩ := h
        have q' : v = .bl true := q
        subst q'
        obtain rfl : u = Value.bool true := r'
        refine ⟨rfl, OldK.of_keep fun b o e => ?_, os, bare⟩
        cases q : H b with
        | none => exact un.keep b o e q (by intro z; exact absurd (show b ∈ ([] : List Addr) from z) (by simp)) (by simp)
        | some u =>
          rcases hO b with z | ⟨ob, xs, z⟩
          · rw [q] at z; cases z
          · have z2 := un.frzs b ob _ z
            obtain ⟨e1, _⟩ := hok b _ z
            obtain ⟨e2, _⟩ := hok' b _ z2
            rw [e] at e1; cases e1
            exact e2
  cases hk : K.lookup a with
  | some o =>
    -- the script is one of the module's own objects
    have e := KX a o hk
    rw [ha] at e
    cases e
    refine core (fun _ => none) (fun _ => .inl rfl) (.inr ⟨_, vs.toArray, _, hk, rfl, rfl, rfl, by rw [List.size_toArray, lenV]; exact hl, by simpa using rv⟩) (fun b u z => by have z' : (none : Option HO) = some u := z; cases z') (fun b z => absurd rfl z) fun z => absurd rfl z
  | none =>
    refine core (fun b => if b = a then some (.frz { cls := .type "list", data := .seq vs.toArray } (.lst (ns.map V.int))) else none) (fun b => ?_) (.inl (.inr ⟨{ cls := .type "list", data := .seq vs.toArray }, if_pos rfl⟩)) (fun b u z => ?_) (fun b z => ?_) fun _ => hk
    · by_cases hb : b = a
      · exact .inr ⟨_, _, if_pos hb⟩
      · exact .inl (if_neg hb)
    · by_cases hb : b = a
      · have z' := (if_pos hb).symm.trans z
        cases z'
        subst hb
        exact ⟨ha, by rw [List.length_map]; exact hl, vs, _, rv, ha⟩
      · have z' := (if_neg hb).symm.trans z
        cases z'
    · by_cases hb : b = a
      · exact hb
      · exact absurd (if_neg hb) z
end L2

namespace L2
open PySem PySem.Spec PyProof.Rows

abbrev KOf {K : PySem.W.Frag} {h : Heap} (_ : K.In h) : PySem.W.Frag := K

/-- the goal that k_head leaves (case hc), from the law's promise. F gives the function object fd (K's own) once, then the promise over every base -/
theorem walk_of {l : PySem.W.OpenLaw} {n k : Nat} {q : Program} {loose : List Str} {XP : (Str → Option Value) → Heap → Prop} {YP : World → Heap → Prop} {d : DefRec} {K : Params → PySem.W.Frag} {CX : World → CXT} {sp : World → Sp} {x : Str}
    (hn : l.most = some n) (hn2 : n ≤ sizeLine) (hdf : d.params.defaults = []) (hr : Room k callerA)
    (hY : ∀ (w : World) (h : Heap), YP w h → (K w.params).In h)
    (F : ∀ (w : World) (mg : Str → Option Value) (fa : Addr) (h : Heap), (K w.params).In h → h.Ns mainGlobals mg → mg d.name = some (.ref fa) →
      ∃ fd : FuncData, (∀ (s : Shared) (u : Value), BindsTo s fd ⟨[u], []⟩ [(x, u)]) ∧
        ∀ base : Heap, (K w.params).In base → base.Ns mainGlobals mg → FnOk l.prog w (K w.params) mg base (CX w) k fa fd [x] (sp w))
    (hsp : ∀ (w : World) (H : Hp) (a : Addr) (ns : List Int), ns.length ≤ n → (∀ i ∈ ns, Builtin.Int.intBits i ≤ 1048576) → Only H → SqL (K w.params) H a (ns.map V.int) → sp w [.ref a] H (fun v _ => v = .bl true) fun _ _ _ => False)
    (hCX : ∀ (w : World) (H : Hp) (s : Shared) (e : Value) (s' : Shared), (CX w).cx [] H s (fun _ _ _ => False) e s' → False) (hsm : ∀ w, (CX w).sm = false) :
    PySem.W.WalkO q loose XP YP l.row.toRowW d [] (fun f vs => PySem.call f vs) := by
  refine Att.attach_call hn hdf fun w s₀ s₁ mg mb fa o pm cd doc a vs ns G Y ho hd hcd hmg hobj hints hlen hg hbits => ?_
  have KX := hY w _ Y
  obtain ⟨fd, hb, hF⟩ := F w mg fa _ KX G.T.g hmg
  exact law_call KX G.T.g G.T.b G.T.builtins G.T.nolimit hg hobj hints (Nat.le_trans hlen hn2) hr hF hb (fun H hO hS => hsp w H a ns hlen hbits hO hS) (fun H e s' => hCX w H s₁ e s') (hsm w)
/-- the same where the promise hangs on the written part alone: (sp := My.sp_law), no hole under a binder -/
theorem walk_ofK {l : PySem.W.OpenLaw} {n k : Nat} {q : Program} {loose : List Str} {XP : (Str → Option Value) → Heap → Prop} {YP : World → Heap → Prop} {d : DefRec} {K : Params → PySem.W.Frag} {CX : CXT} {sp : PySem.W.Frag → Sp} {x : Str}
    (hn : l.most = some n) (hn2 : n ≤ sizeLine) (hdf : d.params.defaults = []) (hr : Room k callerA)
    (hY : ∀ (w : World) (h : Heap), YP w h → (K w.params).In h)
    (F : ∀ (w : World) (mg : Str → Option Value) (fa : Addr) (h : Heap), (K w.params).In h → h.Ns mainGlobals mg → mg d.name = some (.ref fa) →
      ∃ fd : FuncData, (∀ (s : Shared) (u : Value), BindsTo s fd ⟨[u], []⟩ [(x, u)]) ∧
        ∀ base : Heap, (K w.params).In base → base.Ns mainGlobals mg → FnOk l.prog w (K w.params) mg base CX k fa fd [x] (sp (K w.params)))
    (hsp : ∀ (K : PySem.W.Frag) (H : Hp) (a : Addr) (ns : List Int), ns.length ≤ n → (∀ i ∈ ns, Builtin.Int.intBits i ≤ 1048576) → Only H → SqL K H a (ns.map V.int) → sp K [.ref a] H (fun v _ => v = .bl true) fun _ _ _ => False)
    (hCX : ∀ (H : Hp) (s : Shared) (e : Value) (s' : Shared), CX.cx [] H s (fun _ _ _ => False) e s' → False) (hsm : CX.sm = false) :
    PySem.W.WalkO q loose XP YP l.row.toRowW d [] (fun f vs => PySem.call f vs) :=
  walk_of (K := K) (CX := fun _ => CX) (sp := fun w => sp (K w.params)) hn hn2 hdf hr hY F (fun w H a ns h1 hb h2 h3 => hsp (K w.params) H a ns h1 hb h2 h3) (fun _ H s e s' => hCX H s e s') fun _ => hsm
end L2

/- THE LAST THEOREM (shape; LID, My.* are yours):
   My.Adr: a structure of the addresses that your layer names (classes, functions); My.Txt K t: a structure (Prop) of the equations over K;
   My.txt_mk : {K} {implicit addresses ..} (e1 : nsIn K mainGlobals "law" = some (some (.ref f))) (e2 : K.lookup f = some ⟨oc, od, .func (fnOf "law" "law" params body scope dV kV doc pm an cdv ct), sl⟩) (e3 : codeIn K cdv "law" = true) .. : ∃ t, My.Txt K t

set_option maxRecDepth 100000 in
set_option maxHeartbeats 0 in
theorem PySem.Challenge.cw_LID_holds : PySem.Challenge.rw_LID.Holds := by
  w_on; o_law; k_head; (case hw => w_witness2)
  k_fill
  refine L2.walk_of (l := PySem.Challenge.rw_LID) (n := 63) (k := 40) (x := "script") (CX := fun w => ..) (sp := fun _ => My.sp_law) rfl (by decide) rfl ⟨rfl, by decide, by decide⟩ (fun w h Y => PySem.W.kIn_of Y) ?F ?S ?C
  case F =>
    intro w mg fa h KX G hmg
    have T : ∃ t, My.Txt (L2.KOf KX) t := by
      dsimp only [L2.KOf]                          -- K must stand as «<heap const> w.params» for k_is
      refine' My.txt_mk ?e1 ?e2 ?e3 ..
      (case e1 => PySem.W.k_is)                    -- in the order: a name -> its address -> its object -> its parts
      (case e2 => PySem.W.k_is)
      ..
    obtain ⟨t, T⟩ := T
    have e0 := hmg.symm.trans (PySem.W.mg_of KX G T.law)
    cases e0                                       -- fa is the law's own address
    exact ⟨_, fun s u => .of_eq rfl, fun base kb nb => My.law_fn T kb nb⟩     -- if «.of_eq rfl» comes too early: refine' ⟨_, ?b, fun base kb nb => My.law_fn T kb nb⟩; exact fun s u => .of_eq rfl
  case S => exact fun w H a ns hl hO hS => ..
  case C => exact ..
(the tactic k_is has no namespace: write k_is) -/

/-! SHORT WORDS over the layer: a def of the text, its body, what a loop and a test want. -/
namespace L2
open PySem PySem.Spec PyProof.Rows

/-! ### the text by places -/
/-- the j-th statement of a class's body -/
def inClass (s : Stmt) (j : Nat) : Stmt := match s with
  | .ClassDef _ _ _ body _ _ _ _ _ _ _ => body.getD j (.Pass ⟨0, 0, 0, 0⟩)
  | _ => .Pass ⟨0, 0, 0, 0⟩
def defArgs (s : Stmt) : Arguments := match s with
  | .FunctionDef _ a _ _ _ _ _ _ _ _ => a
  | _ => { posonlyargs := [], args := [], vararg := none, kwonlyargs := [], kw_defaults := [], kwarg := none, defaults := [] }
def defBody (s : Stmt) : List Stmt := match s with
  | .FunctionDef _ _ b _ _ _ _ _ _ _ => b
  | _ => []
def defScope (s : Stmt) : Scope := match s with
  | .FunctionDef _ _ _ _ _ _ sc _ _ _ => sc
  | _ => { kind := .function, names := [], isGenerator := false, isCoroutine := false }

/-! ### no exception leaves a def -/
abbrev CX0 : CXT := ⟨true, false, fun _ _ _ _ _ _ => False⟩
/-- .. also within an except suite -/
abbrev CXN : CXT := ⟨false, false, fun _ _ _ _ _ _ => False⟩
/-- .. there alone: the handled exception is known -/
abbrev CXS : CXT := ⟨false, true, fun _ _ _ _ _ _ => False⟩
abbrev E0 : XK := fun _ _ _ => False
theorem pass0 {X : Cx} (hc : X.calm = true := by rfl) : Passes CX0 X E0 := ⟨fun _ => hc, rfl, fun _ _ _ _ _ _ _ h => h.elim⟩
/-! ### a def (or method) of the text as it stands behind the top -/
structure Fun (K : PySem.W.Frag) (x qual : Str) (st : Stmt) (f : Addr) (fd : FuncData) : Prop where
  ex : ∃ (oc : Value) (od : Option Addr) (kV doc pm : Value) (an : Option Addr) (cdv ct : Value) (osl : Array (Option Value)),
    fd = PySem.W.fnOf x qual (defArgs st) (defBody st) (defScope st) .none kV doc pm an cdv ct ∧ K.lookup f = some ⟨oc, od, .func fd, osl⟩ ∧ PySem.W.codeIn K cdv qual = true
  kp : PySem.W.keepIn K (.ref f) = true
section
variable {P : Program} {w : World} {K : PySem.W.Frag} {mg : Str → Option Value} {base : Heap}
/-- a def, whatever its exceptions -/
theorem Fun.okX {x qual : Str} {st : Stmt} {f : Addr} {fd : FuncData} {N ps : List Str} {k : Nat} {sp : Sp} {CX : CXT} (F : Fun K x qual st f fd) (S : FnScope N ps (defScope st)) (len : ∀ vs H Q E, sp vs H Q E → vs.length = ps.length)
    (hbody : ∀ (cdv : Value) (A : Around) (outer : List Env) (s : Shared) (H : Hp) (vs : List V) (Q : VK) (E : XK), Room k (A.deeper (envOfC qual (defScope st) s.heap.objs.size f cdv)) → sp vs H Q E →
      ∃ t, PSs (cxOf CX P w K mg base N qual (defScope st) f cdv A outer s H E) (defBody st) t ∧ t { nx := fun _ H' => Q .non H', rt := Q } (start N vs) H) : FnOk P w K mg base CX (k + 1) f fd ps sp := by
  obtain ⟨oc, od, kV, doc, pm, an, cdv, ct, osl, rfl, lk, hcd⟩ := F.ex
  exact fn_of lk hcd S len fun A outer s H vs Q E hr hsp => hbody cdv A outer s H vs Q E hr hsp
/-- a def that raises nothing -/
theorem Fun.ok {x qual : Str} {st : Stmt} {f : Addr} {fd : FuncData} {N ps : List Str} {k : Nat} {sp : Sp} {CX : CXT} (F : Fun K x qual st f fd) (S : FnScope N ps (defScope st)) (len : ∀ vs H Q E, sp vs H Q E → vs.length = ps.length)
    (hbody : ∀ (cdv : Value) (A : Around) (outer : List Env) (s : Shared) (H : Hp) (vs : List V) (Q : VK) (E : XK), Room k (A.deeper (envOfC qual (defScope st) s.heap.objs.size f cdv)) → sp vs H Q E →
      ∃ t, PSs (cxOf CX P w K mg base N qual (defScope st) f cdv A outer s H E).nox (defBody st) t ∧ t { nx := fun _ H' => Q .non H', rt := Q } (start N vs) H) : FnOk P w K mg base CX (k + 1) f fd ps sp := by
  refine F.okX S len fun cdv A outer s H vs Q E hr hsp => ?_
  obtain ⟨t, h, q⟩ := hbody cdv A outer s H vs Q E hr hsp
  exact ⟨t, h.nox, q⟩
/-- how its arguments bind (no defaults): h is «fun _ _ _ _ _ _ us hl => match us, hl with | [_, _], _ => rfl», one _ a parameter -/
theorem Fun.binds {x qual : Str} {st : Stmt} {f : Addr} {fd : FuncData} {ps : List Str} (F : Fun K x qual st f fd)
    (h : ∀ (kV doc pm : Value) (an : Option Addr) (cdv ct : Value) (us : List Value), us.length = ps.length → bindArgs (PySem.W.fnOf x qual (defArgs st) (defBody st) (defScope st) .none kV doc pm an cdv ct) ⟨us, []⟩ = pure (ps.zip us)) : Binds K fd ps [] := by
  obtain ⟨oc, od, kV, doc, pm, an, cdv, ct, osl, rfl, lk, hcd⟩ := F.ex
  exact .all (h kV doc pm an cdv ct)
theorem fun_mk {x qual : Str} {st : Stmt} {f : Addr} {oc : Value} {od an : Option Addr} {osl : Array (Option Value)} {kV doc pm cdv ct : Value} (l : K.lookup f = some ⟨oc, od, .func (PySem.W.fnOf x qual (defArgs st) (defBody st) (defScope st) .none kV doc pm an cdv ct), osl⟩)
    (c : PySem.W.codeIn K cdv qual = true) (k : PySem.W.keepIn K (.ref f) = true) : Fun K x qual st f (PySem.W.fnOf x qual (defArgs st) (defBody st) (defScope st) .none kV doc pm an cdv ct) := ⟨⟨oc, od, kV, doc, pm, an, cdv, ct, osl, rfl, l, c⟩, k⟩
end
theorem hu_of {A : Around} {k : Nat} (hr : Room k A) : A.units + 1 < cLine := Nat.lt_of_le_of_lt (Nat.add_le_add_left (by decide : 1 ≤ 64) _) hr.units
theorem small1000 {n : Nat} (h : n ≤ 1000) : n < sizeLine := Nat.lt_of_le_of_lt h (by decide)

/-! ### expressions in short: the name that stands in the i-th slot -/
section
variable {X : Cx}
theorem pv (i : Nat) {x : Str} {pos : Pos} (hN : X.N[i]? = some x := by rfl) (hv : Vis X.env.scope x := by first | exact Or.inl rfl | exact Or.inr (Or.inl rfl) | exact Or.inr (Or.inr rfl)) (hd : (x == ("__debug__" : Str)) = false := by decide)
    (hcd : (x == ("__classdict__" : Str)) = false := by decide) : PE X (.Name x pos) (tVar i) := pe_var hN hv hd hcd
end

/-! ### tests -/
theorem iteF {A B : Prop} (h : B) : if false = true then A else B := by
  rw [if_neg Bool.false_ne_true]
  exact h
theorem iteT {A B : Prop} (h : A) : if true = true then A else B := by
  rw [if_pos rfl]
  exact h
theorem ite2 {c A B : Prop} [Decidable c] (h1 : c → A) (h2 : ¬ c → B) : if c then A else B := by
  by_cases h : c
  · rw [if_pos h]
    exact h1 h
  · rw [if_neg h]
    exact h2 h
/-! ### heaps -/
/-- all that was tracked is as it was -/
def Same (H H' : Hp) : Prop := ∀ b o, H b = some o → H' b = some o
theorem Same.refl (H : Hp) : Same H H := fun _ _ h => h
theorem Same.trans {H H1 H2 : Hp} (a : Same H H1) (b : Same H1 H2) : Same H H2 := fun c o h => b c o (a c o h)
theorem Same.free {H H' : Hp} (e : Same H H') {l : Addr} (h : H' l = Option.none) : H l = Option.none := by
  cases q : H l with
  | none => rfl
  | some o =>
    rw [e l o q] at h
    cases h
theorem Same.seq {K : PySem.W.Frag} {H H' : Hp} {a : Addr} {xs : List V} (e : Same H H') (h : SqL K H a xs) : SqL K H' a xs := by
  rcases h with (h | ⟨o, h⟩) | h
  · exact .inl (.inl (e _ _ h))
  · exact .inl (.inr ⟨o, e _ _ h⟩)
  · exact .inr h

end L2

/-! EXT 1: operations beyond the layer: powers, == of data, isinstance; a comprehension. -/
namespace L2
open PySem PySem.Spec PyProof.Rows

/-! ### powers of ints that fit -/
section
variable {X : Cx}
def CPowB (i j : Int) : Prop := 0 ≤ j ∧ (Builtin.Int.intBits i : Int) * j ≤ 2 ^ 27
theorem op_powB : OpR X (binaryOp .Pow) (rI CPowB fun i j => .int (i ^ j.toNat)) := opI fun _ _ _ _ _ _ _ hc q => pow_int hc.1 hc.2 q
end

/-! ### == and != of data: values as they are read -/
mutual
inductive DatV (K : PySem.W.Frag) (H : Hp) : V → PyData → Prop where
  | non : DatV K H .non .none
  | bl (b : Bool) : DatV K H (.bl b) (.bool b)
  | int (i : Int) : DatV K H (.int i) (.int i)
  | str (x : Str) : DatV K H (.str x) (.str x)
  | lst {a : Addr} {xs : List V} {ds : List PyData} (h : SqL K H a xs) (r : DatVs K H xs ds) : DatV K H (.ref a) (.list ds)
  | tup {a : Addr} {xs : List V} {ds : List PyData} (h : SqT K H a xs) (r : DatVs K H xs ds) : DatV K H (.ref a) (.tuple ds)
inductive DatVs (K : PySem.W.Frag) (H : Hp) : List V → List PyData → Prop where
  | nil : DatVs K H [] []
  | cons {x : V} {d : PyData} {xs : List V} {ds : List PyData} (h : DatV K H x d) (r : DatVs K H xs ds) : DatVs K H (x :: xs) (d :: ds)
end
section
variable {X : Cx} {pins : List (Addr × Obj)} {σ : St} {H : Hp} {s : Shared}
mutual
theorem DatV.reads (I : Inv X pins σ H s) : ∀ {x : V} {d : PyData}, DatV X.K H x d → ∀ {u : Value}, RelV x u → ∃ as, Reads s.heap u d as
  | _, _, .non, u, r => by cases (show u = Value.none from r); exact ⟨_, .none⟩
  | _, _, .bl b, u, r => by cases (show u = Value.bool b from r); exact ⟨_, .bool b⟩
  | _, _, .int i, u, r => by obtain ⟨t, rfl⟩ := (show ∃ t, u = Value.int i t from r); exact ⟨_, .int i t⟩
  | _, _, .str x, u, r => by obtain ⟨t, rfl⟩ := (show ∃ t, u = Value.str x t from r); exact ⟨_, .str x t⟩
  | _, _, .lst (a := a) h rs, u, r => by
    cases (show u = Value.ref a from r)
    obtain ⟨its, rv, ⟨o, n, e, hc, _, hd⟩, _⟩ := I.list h
    obtain ⟨as, ra⟩ := DatVs.reads I rs rv
    exact ⟨_, .list e hc hd (by simpa using ra)⟩
  | _, _, .tup (a := a) h rs, u, r => by
    cases (show u = Value.ref a from r)
    obtain ⟨its, rv, ⟨o, e, hc, n, hd⟩, _⟩ := I.tuple h
    obtain ⟨as, ra⟩ := DatVs.reads I rs rv
    exact ⟨_, .tuple e hc hd (by simpa using ra)⟩
theorem DatVs.reads (I : Inv X pins σ H s) : ∀ {xs : List V} {ds : List PyData}, DatVs X.K H xs ds → ∀ {us : List Value}, Vals xs us → ∃ as, ReadsAll s.heap us ds as
  | _, _, .nil, us, r => by cases r; exact ⟨_, .nil⟩
  | _, _, .cons h rs, us, r => by
    cases r with
    | cons r1 r2 =>
      obtain ⟨as, e1⟩ := DatV.reads I h r1
      obtain ⟨bs, e2⟩ := DatVs.reads I rs r2
      exact ⟨_, .cons e1 e2⟩
end
end
def rEqD (K : PySem.W.Frag) : R2 := fun x y H Q => ∃ d d', DatV K H x d ∧ DatV K H y d' ∧ SeqAt.shaped d = true ∧ SeqAt.shaped d' = true ∧ Q (.bl (PyData.eqv d d')) H
def rNeD (K : PySem.W.Frag) : R2 := fun x y H Q => ∃ d d', DatV K H x d ∧ DatV K H y d' ∧ SeqAt.shaped d = true ∧ SeqAt.shaped d' = true ∧ Q (.bl (!PyData.eqv d d')) H
section
variable {X : Cx}
theorem op_eqD (hu : X.A.units + 64 < cLine) : OpR X (compareOp .Eq) (rEqD X.K) := by
  intro pins s σ H x y v u Q I rx ry h
  obtain ⟨d, d', h1, h2, h3, h4, q⟩ := h
  obtain ⟨as, ra⟩ := h1.reads I rx
  obtain ⟨bs, rb⟩ := h2.reads I ry
  exact eq_dataH ra rb h3 h4 hu ⟨.bl _, H, I, rfl, q⟩
end
/-! ### isinstance -/
section
variable {X : Cx}
theorem call_isinst : CallR X (.builtin "isinstance") (fun xs H Q => ∃ x c t cv b, xs = [x, c] ∧ TyOf X.K H x t ∧ RelV c cv ∧ PySem.W.kitOne X.K t cv = some b ∧ Q (.bl b) H) := by
  intro pins s σ H xs us Q I r h
  obtain ⟨x, c, t, cv, b, rfl, ty, rc, e, q⟩ := h
  obtain ⟨u, w', rfl, rx, rc'⟩ := vals2 r
  have ec : w' = cv := by
    cases c with
    | non => exact (show w' = _ from rc').trans (show cv = _ from rc).symm
    | bl _ => exact (show w' = _ from rc').trans (show cv = _ from rc).symm
    | ref _ => exact (show w' = _ from rc').trans (show cv = _ from rc).symm
    | ty _ => exact (show w' = _ from rc').trans (show cv = _ from rc).symm
    | int i =>
      obtain ⟨t2, rfl⟩ := (show ∃ t2, cv = Value.int i t2 from rc)
      exact absurd e (by unfold PySem.W.kitOne PySem.W.kitCls; cases ty <;> simp)
    | str i =>
      obtain ⟨t2, rfl⟩ := (show ∃ t2, cv = Value.str i t2 from rc)
      exact absurd e (by unfold PySem.W.kitOne PySem.W.kitCls; cases ty <;> simp)
    | byt i =>
      obtain ⟨t2, rfl⟩ := (show ∃ t2, cv = Value.bytes i t2 from rc)
      exact absurd e (by unfold PySem.W.kitOne PySem.W.kitCls; cases ty <;> simp)
    | flt i =>
      obtain ⟨t2, rfl⟩ := (show ∃ t2, cv = Value.float i t2 from rc)
      exact absurd e (by unfold PySem.W.kitOne PySem.W.kitCls; cases ty <;> simp)
  subst ec
  exact isinst_ok I rx ty e fun tk => ⟨.bl b, H, I.tok tk, rfl, q⟩
end

/-! ### a comprehension -/
/-- the free names of a comprehension's block, by the cells of the code around -/
def clOf (names : List (Str × NameKind)) (env : Env) : List (Str × Addr) := (names.filter fun p => p.2 == .free).reverse.map fun p => (p.1, (env.cells.lookup p.1).getD 0)
def cxC (X : Cx) (N : List Str) (scope : Scope) (C : Addr) (s₂ : Shared) (H₂ : Hp) (fp : List Addr) : Cx where
  prog := X.prog
  w := X.w
  K := X.K
  mg := X.mg
  base := X.base
  A := X.A
  N := N
  s₀ := s₂
  H₀ := H₂
  env := compEnvC scope (clOf scope.names X.env) C X.env
  outer := X.stack
  stack := X.stack
  ex := fp
  fn := fun _ => false
  calm := X.calm
  suit := X.suit
  pn := []
  xe := fun _ _ => False
theorem lookup_map_key {names : List (Str × NameKind)} {f : Str → NameKind → NameKind} {x : Str} {k : NameKind} : (names.map fun p => (p.1, f p.1 p.2)).lookup x = some k → ∃ k0, names.lookup x = some k0 ∧ k = f x k0 := by
  induction names with
  | nil => intro h; simp at h
  | cons p r ih =>
    obtain ⟨n, k1⟩ := p
    intro h
    rw [List.map_cons, List.lookup_cons] at h
    rw [List.lookup_cons]
    cases hx : x == n with
    | true =>
      rw [hx] at h
      have e : x = n := beq_iff_eq.mp hx
      subst e
      exact ⟨k1, rfl, (Option.some.inj h).symm⟩
    | false =>
      rw [hx] at h
      exact ih h
theorem relabel_names {scope : Scope} {env : Env} : (relabel scope env).names = scope.names.map fun p => (p.1, if (p.2 == .free && env.scope.kind == .function && env.kindOf p.1 == some .cell) = true then NameKind.cell else p.2) := by
  unfold relabel
  refine List.map_congr_left fun p _ => ?_
  obtain ⟨n, k⟩ := p
  show (if (k == .free && env.scope.kind == .function && env.kindOf n == some .cell) = true then (n, NameKind.cell) else (n, k)) = _
  split <;> rfl
theorem lookup_mapV {α β : Type} {l : List (Str × α)} {f : Str → β} {x : Str} {c : β} : (l.map fun p => (p.1, f p.1)).lookup x = some c → c = f x ∧ ∃ a, (x, a) ∈ l := by
  induction l with
  | nil => intro h; simp at h
  | cons p r ih =>
    intro h
    rw [List.map_cons, List.lookup_cons] at h
    cases hx : x == p.1 with
    | true =>
      rw [hx] at h
      have e : x = p.1 := beq_iff_eq.mp hx
      refine ⟨?_, p.2, ?_⟩
      · rw [e]; exact (Option.some.inj h).symm
      · rw [e]; exact List.mem_cons_self
    | false =>
      rw [hx] at h
      obtain ⟨e, a, m⟩ := ih h
      exact ⟨e, a, List.mem_cons_of_mem _ m⟩
theorem lookup_mapV_some {α β : Type} {l : List (Str × α)} {f : Str → β} {x : Str} {a : α} (h : (x, a) ∈ l) : (l.map fun p => (p.1, f p.1)).lookup x = some (f x) := by
  induction l with
  | nil => cases h
  | cons p r ih =>
    rw [List.map_cons, List.lookup_cons]
    cases hx : x == p.1 with
    | true =>
      have e : x = p.1 := beq_iff_eq.mp hx
      rw [e]
    | false =>
      rcases List.mem_cons.mp h with e | m
      · rw [← e] at hx
        simp at hx
      · exact ih m
/-- what a comprehension's scope is -/
structure CompOk (X : Cx) (scope : Scope) : Prop where
  kind : scope.kind = .function
  clos : closureFor scope X.env = pure (clOf scope.names X.env)
  cell : ∀ y ∈ scope.names, y.2 ≠ .cell
  names : ∀ y ∈ scope.names, y.2 = .local → scope.names.lookup y.1 = some .local
  free : ∀ y ∈ scope.names, y.2 = .free → (X.env.cells.lookup y.1).isSome = true
theorem clOf_lookup {X : Cx} {scope : Scope} (ok : CompOk X scope) {x : Str} {c : Addr} (h : (clOf scope.names X.env).lookup x = some c) : X.env.cells.lookup x = some c := by
  unfold clOf at h
  obtain ⟨e, a, m⟩ := lookup_mapV (f := fun n => (X.env.cells.lookup n).getD 0) h
  have m' := List.mem_filter.mp (List.mem_reverse.mp m)
  have fr := ok.free _ m'.1 (by simpa using m'.2)
  cases q : X.env.cells.lookup x with
  | none => rw [q] at fr; cases fr
  | some d => rw [e, q]; rfl
theorem clOf_has {X : Cx} {scope : Scope} {x : Str} (h : (x, NameKind.free) ∈ scope.names) : (clOf scope.names X.env).lookup x = some ((X.env.cells.lookup x).getD 0) := by
  unfold clOf
  exact lookup_mapV_some (f := fun n => (X.env.cells.lookup n).getD 0) (List.mem_reverse.mpr (List.mem_filter.mpr ⟨h, by simp⟩))
/-- the names of the block that stand around it: their slots there -/
inductive FrOk (X : Cx) (scope : Scope) : List Nat → List Str → Prop where
  | nil : FrOk X scope [] []
  | cons {j : Nat} {x : Str} {js : List Nat} {xs : List Str} (h1 : X.N[j]? = some x) (h2 : X.env.kindOf x = some .cell ∨ X.env.kindOf x = some .free) (h3 : scope.names.lookup x = some .free) (r : FrOk X scope js xs) : FrOk X scope (j :: js) (x :: xs)
/-- the block's slots: the targets, then the names around -/
def mkC (k : Nat) (js : List Nat) (σ : St) : St := List.replicate k none ++ js.map fun j => (σ[j]?).getD none
theorem mem_of_lookupK {α : Type} {l : List (Str × α)} {x : Str} {a : α} (h : l.lookup x = some a) : (x, a) ∈ l := PySem.mem_of_lookup h
theorem FrOk.len {X : Cx} {scope : Scope} : ∀ {js : List Nat} {xs : List Str}, FrOk X scope js xs → js.length = xs.length
  | _, _, .nil => rfl
  | _, _, .cons _ _ _ r => by simp [FrOk.len r]
theorem FrOk.at {X : Cx} {scope : Scope} : ∀ {js : List Nat} {xs : List Str}, FrOk X scope js xs → ∀ {i : Nat} {x : Str}, xs[i]? = some x → ∃ j, js[i]? = some j ∧ X.N[j]? = some x ∧ (X.env.kindOf x = some .cell ∨ X.env.kindOf x = some .free) ∧ scope.names.lookup x = some .free
  | _, _, .nil, i, x, h => by simp at h
  | _, _, .cons h1 h2 h3 r, 0, x, h => by simp at h; subst h; exact ⟨_, rfl, h1, h2, h3⟩
  | _, _, .cons h1 h2 h3 r, i + 1, x, h => by
    obtain ⟨j, e, q⟩ := FrOk.at r (i := i) (x := x) (by simpa using h)
    exact ⟨j, by simpa using e, q⟩
/-- the start of the block -/
theorem comp_start {X : Cx} {pins : List (Addr × Obj)} {σ : St} {H2 : Hp} {s₂ : Shared} {scope : Scope} {fp : List Addr} {ts xs : List Str} {js : List Nat} {h₁ : Heap} {C : Addr} {tk : Nat}
    (I : Inv X pins σ H2 s₂) (ok : CompOk X scope) (fr : FrOk X scope js xs) (htl : ∀ x ∈ ts, scope.names.lookup x = some .local) (hfp : ∀ b ∈ fp, FpOk X pins H2 b) (hlt : ∀ b ∈ fp, b < s₂.heap.objs.size)
    (hC : C = s₂.heap.objs.size + 1) (hns : h₁.Ns C (fun _ => none)) (old : ∀ b o, s₂.heap.get? b = some o → h₁.get? b = some o)
    (hD : h₁.get? s₂.heap.objs.size = some { cls := .type "list", data := .seq ([] : List Value).toArray 0 }) :
    Inv (cxC X (ts ++ xs) scope C s₂ H2 fp) [] (mkC ts.length js σ) (upd H2 s₂.heap.objs.size (.lst [])) { s₂ with heap := h₁, toks := tk } := by
  have hf := I.hok.fresh (a := s₂.heap.objs.size) (Nat.le_refl _)
  have hlk : ∀ {x : Str} {k : NameKind}, (compEnvC scope (clOf scope.names X.env) C X.env).kindOf x = some k → ∃ k0, scope.names.lookup x = some k0 ∧ k = if (k0 == .free && X.env.scope.kind == .function && X.env.kindOf x == some .cell) = true then NameKind.cell else k0 := fun {x k} h => by
    have h' : (relabel scope X.env).names.lookup x = some k := h
    rw [relabel_names] at h'
    exact lookup_map_key (f := fun n k => if (k == .free && X.env.scope.kind == .function && X.env.kindOf n == some .cell) = true then NameKind.cell else k) h'
  have freeOf : ∀ {x : Str}, ((compEnvC scope (clOf scope.names X.env) C X.env).kindOf x = some .cell ∨ (compEnvC scope (clOf scope.names X.env) C X.env).kindOf x = some .free) → scope.names.lookup x = some .free := fun {x} h => by
    rcases h with h | h
    · obtain ⟨k0, e, q⟩ := hlk h
      by_cases c : (k0 == .free && X.env.scope.kind == .function && X.env.kindOf x == some .cell) = true
      · rw [Bool.and_eq_true, Bool.and_eq_true] at c
        rw [e, beq_iff_eq.mp c.1.1]
      · rw [if_neg c] at q
        exact absurd q.symm (ok.cell _ (mem_of_lookupK e))
    · obtain ⟨k0, e, q⟩ := hlk h
      by_cases c : (k0 == .free && X.env.scope.kind == .function && X.env.kindOf x == some .cell) = true
      · rw [if_pos c] at q; cases q
      · rw [if_neg c] at q; rw [e, q]
  refine ⟨⟨I.ok.mod, ok.kind, I.ok.glob, I.ok.blt, ?_, fun x y c h1 h2 => I.ok.inj x y c (clOf_lookup ok h1) (clOf_lookup ok h2), fun x hx => ⟨_, clOf_has (mem_of_lookupK (freeOf hx))⟩, fun x c h _ => Bool.noConfusion (show false = true from h),
      I.ok.hd, I.ok.frames, .inl rfl, fun b hb => ⟨?_, fun x c h => (hfp b hb).2.2.2.2.1 x c (clOf_lookup ok h)⟩, I.bs, Nat.le_trans I.ok.bsz I.sz, fun b o e hb => ?_, fun b hb hs => ?_, I.stack, I.stkFree, fun z => ?_⟩,
    rfl, I.bare, Un.laid old (Nat.le_refl _) hf, ⟨_, hns, fun i x v h1 h2 h3 => ?_⟩, fun x c h => ?_, ?_, fun x c h => ?_, fun p hp => absurd (show p ∈ ([] : List (Addr × Obj)) from hp) (by simp), ?_, ?_⟩
  · show s₂.heap.objs.size ≤ C
    rw [hC]
    exact Nat.le_succ _
  · show b ≠ C
    rw [hC]
    exact Nat.ne_of_lt (Nat.lt_succ_of_lt (hlt b hb))
  · have h1 := (hfp b hb).2.2.2.1
    rcases h1 with z | z
    · exact I.ok.noex b o e z
    · exact absurd (Nat.lt_of_lt_of_le (Heap.lt_size e) (Nat.le_trans I.ok.bsz z)) (Nat.lt_irrefl _)
  · rcases List.mem_cons.mp (I.stkSub b hs) with z | z
    · exact (hfp b hb).2.1 z
    · exact (hfp b hb).2.2.1 z
  · obtain ⟨ex, cls, dx, a0, tb, hA, hE⟩ := I.ok.hs z
    exact ⟨ex, cls, dx, a0, tb, hA, I.base.frzs ex _ _ hE⟩
  · -- a name around: its cell
    have hi : ts.length ≤ i := by
      refine Nat.le_of_not_lt fun hi => ?_
      unfold mkC at h2
      rw [List.getElem?_append_left (by simpa using hi), List.getElem?_replicate, if_pos hi] at h2
      cases h2
    have h1' : xs[i - ts.length]? = some x := by
      have h1'' : (ts ++ xs)[i]? = some x := h1
      rw [List.getElem?_append_right hi] at h1''
      exact h1''
    obtain ⟨j, ej, hN, hk, hfree⟩ := fr.at h1'
    have hσ : σ[j]? = some (some v) := by
      unfold mkC at h2
      rw [List.getElem?_append_right (by simpa using hi), List.length_replicate, List.getElem?_map, ej] at h2
      simp only [Option.map_some, Option.some.injEq] at h2
      cases q : σ[j]? with
      | none => rw [q] at h2; cases h2
      | some z => rw [q] at h2; exact congrArg some h2
    obtain ⟨m, hn, hl⟩ := I.loc
    have vis : Vis X.env.scope x := by
      rcases hk with hk | hk
      · exact .inr (.inl hk)
      · exact .inr (.inr hk)
    obtain ⟨u, r, l⟩ := hl j x v hN hσ vis
    refine ⟨u, r, .inr ?_⟩
    rcases l with ⟨k, _⟩ | ⟨_, c, hc, z⟩
    · rcases hk with hk | hk <;> (rw [k] at hk; cases hk)
    · refine ⟨?_, c, ?_, z.keeps old⟩
      · rcases h3 with q | q | q
        · obtain ⟨k0, e, w⟩ := hlk (x := x) (k := .local) q
          rw [hfree] at e
          cases e
          split at w <;> cases w
        · exact .inl q
        · exact .inr q
      · have e := clOf_has (X := X) (mem_of_lookupK hfree)
        rw [hc] at e
        exact e
  · obtain ⟨v, z⟩ := I.cell x c (clOf_lookup ok h)
    exact ⟨v, z.keeps old⟩
  · show (upd H2 s₂.heap.objs.size (.lst [])) C = none
    rw [hC, upd_ne (Nat.ne_of_gt (Nat.lt_succ_self _))]
    exact I.hok.fresh (Nat.le_succ _)
  · obtain ⟨v, z⟩ := I.cell x c (clOf_lookup ok h)
    rw [upd_ne (Nat.ne_of_lt z.lt)]
    exact I.freeC x c (clOf_lookup ok h)
  · exact I.hok.laid old (Nat.le_refl _) ⟨Nat.zero_le _, [], 0, .nil, hD⟩
  · unfold mkC
    show _ = (ts ++ xs).length
    rw [List.length_append, List.length_append, List.length_replicate, List.length_map, fr.len]
end L2

namespace L2
open PySem PySem.Spec PyProof.Rows

/-- the tests of a clause -/
def PIf (X : Cx) (ifs : List Expr) (t : TT) : Prop :=
  ∀ (pins : List (Addr × Obj)) (s : Shared) (σ : St) (H : Hp) (Q : Bool → Hp → Prop), Inv X pins σ H s → t σ H Q →
    wpAny (model X.prog X.w) X.A (forIn ifs true fun c r => if r = true then do let ok ← isTrue c X.env (eval c X.env); pure (ForInStep.yield ok) else pure (ForInStep.yield r)) (TP X pins σ Q) X.xe s
def tTrue : TT := fun _ H Q => Q true H
theorem pif_nil {X : Cx} : PIf X [] tTrue := fun _ _ _ H _ I h => wpAny_tests_nil ⟨H, I, h⟩
theorem pif_one {X : Cx} {c : Expr} {t : TT} (hc : PT X c t) : PIf X [c] t := fun pins s σ H Q I h => wpAny_tests_one (hc pins s σ H Q I h)

theorem compLoop_any {prog : Program} {w : World} {A : Around} {R : Result → Shared → Prop} {s : Shared} {elt target iter : Expr} {ifs : List Expr} {scope : Scope} {pos : Pos} {it acc : Value} {env : Env} (J : Nat → Shared → Prop)
    (turn : ∀ n s, J n s → wpAny (model prog w) A (pyNext it) (fun r s₁ => match r with
      | none => R (.ok .next) s₁
      | some v => wpAny (model prog w) A (letOwnedTupleGo target it v) (fun _ s₂ => wpAny (model prog w) A (assign target env v) (fun _ s₃ =>
          wpAny (model prog w) A (forIn ifs true fun c r => if r = true then do let ok ← isTrue c env (eval c env); pure (ForInStep.yield ok) else pure (ForInStep.yield r)) (fun ok s₄ =>
            if ok = true then wpAny (model prog w) A (eval elt env) (fun x s₅ =>
              wpAny (model prog w) A (call (.builtin "list.append") [acc, x]) (fun _ s₆ => ∃ m, m < n ∧ J m s₆) (fun _ _ => False) s₅) (fun _ _ => False) s₄
            else ∃ m, m < n ∧ J m s₄) (fun _ _ => False) s₃) (fun _ _ => False) s₂) (fun _ _ => False) s₁) (fun _ _ => False) s)
    (n : Nat) (h : J n s) : codeAny (model prog w) A (.compLoop (.ListComp elt [⟨target, iter, ifs, 0⟩] scope pos) 0 it acc env) R s := by
  refine codeAny_loop rfl J (fun n s hI => ?_) n h
  show wpAny _ A ((compTurn (.ListComp elt [⟨target, iter, ifs, 0⟩] scope pos) 0 it acc env).onRaise (fun x => do noteFrame x env; theTreesLotGoes x)) _ _ s
  refine wpAny_noted (wpAny_noRaise ?_)
  rw [compTurn_list]
  refine wpAny_bind (wpAny_standAt (wpAny_bind (thn (turn n s hI) fun r s₁ h₁ => ?_)))
  cases r with
  | none => exact wpAny_pure h₁
  | some v =>
    refine wpAny_bind (thn h₁ fun _ s₂ h₂ => wpAny_bind (thn h₂ fun _ s₃ h₃ => wpAny_bind (thn h₃ fun ok s₄ h₄ => ?_)))
    cases ok with
    | false => exact wpAny_pure ⟨rfl, h₄⟩
    | true => exact wpAny_bind (wpAny_bind (thn h₄ fun x s₅ h₅ => wpAny_bind (thn h₅ fun _ s₆ h₆ => wpAny_pure (wpAny_pure ⟨rfl, h₆⟩))))

/-- every slot that σ knows, τ knows likewise -/
def Sub (σ τ : St) : Prop := ∀ (i : Nat) v, σ[i]? = some (some v) → τ[i]? = some (some v)
theorem Sub.set {σ : St} {i : Nat} {x : Option V} (h : σ[i]? = some none) : Sub σ (σ.set i x) := fun j v e => by
  by_cases hj : i = j
  · subst hj; rw [h] at e; cases e
  · rw [List.getElem?_set_ne hj]; exact e
theorem Sub.trans {σ τ υ : St} (a : Sub σ τ) (b : Sub τ υ) : Sub σ υ := fun i v e => b i v (a i v e)

/-- a list by a comprehension: W by the turn, a measure, the items so far, the heap -/
def CompW (J : It) (H1 : Hp) (σ0 : St) (g : TG) (tif : TT) (te : TE) (Q : VK) : Prop := ∀ D, H1 D = none → ∃ W : Nat → Nat → List V → Hp → Prop, (∃ m, W 0 m [] (upd H1 D (.lst []))) ∧
  ∀ i m ys H, W i m ys H → H D = some (.lst ys) ∧ ((J.stop i H ∧ Q (.ref D) H) ∨ (J.go i H ∧ ∀ x H', J.yld i H x H' → g x σ0 H' fun σ2 H2 => Sub σ0 σ2 ∧ tif σ2 H2 fun b H3 =>
    if b = true then te σ2 H3 fun y H4 => H4 D = some (.lst ys) ∧ ys.length < sizeLine ∧ ∃ m', m' < m ∧ W (i + 1) m' (ys ++ [y]) (upd H4 D (.lst (ys ++ [y]))) else ∃ m', m' < m ∧ W (i + 1) m' ys H3))
def tComp (mk : St → St) (wi : TI) (g : TG) (tif : TT) (te : TE) : TE := fun σ H Q => wi σ H fun J H1 => CompW J H1 (mk σ) g tif te Q

section
variable {X : Cx} {scope : Scope} {ts xs : List Str} {js : List Nat} {target iter elt : Expr} {ifs : List Expr} {wi : TI} {g : TG} {tif : TT} {te : TE} {pos : Pos}
theorem PIE.mono {pins : List (Addr × Obj)} {σ : St} {tg : Expr} {R R' : It → Hp → Prop} {v : Value} {s : Shared} (h : PIE X pins σ tg R v s) (k : ∀ J H1, R J H1 → R' J H1) : PIE X pins σ tg R' v s := by
  obtain ⟨it, fp, tn, J, H', e, I, T, st, f, r⟩ := h
  exact ⟨it, fp, tn, J, H', e, I, T, st, f, k _ _ r⟩
/-- the block, up to its end -/
theorem comp_run {pins : List (Addr × Obj)} {σ : St} {s₂ : Shared} {Q : VK} {itv : Value} {E : Value → Shared → Prop} {RR : Value → Addr → Result → Shared → Prop} (ok : CompOk X scope) (fr : FrOk X scope js xs) (htl : ∀ x ∈ ts, scope.names.lookup x = some .local)
    (hg : ∀ C s₀ H₀ fp, PG (cxC X (ts ++ xs) scope C s₀ H₀ fp) target g) (hif : ∀ C s₀ H₀ fp, PIf (cxC X (ts ++ xs) scope C s₀ H₀ fp) ifs tif) (he : ∀ C s₀ H₀ fp, PE (cxC X (ts ++ xs) scope C s₀ H₀ fp) elt te)
    (h : PIE X pins σ target (fun J H1 => (X.calm = true ∨ J.sok = true ∧ X.suit = true) ∧ CompW J H1 (mkC ts.length js σ) g tif te Q) itv s₂)
    (hRR : ∀ D C s' H' m', Inv X pins σ H' s' → s'.heap.Ns C m' → FpOk X pins H' C → Q (.ref D) H' → RR (.ref D) C (.ok .next) s') :
    wpAny (model X.prog X.w) X.A (newList []) (fun acc s₃ => wpAny (model X.prog X.w) X.A (newFunctionEnv scope X.env.globals (clOf scope.names X.env) [] X.env.qual none .none (some X.env)) (fun cenv s₄ =>
      codeAny (model X.prog X.w) X.A (.compStart (.ListComp elt [⟨target, iter, ifs, 0⟩] scope pos) 0 itv acc { cenv with scope := relabel scope X.env }) (RR acc cenv.locals) s₄) E s₃) E s₂ := by
  obtain ⟨it, fp, tn, J, H2, e, I2, T, st2, f2, hc, hw⟩ := h
  subst e
  have hlt : ∀ b ∈ fp, b < s₂.heap.objs.size := fun b hb => by
    obtain ⟨o, e, _⟩ := T.obj _ _ st2 b hb
    exact Heap.lt_size e
  refine wpAny_newObj_type (wpAny_newFunctionEnv ok.cell (by intro y hy; simp at hy) (fun h₁ hns₁ hsb₁ => ?_) ok.kind)
  dsimp only at hns₁ hsb₁ ⊢
  have hsz : (s₂.heap.push { cls := .type "list", dict := none, data := .seq ([] : List Value).toArray }).objs.size = s₂.heap.objs.size + 1 := Heap.size_push _ _
  generalize hC : (s₂.heap.push { cls := .type "list", dict := none, data := .seq ([] : List Value).toArray }).objs.size = C at hns₁ hsb₁ hsz ⊢
  have keep1 : ∀ b o, (s₂.heap.push { cls := .type "list", dict := none, data := .seq ([] : List Value).toArray }).get? b = some o → h₁.get? b = some o := fun b o e => by
    have hb : b ≠ C := by
      rw [← hC]
      exact Nat.ne_of_lt (Heap.lt_size e)
    exact (hsb₁.2 b hb).trans (Heap.get?_push_of_some _ e)
  have old : ∀ b o, s₂.heap.get? b = some o → h₁.get? b = some o := fun b o e => keep1 b o (Heap.get?_push_of_some _ e)
  have hD₁ : h₁.get? s₂.heap.objs.size = some { cls := .type "list", data := .seq ([] : List Value).toArray 0 } := keep1 _ _ (Heap.get?_push_size _ rfl)
  have hfD := I2.hok.fresh (a := s₂.heap.objs.size) (Nat.le_refl _)
  obtain ⟨W, ⟨m0, w0⟩, turn⟩ := hw s₂.heap.objs.size hfD
  have IC := comp_start (tk := s₂.toks + ([] : List (Str × Value)).length) I2 ok fr htl f2 hlt hsz hns₁ old hD₁
  have hst₁ : tn 0 h₁ := T.keep _ _ _ st2 fun b hb o e => old b o e
  -- what is asked of the iterator, within
  have stat : ∀ {H' : Hp}, (∀ b ∈ fp, H' b = none) → ∀ b ∈ fp, FpOk (cxC X (ts ++ xs) scope C s₂ H2 fp) [] H' b := fun {H'} hn b hb =>
    ⟨hn b hb, (IC.ok.exf b hb).1, IC.ok.exfs b hb, .inl hb, fun x c e => (IC.ok.exf b hb).2 x c e, fun p hp => absurd (show p ∈ ([] : List (Addr × Obj)) from hp) (by simp)⟩
  have fp0 : ∀ b ∈ fp, (upd H2 s₂.heap.objs.size (.lst [])) b = none := fun b hb => by
    rw [upd_ne (Nat.ne_of_lt (hlt b hb))]
    exact (f2 b hb).1
  have loop : codeAny (model X.prog X.w) X.A (.compLoop (.ListComp elt [⟨target, iter, ifs, 0⟩] scope pos) 0 (.ref it) (.ref s₂.heap.objs.size) (compEnvC scope (clOf scope.names X.env) C X.env))
      (RR (.ref s₂.heap.objs.size) C) { s₂ with heap := h₁, toks := s₂.toks + ([] : List (Str × Value)).length } := by
    refine compLoop_any (fun n s' => ∃ i H' ys, Inv (cxC X (ts ++ xs) scope C s₂ H2 fp) [] (mkC ts.length js σ) H' s' ∧ tn i s'.heap ∧ (∀ b ∈ fp, H' b = none) ∧ W i n ys H') ?_ m0 ⟨0, _, [], IC, hst₁, fp0, w0⟩
    rintro n s3 ⟨i, H3, ys, I3, st3, fr3, w3⟩
    obtain ⟨hDl, alt⟩ := turn i n ys H3 w3
    rcases alt with ⟨stop, qn⟩ | ⟨go, step⟩
    · refine thn (T.done (cxC X (ts ++ xs) scope C s₂ H2 fp) rfl rfl rfl hc i [] s3 _ H3 _ I3 (stat fr3) st3 stop) fun r s4 ⟨hr, I4⟩ => ?_
      subst hr
      have hCn : H3 C = none := I4.free
      have I5 : Inv X pins σ H3 s4 := I2.call' (ch := fp) (s' := s4) I4.os I4.base I4.hok I4.bare fun b hb => ⟨(f2 b hb).2.2.2.1, (f2 b hb).2.1, (f2 b hb).2.2.2.2.1, (f2 b hb).2.2.2.2.2⟩
      obtain ⟨m', hn', _⟩ := I4.loc
      exact hRR _ _ s4 H3 m' I5 hn' (I2.fpOk (by rw [hsz]; exact Nat.le_succ _) hCn) qn
    · refine thn (T.item (cxC X (ts ++ xs) scope C s₂ H2 fp) rfl rfl rfl hc i [] s3 _ H3 _ I3 (stat fr3) st3 go) fun r s4 ⟨u, hr, h4⟩ => ?_
      subst hr
      refine thn h4 fun _ s5 ⟨x, H5, I5, r5, y5, st5, fr5⟩ => ?_
      have I5' := I5.pinned (stat fr5) (T.obj _ _ st5)
      have pinK : ∀ {σ7 : St} {H7 : Hp} {s7 : Shared}, Inv (cxC X (ts ++ xs) scope C s₂ H2 fp) ([] ++ pinsAt fp s5.heap) σ7 H7 s7 → tn (i + 1) s7.heap ∧ ∀ b ∈ fp, H7 b = none := fun {σ7 H7 s7} I7 => by
        refine ⟨T.keep _ _ _ st5 fun b hb o e => (I7.pin (b, o) (List.mem_append_right _ (List.mem_append_right _ (mem_pinsAt hb e)))).1, fun b hb => ?_⟩
        obtain ⟨o, e, d⟩ := T.obj _ _ st5 b hb
        exact (I7.pin (b, o) (List.mem_append_right _ (List.mem_append_right _ (mem_pinsAt hb e)))).2.1
      have back : ∀ {σ7 : St} {H7 : Hp} {s7 : Shared}, Inv (cxC X (ts ++ xs) scope C s₂ H2 fp) ([] ++ pinsAt fp s5.heap) σ7 H7 s7 → Sub (mkC ts.length js σ) σ7 → Inv (cxC X (ts ++ xs) scope C s₂ H2 fp) [] (mkC ts.length js σ) H7 s7 := fun {σ7 H7 s7} I7 sb =>
        I7.unpinned.weak (IC.len.trans I7.len.symm) sb
      refine thn (hg _ _ _ _ _ s5 _ H5 x u _ I5' r5 (step x H5 y5)) fun _ s6 ⟨σ6, H6, I6, sb6, q6⟩ => ?_
      refine thn (hif _ _ _ _ _ s6 σ6 H6 _ I6 q6) fun okb s7 ⟨H7, I7, q7⟩ => ?_
      cases okb with
      | false =>
        obtain ⟨m', hm, w7⟩ := (show ∃ m', m' < n ∧ W (i + 1) m' ys H7 from q7)
        obtain ⟨t7, n7⟩ := pinK I7
        exact ⟨m', hm, i + 1, H7, ys, back I7 sb6, t7, n7, w7⟩
      | true =>
        refine thn (he _ _ _ _ _ s7 σ6 H7 _ I7 q7) fun u8 s8 ⟨y, H8, I8, r8, hD8, hlen, m', hm, w8⟩ => ?_
        refine thn (mt_append (X := cxC X (ts ++ xs) scope C s₂ H2 fp) _ s8 σ6 H8 (.ref s₂.heap.objs.size) [y] (.ref s₂.heap.objs.size) [u8] (fun _ H9 => W (i + 1) m' (ys ++ [y]) H9) I8 rfl (.cons r8 .nil) ⟨_, ys, y, rfl, rfl, hD8, hlen, w8⟩) fun u9 s9 ⟨_, H9, I9, _, w9⟩ => ?_
        obtain ⟨t9, n9⟩ := pinK I9
        exact ⟨m', hm, i + 1, H9, ys ++ [y], back I9 sb6, t9, n9, w9⟩
  exact codeAny_compStart_list loop (T.self _ 0 _ _ _ hst₁ loop)

theorem pe_comp (hc : X.calm = true) (ok : CompOk X scope) (fr : FrOk X scope js xs) (htl : ∀ x ∈ ts, scope.names.lookup x = some .local) (hi : PI X target iter wi)
    (hg : ∀ C s₀ H₀ fp, PG (cxC X (ts ++ xs) scope C s₀ H₀ fp) target g) (hif : ∀ C s₀ H₀ fp, PIf (cxC X (ts ++ xs) scope C s₀ H₀ fp) ifs tif) (he : ∀ C s₀ H₀ fp, PE (cxC X (ts ++ xs) scope C s₀ H₀ fp) elt te)
    (hs : ∀ x, foldedSetIterable iter X.env x = pure x := by intro _; rfl) : PE X (.ListComp elt [⟨target, iter, ifs, 0⟩] scope pos) (tComp (mkC ts.length js) wi g tif te) := by
  intro pins s σ H Q I h
  rw [eval_ListComp]
  refine wpAny_comprehension_free (use := none) rfl hs ok.clos ok.kind ok.names (thn (hi pins s σ H _ I h) fun v s1 h1 => thn h1 fun itv s2 h2 => ?_)
  refine comp_run (Q := Q) ok fr htl hg hif he (PIE.mono h2 fun J H1 z => ⟨.inl hc, z⟩) fun D C s' H' m' I' hn fpC q => ?_
  refine ⟨m', hn, fun h' hs' => ?_⟩
  obtain ⟨f0, f1, f2, f3, f4, f5⟩ := fpC
  exact ⟨.ref D, H', I'.turned (t' := s'.toks) (fun b o hb e => (hs'.2 b hb).trans e) f0 f1 f3 f4 f5, rfl, q⟩
/-- y = [..] : the store stands ahead of the end of the block's own names -/
theorem ps_setComp {y : Str} {py spos : Pos} {i : Nat} (hc : X.calm = true) (ok : CompOk X scope) (fr : FrOk X scope js xs) (htl : ∀ x ∈ ts, scope.names.lookup x = some .local) (hi : PI X target iter wi)
    (hg : ∀ C s₀ H₀ fp, PG (cxC X (ts ++ xs) scope C s₀ H₀ fp) target g) (hif : ∀ C s₀ H₀ fp, PIf (cxC X (ts ++ xs) scope C s₀ H₀ fp) ifs tif) (he : ∀ C s₀ H₀ fp, PE (cxC X (ts ++ xs) scope C s₀ H₀ fp) elt te)
    (hN : X.N.Nodup) (hy : X.N[i]? = some y) (hx : Loc X.env.scope y)
    (hsw : swapsWith (.ListComp elt [⟨target, iter, ifs, 0⟩] scope pos) (some (.Name y py)) spos.line X.env = pure true)
    (hs : ∀ x, foldedSetIterable iter X.env x = pure x := by intro _; rfl) (hf : X.fn y = true ∨ X.env.scope.names.lookup y = some .local := by first | exact .inl rfl | exact .inr rfl | assumption) :
    PS X (.Assign [.Name y py] (.ListComp elt [⟨target, iter, ifs, 0⟩] scope pos) spos) (tAsg (tComp (mkC ts.length js) wi g tif te) (gName i)) := by
  intro pins s σ H D I h
  rw [exec_Assign_Name_used _ _ _ _ hsw]
  refine wpAny_bind (wpAny_standAt (wpAny_bind ?_))
  show wpAny _ X.A (do let _ ← comprehension (.ListComp elt [⟨target, iter, ifs, 0⟩] scope pos) scope X.env _ (newList []) false (eval iter X.env) (some (assign (.Name y py) X.env))) _ _ s
  refine wpAny_bind (thn (wpAny_comprehension_free (use := some (assign (.Name y py) X.env)) (Q := fun _ s' => SP X pins D .next s') rfl hs ok.clos ok.kind ok.names (thn (hi pins s σ H _ I h) fun v s1 h1 => thn h1 fun itv s2 h2 => ?_)) fun _ s' hq => wpAny_pure (wpAny_pure hq))
  refine comp_run (Q := fun x H1 => gName i x σ H1 D.nx) ok fr htl hg hif he (PIE.mono h2 fun J H1 z => ⟨.inl hc, z⟩) fun Dl C s' H' m' I' hn fpC q => ?_
  show wpAny _ X.A (assign (.Name y py) X.env (.ref Dl)) _ _ _
  obtain ⟨f0, f1, f2, f3, f4, f5⟩ := fpC
  refine wpAny_assign_Name (store_ok2 (v := .ref Dl) I' hN hy hx rfl (fun s2 I2 ⟨a, sb, ha⟩ => ?_) hf)
  have neC : C ≠ a := by
    rcases ha with z | z
    · rw [z]; exact f1
    · exact fun e => f4 y a z e.symm
  refine ⟨m', hn.sameBut sb neC, fun h' hs' => ?_⟩
  exact ⟨_, H', I2.turned (t' := s2.toks) (fun b o hb e => (hs'.2 b hb).trans e) f0 f1 f3 f4 f5, q⟩
end

/-- .. of a list, where an exception is handled around -/
def tCompS (mk : St → St) (wi : TI) (g : TG) (tif : TT) (te : TE) : TE := fun σ H Q => wi σ H fun J H1 => J.sok = true ∧ CompW J H1 (mk σ) g tif te Q
/-! ### the forms one uses -/
end L2

/-! EXT 2: exceptions: how one flies, leaves a def, passes a caller, is caught. -/
namespace L2
open PySem PySem.Spec PyProof.Rows

/-- in flight over the frames l: B is all that stays -/
structure Fly (B : Heap) (l : List Env) (e : Addr) (cls : Value) (dx : Option Addr) (fl : Value) (h : Heap) : Prop where
  st : B.StaysIn h
  ne : B.get? e = none
  fr : h.FunFrames B l
  ob : ∃ a0 T oT ts, h.get? e = some (xObj cls dx a0 (.ref T)) ∧ B.get? T = none ∧ T ≠ e ∧ h.get? T = some oT ∧ oT.data = .fields ts ∧ ts[3]? = some fl
section
variable {M : Model} {A : Around} {E : Value → Shared → Prop} {s : Shared} {B : Heap} {env : Env} {outer : List Env} {L e : Addr} {cls fl a0 head : Value} {dx : Option Addr} {Q : Unit → Shared → Prop}
end

/-! ### what stays while one flies -/
structure Kept (fs : List Addr) (H H' : Hp) (h B : Heap) : Prop where
  k1 : ∀ b o, h.get? b = some o → H b = none → b ∉ fs → B.get? b = some o
  k2 : ∀ b o, h.get? b = some o → b ∉ fs → ∃ o', B.get? b = some o'
  tk : ∀ b, H' b ≠ none → ∃ u, B.get? b = some u
section
variable {P : Program} {w : World} {H H' : Hp} {h h' h2 B : Heap} {l l2 : List Env} {e : Addr} {cls fl fl2 : Value} {dx : Option Addr}
end

/-! ### how one lies behind a call -/
def XCx (P : Program) (w : World) (outer : List Env) (H : Hp) (s : Shared) (E : XK) (e : Value) (s' : Shared) : Prop :=
  ∃ (ea : Addr) (cls : Value) (dx : Option Addr) (H' : Hp) (B : Heap), e = .ref ea ∧ s'.os = s.os ∧ AllBare s'.gens ∧ Un (frs outer) [] H H' s.heap s'.heap ∧ HOk P w H' s'.heap ∧ Fly B outer ea cls dx .none s'.heap ∧ H' ea = none ∧ s.heap.get? ea = none ∧
    Kept (frs outer) H H' s.heap B ∧ E cls dx H'
abbrev XC (P : Program) (w : World) (cm : Bool) : CXT := ⟨cm, false, XCx P w⟩
section
variable {cm : Bool} {P : Program} {w : World} {K : PySem.W.Frag} {mg : Str → Option Value} {base : Heap} {N : List Str} {qual : Str} {scope : Scope} {f : Addr} {cd : Value} {A : Around} {outer : List Env} {s : Shared} {H : Hp} {E : XK}
end
end L2

/-! EXT 3: raise, try. -/
namespace L2
open PySem PySem.Spec PyProof.Rows

/-! ### raise C(..), C an own class of exceptions without __init__ -/
/-- an exception that is made here reaches what this code wants of exceptions -/
def Raises (X : Cx) (cls : Value) (E : XK) : Prop := ∀ (pins : List (Addr × Obj)) (σ : St) (H : Hp) (s : Shared) (h' : Heap) (e : Addr) (args : List Value), Inv X pins σ H s → Heap.MadeExcOf s.heap h' e cls args → E cls none H → X.xe (.ref e) { s with heap := h' }
def tRaise (C : Addr) (E : XK) (ta : TA) : TS := fun _ σ H => ta σ H fun vs H1 => vs.length ≤ sizeLine ∧ E (.ref C) none H1
/-! ### a call that may raise, amid a try -/
def PEX (X : Cx) (E : XK) (e0 : Expr) (t : TE) : Prop :=
  ∀ (pins : List (Addr × Obj)) (s : Shared) (σ : St) (H : Hp) (Q : VK), Inv X pins σ H s → t σ H Q →
    wpAny (model X.prog X.w) X.A (eval e0 X.env) (EP X pins σ Q) (fun e s' => ∃ H1 s1, Inv X pins σ H1 s1 ∧ XCx X.prog X.w X.stack H1 s1 E e s') s
/-! ### within an except suite -/
abbrev cxS (X : Cx) (e : Addr) : Cx := { X with A := X.A.mark (some (.ref e)), calm := false, suit := false, xe := fun _ _ => False }
/-! ### try: call, except C as n: suite that returns -/
/-- wants: the call's own end; of an exception: it is caught, and the suite, over the heap with the exception in it, returns -/
def xTry (K : PySem.W.Frag) (c : Value) (i : Nat) (ts : Addr → TS) (D : Ends) (σ : St) : XK := fun cls dx H' => PySem.W.exmOne K cls c = some true ∧
  ∀ e a0 tb, H' e = none → ts e { D with nx := fun _ _ => False, bk := fun _ _ => False, ct := fun _ _ => False } (σ.set i (some (.ref e))) (upd H' e (xHO e (xObj cls dx a0 tb)))
section
variable {X : Cx} {x n : Str} {np hpos pos p1 : Pos} {c0 : Expr} {b₀ : Stmt} {suite : List Stmt} {i : Nat} {ts : Addr → TS} {tc : XK → TE} {c : Value} {v0 : V}
end
end L2

namespace L2
open PySem PySem.Spec PyProof.Rows
section
variable {K : PySem.W.Frag}
/-- what an own class of exceptions must tell for its attributes -/
structure XCls (K : PySem.W.Frag) (C : Addr) : Prop where
  hd : PySem.W.hasDictIn K C = true
  ga : PySem.W.findIn K (.ref C) "__getattribute__" = some (some (.builtin "BaseException.__getattribute__"))
  gx : PySem.W.findIn K (.ref C) "__getattr__" = some none
  ca : PySem.W.findIn K (.ref C) "__class__" = some (some (.builtin "object.__class__"))
  gs : PySem.W.specialIn K (.builtin "object.__class__") "__get__" = some (some (.builtin "getset_descriptor.__get__"))
  ts : PySem.W.takesIn K (.builtin "object.__class__") = some true
  mo : PySem.W.mroIn K C (.type "object") = some true
  mb : PySem.W.mroIn K C (.type "BaseException") = some true
variable {prog : Program} {w : World} {A : Around} {E : Value → Shared → Prop} {s : Shared} {e C : Addr} {oe : Obj} {od : Option Obj} {name : Str}
end
end L2

namespace L2
open PySem PySem.Spec PyProof.Rows
section
variable {X : Cx} {pins : List (Addr × Obj)} {σ : St} {H : Hp} {s : Shared}
theorem Inv.big (I : Inv X pins σ H s) : sysModules < s.heap.objs.size := by
  have h : mainGlobals < s.heap.objs.size := (I.mod.glob.keeps I.bk).lt
  exact Nat.lt_trans (by decide) h

theorem dk_empty {P : Program} {w : World} {H : Hp} (h : Heap) (hb : sysModules < h.objs.size) : ObjOk P w H (h.push { cls := .type "dict", data := .dict #[] }) h.objs.size (.dK []) :=
  ⟨Nat.zero_le _, beq_eq_false_iff_ne.mpr (Ne.symm (Nat.ne_of_lt hb)), [], .nil, Heap.DictOf.new h⟩
def tDNewK : TE := fun _ H Q => ∀ p, H p = none → Q (.ref p) (upd H p (.dK []))
theorem pe_dnewK {pos : Pos} : PE X (.Dict [] [] pos) tDNewK := fun pins s σ H Q I h =>
  wpAny_Dict_empty ⟨.ref s.heap.objs.size, _, I.laid (a := s.heap.objs.size) (o := .dK []) (t' := s.toks) (fun _ _ q => Heap.get?_push_of_some _ q) (Nat.le_refl _) (dk_empty s.heap I.big), rfl, h _ (I.hok.fresh (Nat.le_refl _))⟩
/-- a call of a def that stands within an except suite alone -/
def tCallS (X : Cx) (sp : Sp) (t : TA) : TE := fun σ H Q => t σ H fun vs H1 => Hd X.A H1 ∧ sp vs H1 Q E0
end
end L2

/-! EXT 5: f-strings; exceptions with an __init__ and fields of their own. -/
namespace L2
open PySem PySem.Spec PyProof.Rows

/-! ### f-strings -/
section
variable {X : Cx}
def PJ (X : Cx) (es : List Expr) (t : Str → TE) : Prop :=
  ∀ (pins : List (Addr × Obj)) (s : Shared) (σ : St) (H : Hp) (Q : VK) (acc : Str), Inv X pins σ H s → t acc σ H Q → wpAny (model X.prog X.w) X.A (joinParts acc (evalEach es X.env)) (EP X pins σ Q) X.xe s
def jNil : Str → TE := fun acc _ H Q => acc.length ≤ sizeLine ∧ Q (.str acc) H
def jCons (t : TE) (u : Str → TE) : Str → TE := fun acc σ H Q => t σ H fun x H1 => ∃ y, x = .str y ∧ (acc ++ y).length ≤ sizeLine ∧ u (acc ++ y) σ H1 Q
def tFmt (t : TE) : TE := fun σ H Q => t σ H fun x H1 => (∃ y, x = .str y ∧ y.length ≤ sizeLine ∧ Q (.str y) H1) ∨ ∃ i, x = .int i ∧ i.natAbs.log2 < 1920 ∧ Q (.str (toString i)) H1
end

/-! ### an exception that is being made -/
def xcO (e C : Addr) (dx : Option Addr) : HO := .ext fun h => ∃ a0, h.get? e = some (xObj (.ref C) dx a0 .none)
/-- an address is tracked no more -/
def untr (H : Hp) (e : Addr) : Hp := fun b => if b = e then none else H b
abbrev bmV : List Value := [.type "ValueError", .type "Exception", .type "BaseException", .type "object"]
/-- a class of exceptions straight under fe, which stands under ValueError; its __init__ at fI -/
structure XMk (K : PySem.W.Frag) (C fe fI : Addr) : Prop where
  cls : ∃ nm q N bs sn sub ab col dd k0 k1 k2 k3 k5, K.lookup C = some (excClassObj nm q C N bs (.ref fe :: bmV) true sn sub ab col dd k0 k1 k2 k3 k5 "ValueError.__new__") ∧ PySem.W.nsOkIn K N = true ∧ PySem.W.nsIn K N "__init__" = some (some (.ref fI))
  xfe : PySem.W.excIn K fe bmV "ValueError.__new__" = true
  feM : PySem.W.mroIn K fe (.type "ValueError") = some true
  fn : PySem.W.isFn K (.ref fI) = true
  kp : PySem.W.keepIn K (.ref C) = true
  sa : PySem.W.findIn K (.ref C) "__setattr__" = some (some (.builtin "object.__setattr__"))
section
variable {prog : Program} {w : World} {A : Around} {E : Value → Shared → Prop} {h : Heap} {g : Array GenState} {d : Drawn} {t : Nat} {os : OsState}
variable {nm q : Str} {C N : Addr} {bs bm bmB : List Value} {hdct : Bool} {sn : List Str} {sub : List Value} {ab : Bool} {col : Option Bool} {dd : Option Addr} {k0 k1 k2 k3 k5 : Option Value} {B newId initId : String}
end

section
variable {M : Model} {A : Around} {E : Value → Shared → Prop} {env : Env}
variable {nm q : Str} {C N : Addr} {bs bm : List Value} {hdct : Bool} {sn : List Str} {sub : List Value} {ab : Bool} {col : Option Bool} {dd : Option Addr} {k0 k1 k2 k3 k5 : Option Value} {newId : String}
end
/-- an exception that is made here, with its dict, reaches what this code wants of exceptions -/
def RaisesD (X : Cx) (C : Addr) (E : XK) : Prop := ∀ (pins : List (Addr × Obj)) (σ : St) (H : Hp) (s : Shared) (e : Addr) (dx : Option Addr), Inv X pins σ H s → H e = some (xcO e C dx) → (∀ o, X.s₀.heap.get? e = some o → e ∈ X.ex) → E (.ref C) dx (untr H e) → X.xe (.ref e) s
def tRaiseI (C : Addr) (sp : Sp) (E : XK) (ta : TA) : TS := fun _ σ H => ta σ H fun vs H1 => vs.length ≤ sizeLine ∧
  ∀ e, H1 e = none → sp (.ref e :: vs) (upd H1 e (xcO e C none)) (fun v H2 => v = .non ∧ ∃ dx, H2 e = some (xcO e C dx) ∧ E (.ref C) dx (untr H2 e)) E0
end L2

/-! EXT 6: the raise of an exception with fields leaves a def; its fields stored and read. -/
namespace L2
open PySem PySem.Spec PyProof.Rows

section
variable {cm : Bool} {P : Program} {w : World} {K : PySem.W.Frag} {mg : Str → Option Value} {base : Heap} {N : List Str} {qual : Str} {scope : Scope} {f : Addr} {cd : Value} {A : Around} {outer : List Env} {s : Shared} {H : Hp} {E : XK}
end

/-! ### FormError.__init__(self, ..) -/
section
variable {X : Cx}
def tXInit (C : Addr) (ta : TA) : TE := fun σ H Q => ta σ H fun vs H1 => ∃ e rest dx, vs = .ref e :: rest ∧ H1 e = some (xcO e C dx) ∧ rest.length ≤ sizeLine ∧ Q .non H1
/-- what the class above must tell -/
structure XBase (K : PySem.W.Frag) (fe : Addr) : Prop where
  ga : PySem.W.specialIn K (.ref fe) "__getattribute__" = some (some (.builtin "type.__getattribute__"))
  rd : PySem.W.readsIn K fe (.type "type") = true
  fi : PySem.W.findCls K (.ref fe) (.type "type") "__init__" = some (.val (.builtin "ValueError.__init__"))
end

/-! ### e.f, e an exception that is held -/
section
variable {X : Cx} {o value : Expr} {f : Str} {pos pos' : Pos} {ta tv : TE}
def tXget (K : PySem.W.Frag) (f : Str) (ta : TE) : TE := fun σ H Q => ta σ H fun x H1 => ∃ e C d a0 tb fs v, x = .ref e ∧ H1 e = some (xHO e (xObj (.ref C) (some d) a0 tb)) ∧ H1 d = some (.xd fs) ∧ XCls K C ∧ NoAttr K C f ∧ fs.lookup f = some v ∧ Q v H1
end

/-! ### self.f = v, self an exception that is being made -/
section
variable {X : Cx} {o value : Expr} {f : Str} {pos pos' : Pos} {ta tv : TE}
def sXF (K : PySem.W.Frag) (C : Addr) (f : Str) (ta tv : TE) : TS := fun D σ H => tv σ H fun y H1 => ta σ H1 fun x H2 => ∃ e, x = .ref e ∧ NoAttr K C f ∧
  ((H2 e = some (xcO e C none) ∧ ∀ d, H2 d = none → D.nx σ (upd (upd H2 d (.xd [(f, y)])) e (xcO e C (some d)))) ∨
    ∃ d fs, H2 e = some (xcO e C (some d)) ∧ H2 d = some (.xd fs) ∧ fs.length < 1000 ∧ D.nx σ (upd H2 d (.xd (putF f y fs))))
end
end L2

/-! Small words that many laws use. -/
namespace L2
open PySem PySem.Spec PyProof.Rows
/-- a module's int -/
theorem pgi {X : Cx} {x : Str} {i : Int} {t : Tok} {pos : Pos} (hm : X.mg x = some (.int i t)) (hg : Gl X x := by rfl) (hd : (x == ("__debug__" : Str)) = false := by decide) : PE X (.Name x pos) (tC (.int i)) := pe_glob hg hm ⟨t, rfl⟩ hd
theorem iteD {c A B : Prop} [Decidable c] (hc : ¬ c) (h : B) : if decide c = true then A else B := by
  rw [if_neg (by simpa using hc)]
  exact h
/-- a built-in type's name -/
theorem pty {X : Cx} {x : Str} {T : String} {pos : Pos} (hm : X.mg x = none) (hv : bootBuiltins x = some (.type T)) (hg : Gl X x := by rfl) (hn : x ≠ "__name__" := by decide) (hd : (x == ("__debug__" : Str)) = false := by decide) : PE X (.Name x pos) (tC (.ty T)) := pe_bltn hg hm hv rfl hn hd
theorem keepH {H : Hp} {a p : Addr} {o u : HO} (h : H a = some o) (hp : H p = none) : (upd H p u) a = some o := by
  rw [upd_ne (ne_of_none h hp)]
  exact h
theorem sameU {H : Hp} {p : Addr} {u : HO} (hp : H p = none) : Same H (upd H p u) := fun _ _ e => keepH e hp
theorem freeIn {X : Cx} {scope : Scope} (h : (scope.names.all fun p => !(p.2 == .free) || (X.env.cells.lookup p.1).isSome) = true) : ∀ y ∈ scope.names, y.2 = .free → (X.env.cells.lookup y.1).isSome = true := fun y hy e => by
  have := List.all_eq_true.mp h y hy
  rw [e] at this
  simpa using this
theorem iteP {c A B : Prop} [Decidable c] (hc : c) (h : A) : if decide c = true then A else B := by
  rw [if_pos (decide_eq_true hc)]
  exact h
/-- an own class's name -/
theorem pcl {X : Cx} {x : Str} {a : Addr} {pos : Pos} (hm : X.mg x = some (.ref a)) (hg : Gl X x := by rfl) (hd : (x == ("__debug__" : Str)) = false := by decide) : PE X (.Name x pos) (tC (.ref a)) := pe_glob hg hm rfl hd
theorem call_isinstK {X : Cx} (K : PySem.W.Frag) (hK : X.K = K) : CallR X (.builtin "isinstance") (fun xs H Q => ∃ x c t cv b, xs = [x, c] ∧ TyOf K H x t ∧ RelV c cv ∧ PySem.W.kitOne K t cv = some b ∧ Q (.bl b) H) := by
  subst hK
  exact call_isinst
theorem Same.put {H H' : Hp} {p : Addr} {o : HO} (s : Same H H') (h : H p = none) : Same H (upd H' p o) := fun b u e => by
  rw [upd_ne (ne_of_none e h)]
  exact s b u e
/-! ### a word between: what holds behind a statement, or of a value, said once -/
def tCut (t u : TS) : TS := fun D σ H => ∃ M : St → Hp → Prop, t { D with nx := M } σ H ∧ ∀ σ' H', M σ' H' → u D σ' H'
theorem pss_cut {X : Cx} {st : Stmt} {rest : List Stmt} {t u : TS} (h1 : PS X st t) (h2 : PSs X rest u) : PSs X (st :: rest) (tCut t u) := by
  intro pins s σ H D I ⟨M, h, k⟩
  refine wpAny_execs_cons (wpAny_mono (h1 pins s σ H { D with nx := M } I h) (fun f s1 q => ?_) fun _ _ x => x)
  cases f with
  | next =>
    obtain ⟨σ1, H1, I1, q1⟩ := q
    exact h2 pins s1 σ1 H1 D I1 (k σ1 H1 q1)
  | ret v => exact q
  | brk => exact q
  | cont => exact q
def tECut (t : TE) : TE := fun σ H Q => ∃ M : VK, t σ H M ∧ ∀ v H', M v H' → Q v H'
end L2

/-! EXT 7: texts: their methods, slices, a walk over their signs; all(..), int(text). -/
namespace L2
open PySem PySem.Spec PyProof.Rows
section
variable {X : Cx}
/-! ### join -/
theorem strsAre_of {ys : List Str} : ∀ {us : List Value}, Vals (ys.map V.str) us → StrsAre us ys := by
  induction ys with
  | nil => intro us r; rw [List.map_nil] at r; cases r; exact .nil
  | cons n ns ih =>
    intro us r
    rw [List.map_cons] at r
    cases r with
    | cons r1 r2 =>
      obtain ⟨t, e⟩ := r1
      subst e
      exact .cons n t (ih r2)
theorem mt_join : MtR X "str.join" (fun x xs H Q => ∃ z p ys, x = .str z ∧ xs = [.ref p] ∧ SqL X.K H p (ys.map V.str) ∧ (ys.map (·.length)).sum + ys.length * z.length ≤ 16777216 ∧ Q (.str (Txt.join z ys)) H) := by
  intro pins s σ H x xs v us Q I rx rs h
  obtain ⟨z, p, ys, rfl, rfl, hp, hz, q⟩ := h
  obtain ⟨t, rfl⟩ := rx
  obtain ⟨u, rfl, ru⟩ := Vals.one rs
  cases (show u = .ref p from ru)
  obtain ⟨its, rv, pl, _⟩ := I.list hp
  exact join_list pl.isList (strsAre_of rv) hz fun t' k => (show EP X pins σ Q (.str (Txt.join z ys) t') { s with toks := k } from ⟨.str _, H, I.tok _, ⟨_, rfl⟩, q⟩)
/-! ### slices -/
def rSlS : V → Option Int → Option Int → Hp → VK → Prop := fun x lo hi H Q => ∃ z, x = .str z ∧ z.length ≤ sizeLine ∧ Q (.str (Txt.slice z lo hi)) H
theorem isPart_of {v : Value} {o : Option Int} (p : IsPart v o) : ∃ l : Option (Int × Tok), v = partValue l ∧ l.map (·.1) = o := by
  cases p with
  | none => exact ⟨none, rfl, rfl⟩
  | int i t => exact ⟨some (i, t), rfl, rfl⟩
theorem sl_str : SlR X rSlS := by
  intro pins s σ H x v vl vu lo hi sl Q I rx hs pl pu h
  obtain ⟨z, rfl, hz, q⟩ := h
  obtain ⟨t, rfl⟩ := rx
  obtain ⟨l, rfl, rfl⟩ := isPart_of pl
  obtain ⟨u, rfl, rfl⟩ := isPart_of pu
  refine ⟨"str", _, F.slot_str_getitem.lookup, typeIs_str _ _ _, ?_⟩
  refine wpAny_getItem_str_slice (l := l) (u := u) (st := none) ?_ rfl (post_val_or_str ⟨Nat.le_trans (Txt.slice_le z _ _) hz, fun t' k => ?_⟩)
  · exact hs
  · exact ⟨.str _, H, I.tok _, ⟨_, rfl⟩, q⟩
/-! ### a walk over a text's signs -/
def Its (x : Str) : It := ⟨fun i _ => i < x.length, fun i H v H' => H' = H ∧ ∃ c, x.cps[i]? = some c ∧ v = .str ⟨#[c]⟩, fun i _ => x.length ≤ i, false⟩
def strTy (x : Str) : String := if x.cps.all (· < 128) then "str_ascii_iterator" else "str_iterator"
theorem turn_str {P : Program} {w : World} {K : PySem.W.Frag} {tg : Expr} (x : Str) (t : Tok) (it : Addr) : Turn P w K tg (Its x) [it] it (fun i h => h.IsStrIter it (strTy x) x t i) where
  mem := by simp
  obj := fun i h st b hb => by
    have e : b = it := by simpa using hb
    subst e
    obtain ⟨o, e, c, d⟩ := st
    exact ⟨o, e, fun v z => by rw [d] at z; cases z⟩
  keep := fun i h h' st k => by
    obtain ⟨o, e, c, d⟩ := st
    exact ⟨o, k it (by simp) o e, c, d⟩
  item := by
    intro X hP hw hK hc i pins s σ H E I hf st hg
    subst hP hw hK
    have hi : i < x.cps.size := hg
    have hx : x.cps[i]? = some x.cps[i] := Array.getElem?_eq_getElem hi
    obtain ⟨f0, f1, f2, f3, f4, f5⟩ := hf it (by simp)
    have fin : ∀ h', h'.IsStrIter it (strTy x) x t (i + 1) → Heap.SameBut it s.heap h' → ∃ u, some (Value.str ⟨#[x.cps[i]]⟩ s.toks) = some u ∧ wpAny (model X.prog X.w) X.A (letOwnedTupleGo tg (.ref it) u) (fun _ s2 => ∃ y H', Inv X pins σ H' s2 ∧ RelV y u ∧ (Its x).yld i H y H' ∧ s2.heap.IsStrIter it (strTy x) x t (i + 1) ∧ ∀ b ∈ [it], H' b = none) E { s with heap := h', toks := s.toks + 1 } := fun h' st' sb => by
      have I1 : Inv X pins σ H { s with heap := h', toks := s.toks + 1 } := I.turned (t' := s.toks + 1) (fun b o hb e => (sb.2 b hb).trans e) f0 f1 f3 f4 f5
      obtain ⟨o, e, c, d⟩ := id st'
      refine ⟨_, rfl, go_of (s := { s with heap := h', toks := s.toks + 1 }) e c d ?_ ⟨.str ⟨#[x.cps[i]]⟩, H, I1, ⟨_, rfl⟩, ⟨rfl, _, hx, rfl⟩, st', fun b hb => (hf b hb).1⟩⟩
      unfold strTy
      split <;> decide
    by_cases ha : x.cps.all (· < 128) = true
    · have e : strTy x = "str_ascii_iterator" := if_pos ha
      rw [e] at st fin ⊢
      exact wpAny_pyNext_ascii_item st hx fin
    · have e : strTy x = "str_iterator" := if_neg ha
      rw [e] at st fin ⊢
      exact wpAny_pyNext_wide_item st hx fin
  done := by
    intro X hP hw hK hc i pins s σ H E I hf st hg
    subst hP hw hK
    have hx : x.cps[i]? = none := Array.getElem?_eq_none hg
    obtain ⟨f0, f1, f2, f3, f4, f5⟩ := hf it (by simp)
    have hc := hc.resolve_right fun z => Bool.noConfusion (show false = true from z.1)
    by_cases ha : x.cps.all (· < 128) = true
    · have e : strTy x = "str_ascii_iterator" := if_pos ha
      rw [e] at st
      exact wpAny_pyNext_ascii_end (I.ok.hd hc) st hx fun h' eb => ⟨rfl, I.turned (t' := s.toks) (fun b o hb e => eb b o hb e) f0 f1 f3 f4 f5⟩
    · have e : strTy x = "str_iterator" := if_neg ha
      rw [e] at st
      exact wpAny_pyNext_wide_end (I.ok.hd hc) st hx fun h' eb => ⟨rfl, I.turned (t' := s.toks) (fun b o hb e => eb b o hb e) f0 f1 f3 f4 f5⟩
  self := fun _ _ _ _ _ st h => by
    by_cases ha : x.cps.all (· < 128) = true
    · have e : strTy x = "str_ascii_iterator" := if_pos ha
      rw [e] at st
      exact wpAny_pyIter_striter_ascii st h
    · have e : strTy x = "str_iterator" := if_neg ha
      rw [e] at st
      exact wpAny_pyIter_striter_wide st h
def iStr (tl : TE) : TI := fun σ H R => tl σ H fun x H1 => ∃ z, x = .str z ∧ R (Its z) H1
theorem pi_str {tg l : Expr} {tl : TE} (hl : PE X l tl) : PI X tg l (iStr tl) := by
  intro pins s σ H R I h
  refine thn (hl pins s σ H _ I h) fun v s1 ⟨x, H1, I1, r1, q1⟩ => ?_
  obtain ⟨z, e, q⟩ := q1
  subst e
  obtain ⟨t, rfl⟩ := r1
  have fp : ∀ b ∈ [s1.heap.objs.size], FpOk X pins H1 b := fun b hb => by
    have e : b = s1.heap.objs.size := by simpa using hb
    subst e
    exact I1.fpOk (Nat.le_refl _) (I1.hok.fresh (Nat.le_refl _))
  by_cases ha : z.cps.all (· < 128) = true
  · refine wpAny_pyIter_ascii ha ?_
    exact ⟨s1.heap.objs.size, [s1.heap.objs.size], _, _, H1, rfl, I1.kept (t' := s1.toks) fun b o e => Heap.get?_push_of_some _ e, turn_str z t _, ⟨_, Heap.get?_push_size _ rfl, by unfold strTy; rw [if_pos ha], rfl⟩, fp, q⟩
  · have ha' : z.cps.all (· < 128) = false := by simpa using ha
    refine wpAny_pyIter_wide ha' ?_
    exact ⟨s1.heap.objs.size, [s1.heap.objs.size], _, _, H1, rfl, I1.kept (t' := s1.toks) fun b o e => Heap.get?_push_of_some _ e, turn_str z t _, ⟨_, Heap.get?_push_size _ rfl, by unfold strTy; rw [if_neg ha], rfl⟩, fp, q⟩
/-! ### int(text) -/
end
end L2

/-! EXT 8: all(list of truths), split, text * int, join of a reversed list, a walk over zip of two lists. -/
namespace L2
open PySem PySem.Spec PyProof.Rows
section
variable {X : Cx}
theorem vals_bl {bs : List Bool} : ∀ {us : List Value}, Vals (bs.map V.bl) us → us = bs.map Value.bool := by
  induction bs with
  | nil => intro us r; rw [List.map_nil] at r; cases r; rfl
  | cons b bs ih =>
    intro us r
    rw [List.map_cons] at r
    cases r with
    | cons r1 r2 =>
      cases (show _ = Value.bool b from r1)
      rw [ih r2, List.map_cons]
theorem all_range (bs : List Bool) : (List.range bs.length).all (fun i => bs.getD i true) = bs.all id := by
  rw [Bool.eq_iff_iff, List.all_eq_true, List.all_eq_true]
  constructor
  · intro h b hb
    obtain ⟨i, hi, e⟩ := List.mem_iff_getElem.mp hb
    have := h i (List.mem_range.mpr hi)
    rw [List.getD_eq_getElem?_getD, List.getElem?_eq_getElem hi, Option.getD_some, e] at this
    exact this
  · intro h i hi
    rw [List.mem_range] at hi
    rw [List.getD_eq_getElem?_getD, List.getElem?_eq_getElem hi, Option.getD_some]
    exact h _ (List.getElem_mem hi)
theorem call_all_bl (hc : X.calm = true) : CallR X (.builtin "all") (fun xs H Q => ∃ (p : Addr) (bs : List Bool), xs = [.ref p] ∧ H p = some (.lst (bs.map V.bl)) ∧ Q (.bl (bs.all id)) H) := by
  intro pins s σ H xs us Q I r h
  obtain ⟨p, bs, rfl, hp, q⟩ := h
  obtain ⟨u, rfl, ru⟩ := Vals.one r
  cases (show u = .ref p from ru)
  obtain ⟨its, rv, pl, _⟩ := I.list (SqL.of hp)
  have e := vals_bl rv
  subst e
  have hne : p ≠ s.heap.objs.size := Nat.ne_of_lt (I.hok.lt hp)
  refine call_all_walk (wpAny_pyIter_list pl.isList ?_)
  refine ⟨s.heap.objs.size, _, _, _, _, _, fun i => bs.getD i true, rfl, Walks.list (A := X.A.in1) (I.ok.hd hc) s.heap.objs.size p hne _, ⟨⟨_, Heap.get?_push_size _ rfl, rfl, rfl⟩, pl.isList.push _⟩, fun i v s2 Q2 E2 hv hq => ?_, fun h' tk hk => ?_⟩
  · have hv' : (bs.map Value.bool)[i]? = some v := by simpa using hv
    rw [List.getElem?_map] at hv'
    cases hb : bs[i]? with
    | none => rw [hb] at hv'; cases hv'
    | some b =>
      rw [hb] at hv'
      cases hv'
      have hq' : Q2 (bs.getD i true) s2 := hq
      rw [show bs.getD i true = b by rw [List.getD_eq_getElem?_getD, hb]; rfl] at hq'
      exact wpAny_truthy_bool hq'
  · refine ⟨.bl (bs.all id), H, I.kept (t' := tk) fun b o e => hk b o (fun z => ?_) (Heap.get?_push_of_some _ e), ?_, q⟩
    · have : b = s.heap.objs.size := by simpa using z
      exact Nat.lt_irrefl _ (this ▸ Heap.lt_size e)
    · show Value.bool _ = Value.bool _
      rw [← all_range]
      simp
/-! ### text * int -/
theorem op_smul : OpR X (binaryOp .Mult) (fun x y H Q => ∃ z n, x = .str z ∧ y = .int n ∧ z.length ≤ 64 ∧ n ≤ 1000 ∧ -(2 ^ 63 : Int) ≤ n ∧ Q (.str (Txt.mul z n)) H) := by
  intro pins s σ H x y v u Q I rx ry h
  obtain ⟨z, n, rfl, rfl, h1, h2, h3, q⟩ := h
  obtain ⟨t, rfl⟩ := rx
  obtain ⟨t', rfl⟩ := ry
  exact SB.mul (mulOk_of 64 1000 h1 h2 h3 (by decide) (by decide)) fun t' k => ⟨.str _, H, I.tok _, ⟨_, rfl⟩, q⟩
/-! ### split -/
/-! ### reversed(list), and the join of it -/
namespace R8
end R8
def tJR (z : Str) (te : TE) : TE := fun σ H Q => te σ H fun y H2 => ∃ (l : Addr) (ys : List Str), y = .ref l ∧ H2 l = some (.lst (ys.map V.str)) ∧ (ys.map (·.length)).sum + ys.length * z.length ≤ 16777216 ∧ Q (.str (Txt.join z ys.reverse)) H2
end
end L2

/-! EXT 9: for a, b in zip(l1, l2). -/
namespace L2
open PySem PySem.Spec PyProof.Rows
section
variable {X : Cx} {pins : List (Addr × Obj)} {σ : St} {H : Hp} {s : Shared} {h' : Heap}
theorem Inv.turnedL {t' : Nat} {fp : List Addr} (I : Inv X pins σ H s) (k : ∀ b o, b ∉ fp → s.heap.get? b = some o → h'.get? b = some o) (hf : ∀ b ∈ fp, FpOk X pins H b) : Inv X pins σ H { s with heap := h', toks := t' } := by
  have nit : ∀ b u, H b = some u → b ∉ fp := fun b u e z => by rw [(hf b z).1] at e; cases e
  refine I.step (g' := s.gens) (d' := s.drawn) (ch := fp) (fun b hb => ?_) (fun b o _ _ hc e _ => k b o hc e) (fun b o _ _ hc e _ => ⟨o.slots, k b o hc e⟩) (fun _ _ _ _ n => n)
    (fun b o hc e => ⟨o, k b o hc e⟩) (fun _ _ e => e) (fun _ _ _ e => e) (fun b ps e => ⟨#[], by rw [e]; simp⟩) (fun m hm => ?_) (fun b u e => ?_) I.bare
  · obtain ⟨f0, f1, f2, f3, f4, f5⟩ := hf b hb
    exact ⟨f3, f1, f4, f5⟩
  · obtain ⟨o, es, ep, ho, r⟩ := hm
    exact ⟨o, es, ep, k _ o (fun z => (hf _ z).2.1 rfl) ho, r⟩
  · refine (I.hok b u e).stay (fun c v hc q => k c v ?_ q) (fun _ q => q) fun _ _ q => q
    rcases hc with z | z
    · rw [z]; exact nit b u e
    · exact nit c _ z
theorem apart {i1 a b : Nat} (ha : a < i1) (hb : b < i1) : ZipApart (i1 + 4) (i1 + 2) (i1 + 3) i1 (i1 + 1) a b := by
  constructor <;> (intro e; have e' : @Eq Nat _ _ := e; omega)
theorem below {i1 n : Nat} (h : i1 + 4 < n) : ∀ c ∈ [i1, i1 + 1, i1 + 2, i1 + 3, i1 + 4], c < n := fun c hc => by
  simp only [List.mem_cons, List.not_mem_nil, or_false] at hc
  omega
theorem above {i1 : Nat} : ∀ c ∈ [i1, i1 + 1, i1 + 2, i1 + 3, i1 + 4], i1 ≤ c := fun c hc => by
  simp only [List.mem_cons, List.not_mem_nil, or_false] at hc
  omega
def Itz (a b : Addr) : It :=
  ⟨fun i H => ∃ xs ys x y, H a = some (.lst xs) ∧ H b = some (.lst ys) ∧ xs[i]? = some x ∧ ys[i]? = some y,
   fun i H v H' => ∃ T xs ys x y, v = .ref T ∧ H T = none ∧ H' = upd H T (.tup [x, y]) ∧ H a = some (.lst xs) ∧ H b = some (.lst ys) ∧ xs[i]? = some x ∧ ys[i]? = some y,
   fun i H => ∃ xs ys, H a = some (.lst xs) ∧ H b = some (.lst ys) ∧ (xs.length ≤ i ∨ ys.length ≤ i), false⟩
theorem turn_zip {P : Program} {w : World} {K : PySem.W.Frag} {elts : List Expr} {x1} {pos : Pos} (a b i1 i2 TI TO z : Nat) (h1 : i2 = i1 + 1) (h2 : TI = i1 + 2) (h3 : TO = i1 + 3) (h4 : z = i1 + 4) (ha : a < i1) (hb : b < i1) :
    Turn P w K (.Tuple elts x1 pos) (Itz a b) [i1, i2, TI, TO, z] z (fun i h => IsZip h z TI TO .none ∧ IsPair h TI (.ref i1) (.ref i2) ∧ (∃ u v, IsPair h TO u v) ∧ h.IsListIter i1 a i ∧ h.IsListIter i2 b i) where
  mem := by simp
  obj := fun i h st c hc => by
    obtain ⟨s1, s2, ⟨u, v, s3⟩, s4, s5⟩ := st
    simp only [List.mem_cons, List.not_mem_nil, or_false] at hc
    rcases hc with rfl | rfl | rfl | rfl | rfl
    · obtain ⟨o, e, c, d⟩ := s4
      exact ⟨o, e, fun v z => by rw [d] at z; cases z⟩
    · obtain ⟨o, e, c, d⟩ := s5
      exact ⟨o, e, fun v z => by rw [d] at z; cases z⟩
    · exact ⟨_, s2, fun v z => by cases z⟩
    · exact ⟨_, s3, fun v z => by cases z⟩
    · exact ⟨_, s1, fun v z => by cases z⟩
  keep := fun i h h' st k => by
    obtain ⟨s1, s2, ⟨u, v, s3⟩, s4, s5⟩ := st
    exact ⟨k z (by simp) _ s1, k TI (by simp) _ s2, ⟨u, v, k TO (by simp) _ s3⟩, s4.at fun o e => k i1 (by simp) o e, s5.at fun o e => k i2 (by simp) o e⟩
  item := by
    intro X hP hw hK hc i pins s σ H E I hf st hg
    subst hP hw hK
    obtain ⟨s1, s2, ⟨u, v, s3⟩, s4, s5⟩ := st
    obtain ⟨xs, ys, x, y, hxs, hys, hx, hy⟩ := hg
    obtain ⟨its, rv, p, _⟩ := I.list (SqL.of hxs)
    obtain ⟨jts, rw', p', _⟩ := I.list (SqL.of hys)
    obtain ⟨ux, hux, rx⟩ := rv.get hx
    obtain ⟨uy, huy, ry⟩ := rw'.get hy
    have D : ZipApart z TI TO i1 i2 a b := by subst h1 h2 h3 h4; exact apart ha hb
    refine wpAny_pyNext_zip_item D s1 s2 s3 s4 s5 p.isList p'.isList (x := ux) (y := uy) (by simpa using hux) (by simpa using huy) fun h' z1 z2 z3 z4 z5 z6 z7 => ?_
    refine ⟨_, rfl, wpAny_letOwnedTupleGo_zip z1 fun g2 y1 sb => ?_⟩
    have hzl : z < s.heap.objs.size := Heap.lt_size s1
    have hfr : ∀ c ∈ [i1, i2, TI, TO, z], c < s.heap.objs.size := by subst h1 h2 h3 h4; exact below hzl
    have nz : s.heap.objs.size ≠ z := Nat.ne_of_gt hzl
    have kT : g2.get? s.heap.objs.size = some { cls := .type "tuple", data := .seq #[ux, uy] } := (sb.2 _ nz).trans z5
    have I1 : Inv X pins σ (upd H s.heap.objs.size (.tup [x, y])) { s with heap := s.heap.push { cls := .type "tuple", data := .seq #[ux, uy] }, toks := s.toks } :=
      I.laid (t' := s.toks) (fun b u e => Heap.get?_push_of_some _ e) (Nat.le_refl _) ⟨by rw [sizeLine_eq]; simp, [ux, uy], .cons rx (.cons ry .nil), ⟨_, Heap.get?_push_size _ rfl, rfl, _, rfl⟩⟩
    have hf1 : ∀ c ∈ [i1, i2, TI, TO, z], FpOk X pins (upd H s.heap.objs.size (.tup [x, y])) c := fun c hc => by
      obtain ⟨f0, f1⟩ := hf c hc
      exact ⟨by rw [upd_ne (Nat.ne_of_lt (hfr c hc))]; exact f0, f1⟩
    have I2 : Inv X pins σ (upd H s.heap.objs.size (.tup [x, y])) { s with heap := g2, toks := s.toks } := Inv.turnedL (s := { s with heap := s.heap.push { cls := .type "tuple", data := .seq #[ux, uy] }, toks := s.toks }) (t' := s.toks) I1 (fun c o hc e => ?_) hf1
    · refine ⟨.ref s.heap.objs.size, _, I2, rfl, ⟨s.heap.objs.size, xs, ys, x, y, rfl, I.fresh, rfl, hxs, hys, hx, hy⟩, ⟨y1, ?_, ⟨ux, uy, ?_⟩, ?_, ?_⟩, fun c hc => (hf1 c hc).1⟩
      · exact (sb.2 _ D.TIz).trans (z7 _ _ D.TIz D.TITO D.TIi1 D.TIi2 s2)
      · exact (sb.2 _ D.TOz).trans z2
      · exact z3.at fun o e => (sb.2 _ D.i1z).trans e
      · exact z4.at fun o e => (sb.2 _ D.i2z).trans e
    · simp only [List.mem_cons, List.not_mem_nil, or_false, not_or] at hc
      rw [sb.2 _ hc.2.2.2.2]
      by_cases hcs : c = s.heap.objs.size
      · subst hcs
        rw [Heap.get?_push_size _ rfl] at e
        rw [z5]; exact e
      · exact z7 _ _ hc.2.2.2.2 hc.2.2.2.1 hc.1 hc.2.1 ((Heap.get?_push_ne _ _ _ hcs).symm.trans e)
  done := by
    intro X hP hw hK hc i pins s σ H E I hf st hg
    subst hP hw hK
    obtain ⟨s1, s2, ⟨u, v, s3⟩, s4, s5⟩ := st
    obtain ⟨xs, ys, hxs, hys, hx⟩ := hg
    obtain ⟨its, rv, p, _⟩ := I.list (SqL.of hxs)
    obtain ⟨jts, rw', p', _⟩ := I.list (SqL.of hys)
    have D : ZipApart z TI TO i1 i2 a b := by subst h1 h2 h3 h4; exact apart ha hb
    have hc := hc.resolve_right fun z => Bool.noConfusion (show false = true from z.1)
    have l1 := rv.length
    have l2 := rw'.length
    refine wpAny_pyNext_zip_end (I.ok.hd hc) D s1 s2 s3 s4 s5 p.isList p'.isList (hx.imp (fun h => Array.getElem?_eq_none (by show its.length ≤ i; omega)) (fun h => Array.getElem?_eq_none (by show jts.length ≤ i; omega))) fun h' k => ⟨rfl, Inv.turnedL (t' := s.toks) I (fun c o hc e => ?_) hf⟩
    simp only [List.mem_cons, List.not_mem_nil, or_false, not_or] at hc
    exact k c o hc.2.2.2.2 hc.2.2.2.1 hc.1 hc.2.1 e
  self := fun _ _ _ _ _ st h => wpAny_pyIter_zip st.1 h
def iZip (ta : TA) : TI := fun σ H R => ta σ H fun vs H1 => ∃ (a b : Addr) (xs ys : List V), vs = [.ref a, .ref b] ∧ H1 a = some (.lst xs) ∧ H1 b = some (.lst ys) ∧ R (Itz a b) H1
theorem pi_zip {elts : List Expr} {x1} {tpos : Pos} {e1 e2 : Expr} {ta : TA} {p pos : Pos} (hg : Gl X "zip") (hm : X.mg "zip" = none) (ha : PA X [e1, e2] ta) (hs : starEach [e1, e2] X.env = (false, eval e1 X.env) :: starEach [e2] X.env := by rfl)
    (hpl : (backTo pos (starEach [e2] X.env)).any (·.1) = false := by rfl) : PI X (.Tuple elts x1 tpos) (.Call (.Name "zip" p) [e1, e2] [] pos) (iZip ta) := by
  intro pins s σ H R I h
  refine wpAny_Call_Name_kw (ld_blt I hg hm (u := .type "zip") (by decide) ?_ (by decide) (by decide))
  refine PyProof.Rows.callWith_type1 (thn (ha pos pins s σ H _ I h) fun us s1 ⟨vs, H1, I1, r1, q1⟩ => ?_) hs hpl
  obtain ⟨a, b, xs, ys, rfl, hxs, hys, q⟩ := q1
  obtain ⟨u, v, rfl, ru, rv⟩ := Vals.two r1
  cases (show u = .ref a from ru)
  cases (show v = .ref b from rv)
  obtain ⟨its, _, p, _⟩ := I1.list (SqL.of hxs)
  obtain ⟨jts, _, p', _⟩ := I1.list (SqL.of hys)
  refine call_zip_2 p.isList p'.isList fun h' z1 z2 z3 z4 z5 z6 z7 => ?_
  have I2 : Inv X pins σ H1 { s1 with heap := h', toks := s1.toks } := I1.kept (t' := s1.toks) z7
  refine wpAny_pyIter_zip z1 ?_
  refine ⟨s1.heap.objs.size + 4, _, _, Itz a b, H1, rfl, I2, turn_zip a b s1.heap.objs.size _ _ _ _ rfl rfl rfl rfl (I1.hok.lt hxs) (I1.hok.lt hys), ⟨z1, z2, ⟨_, _, z3⟩, z4, z5⟩, fun c hc => ?_, q⟩
  have hc' : s1.heap.objs.size ≤ c := above c hc
  exact I1.fpOk hc' (I1.hok.fresh hc')
end
end L2

/-! EXT 10: a try whose body goes several ways; isinstance(x, (A, B)). -/
namespace L2
open PySem PySem.Spec PyProof.Rows
section
variable {X : Cx}
/-- statements that may raise, with the variables as they were -/
def PSX (X : Cx) (E : XK) (sts : List Stmt) (t : TS) : Prop :=
  ∀ (pins : List (Addr × Obj)) (s : Shared) (σ : St) (H : Hp) (D : Ends), Inv X pins σ H s → t D σ H →
    wpAny (model X.prog X.w) X.A (execs sts X.env) (SP X pins D) (fun e s' => ∃ H1 s1, Inv X pins σ H1 s1 ∧ XCx X.prog X.w X.stack H1 s1 E e s') s
/-! ### isinstance(x, (A, B)) -/
end
end L2

/-! EXT 11: sum(list of numbers); for i, c in enumerate(text). -/
namespace L2
open PySem PySem.Spec PyProof.Rows
section
variable {X : Cx}
/-! ### enumerate(text) -/
def Ite (x : Str) : It :=
  ⟨fun i _ => i < x.length,
   fun i H v H' => ∃ T c, v = .ref T ∧ H T = none ∧ H' = upd H T (.tup [.int i, .str ⟨#[c]⟩]) ∧ x.cps[i]? = some c,
   fun i _ => x.length = i, false⟩
def iEnum (te : TE) : TI := fun σ H R => te σ H fun v H1 => ∃ z, v = .str z ∧ R (Ite z) H1
end
end L2

/-! EXT 12: range(lo, hi, step), the step a small number above nought. -/
namespace L2
open PySem PySem.Spec PyProof.Rows
/-- lo, lo + c, .. (n of them) -/
def ItrS (lo c : Int) (n : Nat) : It := ⟨fun i _ => i < n, fun i H x H' => H' = H ∧ x = .int (lo + i * c), fun i _ => n ≤ i, false⟩
section
variable {X : Cx} {tg : Expr}
def iRng3 (ta : TA) : TI := fun σ H R => ta σ H fun vs H1 => ∃ i j c : Int, vs = [.int i, .int j, .int c] ∧ 0 < c ∧ c < 1000 ∧ Builtin.Range.small i j c = true ∧ 0 ≤ Builtin.Range.rangeSize i j c ∧ R (ItrS i c (Builtin.Range.rangeSize i j c).toNat) H1
end
end L2

/-! EXT 13: a comprehension whose one target is a cell (a comprehension within it reads it). -/
namespace L2
open PySem PySem.Spec PyProof.Rows
def cxD (X : Cx) (x0 : Str) (N : List Str) (scope : Scope) (C : Addr) (s₂ : Shared) (H₂ : Hp) (fp : List Addr) : Cx where
  prog := X.prog
  w := X.w
  K := X.K
  mg := X.mg
  base := X.base
  A := X.A
  N := N
  s₀ := s₂
  H₀ := H₂
  env := compEnvC scope ((x0, C + 1) :: clOf scope.names X.env) C X.env
  outer := X.stack
  stack := X.stack
  ex := fp
  fn := fun x => x == x0
  calm := X.calm
  suit := X.suit
  pn := []
  xe := fun _ _ => False
structure CompOkD (X : Cx) (scope : Scope) (x0 : Str) : Prop where
  kind : scope.kind = .function
  clos : closureFor scope X.env = pure (clOf scope.names X.env)
  cell1 : ∀ y ∈ scope.names, y.2 = .cell → y.1 = x0
  notf : ∀ y ∈ scope.names, y.2 = .free → y.1 ≠ x0
  own : ∀ n cl, cellsFrom n scope.names cl = (x0, n) :: cl
  psh : ∀ h : Heap, pushCells h scope.names = h.push { cls := .type "cell", data := .cell none }
  names : ∀ y ∈ scope.names, y.2 = .local → scope.names.lookup y.1 = some .local
  free : ∀ y ∈ scope.names, y.2 = .free → (X.env.cells.lookup y.1).isSome = true
section
variable {x0 : Str} {X : Cx} {scope : Scope} {ts xs : List Str} {js : List Nat} {target iter elt : Expr} {ifs : List Expr} {wi : TI} {g : TG} {tif : TT} {te : TE} {pos : Pos}
end
end L2

/-! EXT 14: for i, x in enumerate(list); x not in (data, ..); list(range(n)). -/
namespace L2
open PySem PySem.Spec PyProof.Rows
/-! ### enumerate(list) -/
def Itel (K : PySem.W.Frag) (l : Addr) : It :=
  ⟨fun i H => ∃ xs x, SqL K H l xs ∧ xs[i]? = some x,
   fun i H v H' => ∃ T x, v = .ref T ∧ H T = none ∧ H' = upd H T (.tup [.int i, x]) ∧ ∀ xs, SqL K H l xs → xs[i]? = some x,
   fun i H => ∃ xs, SqL K H l xs ∧ xs.length = i, false⟩
section
variable {X : Cx}
def iEnumL (K : PySem.W.Frag) (te : TE) : TI := fun σ H R => te σ H fun v H1 => ∃ l, v = .ref l ∧ (∃ xs, SqL K H1 l xs) ∧ R (Itel K l) H1
/-! ### x not in (..), of data -/
def rNotInT (K : PySem.W.Frag) : R2 := fun x y H Q => ∃ d ds, DatV K H x d ∧ DatV K H y (.tuple ds) ∧ SeqAt.shaped d = true ∧ SeqAt.shaped (.tuple ds) = true ∧ Q (.bl (!ds.any fun e => PyData.eqv e d)) H
/-! ### list(range(n)) -/
def rListRng : List V → Hp → VK → Prop := fun xs H Q => ∃ (p : Addr) (n : Nat), xs = [.ref p] ∧ H p = some (.rng 0 n) ∧ n ≤ 100000 ∧ ∀ l, H l = none → Q (.ref l) (upd H l (.lst ((List.range n).map fun i => V.int (i : Nat))))
end
end L2

/-! EXT 16: a list of pairs (word, isinstance(e, C)), laid bit by bit, the heap behind it any one that keeps what was. -/
namespace L2
open PySem PySem.Spec PyProof.Rows
def ExAt (H : Hp) (e C : Addr) : Prop := ∃ dx a0 tb, H e = some (xHO e (xObj (.ref C) dx a0 tb)) ∧ (dx = none ∨ ∃ d fs, dx = some d ∧ H d = some (.xd fs))
def Laid (H : Hp) (ts : List Addr) (prs : List (Str × Bool)) : Prop := ts.length = prs.length ∧ ∀ (i : Nat) t w b, ts[i]? = some t → prs[i]? = some (w, b) → H t = some (.tup [.str w, .bl b])
def tPr (C : Addr) (w : Str) (b : Bool) : TE := fun σ H Q => ∃ e, σ[0]? = some (some (.ref e)) ∧ ExAt H e C ∧ ∀ t H', Same H H' → H' t = some (.tup [.str w, .bl b]) → Q (.ref t) H'
def tPa (C : Addr) (prs : List (Str × Bool)) : TA := fun σ H Q => ∃ e, σ[0]? = some (some (.ref e)) ∧ ExAt H e C ∧ ∀ ts H', Same H H' → Laid H' ts prs → Q (ts.map V.ref) H'
def tPl (C : Addr) (prs : List (Str × Bool)) : TE := fun σ H Q => ∃ e, σ[0]? = some (some (.ref e)) ∧ ExAt H e C ∧ prs.length ≤ sizeLine ∧ ∀ l ts H', Same H H' → H' l = some (.lst (ts.map V.ref)) → Laid H' ts prs → Q (.ref l) H'
def tPc (C : Addr) (prs : List (Str × Bool)) : TE := fun σ H Q => ∃ e l ts qrs, σ[0]? = some (some (.ref e)) ∧ σ[1]? = some (some (.ref l)) ∧ ExAt H e C ∧ H l = some (.lst (ts.map V.ref)) ∧ Laid H ts qrs ∧ prs.length ≤ sizeLine ∧ qrs.length + prs.length ≤ sizeLine ∧ ∀ l ts H', Same H H' → H' l = some (.lst (ts.map V.ref)) → Laid H' ts (qrs ++ prs) → Q (.ref l) H'
/-! ### the rest of a def hidden: its reading stands in the proof once, and not at each depth of binders -/
section
variable {X : Cx}
end
end L2

/-! EXT 17: o.m(..) by the class that the instance has; C() of a class without __init__; int.bit_length; str(text). -/
namespace L2
open PySem PySem.Spec PyProof.Rows
/-- a method of a class, with its promise -/
structure Disp (P : Program) (w : World) (K : PySem.W.Frag) (mg : Str → Option Value) (base : Heap) (k : Nat) (m : Str) (C : Addr) (sp : Sp) : Prop where
  c : Cls K C
  ex : ∃ f fd ps, Meth K C m f ∧ FnOk P w K mg base CX0 k f fd ps sp ∧ Binds K fd ps []
section
variable {X : Cx} {k : Nat} {m : Str} {pos apos : Pos} {e o : Expr} {es : List Expr} {ta : TE} {t : TA}
def tMethD (P : Program) (w : World) (K : PySem.W.Frag) (mg : Str → Option Value) (base : Heap) (k : Nat) (m : Str) (ta : TE) (t : TA) : TE := fun σ H Q => ta σ H fun x H1 => ∃ a C dx fs sp, x = .ref a ∧ H1 a = some (.ins C dx fs) ∧ fs.lookup m = none ∧ Disp P w K mg base k m C sp ∧
  t σ H1 fun vs H2 => sp (x :: vs) H2 Q E0
theorem pe_methD {P : Program} {w : World} {K : PySem.W.Frag} {mg : Str → Option Value} {base : Heap} (hP : X.prog = P) (hw : X.w = w) (hK : X.K = K) (hg : X.mg = mg) (hB : X.base = base) {pl : Sem Bool} (he : PE X o ta) (hr : Room k X.A) (hx : Passes CX0 X E0) (ha : PA X (e :: es) t)
    (hst : starEach (e :: es) X.env = (false, eval e X.env) :: starEach es X.env := by rfl) (hpl : (backTo pos (starEach es X.env)).any (·.1) = false := by rfl)
    (ht : eval (.Call (.Attribute o m apos) (e :: es) [] pos) X.env = (do
      let ov ← eval o X.env
      standAt apos.atName
      let (f, first) ← holding [ov] (getMethod ov m pl)
      callWith pos f first (backTo pos (starEach (e :: es) X.env)) (backToKw pos (keywordEach [] X.env))) := by rfl) :
    PE X (.Call (.Attribute o m apos) (e :: es) [] pos) (tMethD P w K mg base k m ta t) := by
  subst hP hw hK hg hB
  intro pins s σ H Q I h
  refine PySem.W.methodCall_KW (pl := pl) (thn (he pins s σ H _ I h) fun u s1 ⟨x, H1, I1, rx, a, C, dx, fs, sp, ex, ea, l, D, q⟩ => ?_) ht
  subst ex
  obtain rfl : u = Value.ref a := rx
  obtain ⟨f, fd, ps, hm, F, hb⟩ := D.ex
  refine getmeth_ok I1 ea D.c hm l ?_
  refine PySem.W.callWith_K (first := [.ref a]) (h₀ := X.base) I.ok.mod.kin hm.kp (thn (ha pos pins s1 σ H1 _ I1 q) fun us s2 ⟨vs, H2, I2, r, q2⟩ => ⟨I2.kIn, ?_⟩) hst hpl
  exact run_fn (us := .ref a :: us) (vs := .ref a :: vs) (dvs := []) (ds := []) F hr hb .nil hx I2 (.cons rfl r) (by rw [List.append_nil]; exact q2)
theorem pe_methD0 {P : Program} {w : World} {K : PySem.W.Frag} {mg : Str → Option Value} {base : Heap} (hP : X.prog = P) (hw : X.w = w) (hK : X.K = K) (hg : X.mg = mg) (hB : X.base = base) {pl : Sem Bool} (he : PE X o ta) (hr : Room k X.A) (hx : Passes CX0 X E0)
    (ht : eval (.Call (.Attribute o m apos) [] [] pos) X.env = (do
      let ov ← eval o X.env
      standAt apos.atName
      let (f, first) ← holding [ov] (getMethod ov m pl)
      callWith pos f first (backTo pos (starEach [] X.env)) (backToKw pos (keywordEach [] X.env))) := by rfl) :
    PE X (.Call (.Attribute o m apos) [] [] pos) (tMethD P w K mg base k m ta tNil) := by
  subst hP hw hK hg hB
  intro pins s σ H Q I h
  refine PySem.W.methodCall_KW (pl := pl) (thn (he pins s σ H _ I h) fun u s1 ⟨x, H1, I1, rx, a, C, dx, fs, sp, ex, ea, l, D, q⟩ => ?_) ht
  subst ex
  obtain rfl : u = Value.ref a := rx
  obtain ⟨f, fd, ps, hm, F, hb⟩ := D.ex
  refine getmeth_ok I1 ea D.c hm l ?_
  exact PySem.W.callWith_K0 (first := [.ref a]) I1.kIn hm.kp (run_fn (us := [.ref a]) (vs := [.ref a]) (dvs := []) (ds := []) F hr hb .nil hx I1 (.cons rfl .nil) q)
/-- C() where there is no __init__ but object's -/
def tMakeN (C : Addr) : TE := fun _ H Q => ∀ x dx, H x = none → H dx = none → dx ≠ x → Q (.ref x) (upd (upd H dx (.own x)) x (.ins C dx []))
theorem pe_makeN {C : Addr} {x : Str} {p : Pos} (makes : PySem.W.makesIn X.K C = true) (init : PySem.W.findIn X.K (.ref C) "__init__" = some (some (.builtin "object.__init__"))) (kp : PySem.W.keepIn X.K (.ref C) = true) (hg : Gl X x) (hm : X.mg x = some (.ref C))
    (hdb : (x == ("__debug__" : Str)) = false := by decide) : PE X (.Call (.Name x p) [] [] pos) (tMakeN C) := by
  intro pins s σ H Q I h
  refine wpAny_Call_Name_kw (ld_glob I hg hm ?_ hdb)
  refine PySem.W.callWith_K0 I.kIn kp (wpAny_call ?_)
  have I2 := Inv.made (C := C) I
  have hq := h (s.heap.objs.size + 1) s.heap.objs.size (I.hok.fresh (Nat.le_succ _)) (I.hok.fresh (Nat.le_refl _)) (Nat.ne_of_lt (Nat.lt_succ_self _))
  have Y := PySem.W.makes_of (M := model X.prog X.w) I.kIn makes
  refine make_map0 I.kIn makes init (fun self => PySem.W.Looks.of_pure (PySem.W.oi_bind self)) ?_
  have e2 : ((s.heap.push PySem.W.emptyDict).push (PySem.W.instObj C s.heap.objs.size)).get? (s.heap.objs.size + 1) = some (PySem.W.instObj C s.heap.objs.size) := by
    have := Heap.get?_push_size (s.heap.push PySem.W.emptyDict) (o := PySem.W.instObj C s.heap.objs.size) rfl
    rwa [Heap.size_push] at this
  have t1 : PySem.W.Looks (model X.prog X.w) ((s.heap.push PySem.W.emptyDict).push (PySem.W.instObj C s.heap.objs.size)) (typeOf (.ref (s.heap.objs.size + 1))) (.ref C) := (PySem.W.Looks.ld e2).andThen .now
  have t2 : PySem.W.Looks (model X.prog X.w) ((s.heap.push PySem.W.emptyDict).push (PySem.W.instObj C s.heap.objs.size)) (isInstance (.ref (s.heap.objs.size + 1)) (.type "object")) true := t1.andThen (Y.top.keeps fun b o e => Heap.get?_push_of_some _ (Heap.get?_push_of_some _ e))
  refine codeAny_call_builtin PySem.W.oi_plain PySem.W.entry_oi (@PySem.W.check_slot (model X.prog X.w) _ _ _ "object.__init__" "object" "__init__" (.ref (s.heap.objs.size + 1)) [] [] _ PySem.W.oi_kind PySem.W.oi_split t2 (PySem.W.oi_args (.ref (s.heap.objs.size + 1))) ?_)
  rw [PySem.W.oi_run]
  exact wpAny_pure (And.intro rfl ⟨.ref (s.heap.objs.size + 1), _, I2, rfl, hq⟩)
theorem mt_bitlen : MtR X "int.bit_length" (fun x xs H Q => ∃ i, x = .int i ∧ xs = [] ∧ Q (.int (Builtin.Int.intBits i : Nat)) H) := by
  intro pins s σ H x xs v us Q I rx rs h
  obtain ⟨i, rfl, rfl, q⟩ := h
  obtain ⟨t, rfl⟩ := rx
  cases rs
  exact call_gives F.slot_int_bit_length (typeIs_int _ _ _) F.entry_int_bit_length (F.args_int_bit_length_1 _) (PySem.AutoIntG2.int_bit_length_int_0 i t) (show EP X pins σ Q _ _ from ⟨.int _, H, I.tok _, ⟨_, rfl⟩, q⟩)
theorem call_str_str : CallR X (.type "str") (fun xs H Q => ∃ z, xs = [.str z] ∧ Q (.str z) H) := by
  intro pins s σ H xs us Q I r h
  obtain ⟨z, rfl, q⟩ := h
  obtain ⟨u, rfl, t, rfl⟩ := vals1 r
  exact PySem.P.str_of_str ⟨.str _, H, I, ⟨_, rfl⟩, q⟩
end
end L2

/-! EXT 18: comprehensions whose parts may lay new things: over a list, a tuple, a text; with a test or without. -/
namespace L2
open PySem PySem.Spec PyProof.Rows
/-- what is walked through, as long as nothing old changes -/
structure Wk (J : It) (H1 : Hp) (xs : List V) : Prop where
  go : ∀ H i, Same H1 H → i < xs.length → J.go i H
  stop : ∀ H i, Same H1 H → i = xs.length → J.stop i H
  yld : ∀ H i x H', Same H1 H → i < xs.length → J.yld i H x H' → H' = H ∧ xs[i]? = some x
theorem Wk.list {K : PySem.W.Frag} {H1 : Hp} {l : Addr} {xs : List V} (h : SqL K H1 l xs) : Wk (Itl K l) H1 xs where
  go := fun H i s hi => ⟨_, xs[i], s.seq h, List.getElem?_eq_getElem hi⟩
  stop := fun H i s hi => ⟨_, s.seq h, by omega⟩
  yld := fun H i x H' s hi y => ⟨y.1, y.2 _ (s.seq h)⟩
def sgV (z : Str) : List V := z.cps.toList.map fun c => V.str ⟨#[c]⟩
theorem sgV_len (z : Str) : (sgV z).length = z.length := by simp [sgV, PySem.Str.length]
theorem Wk.str {H1 : Hp} (z : Str) : Wk (Its z) H1 (sgV z) where
  go := fun H i s hi => by rw [sgV_len] at hi; exact hi
  stop := fun H i s hi => by rw [sgV_len] at hi; exact Nat.le_of_eq hi.symm
  yld := fun H i x H' s hi y => by
    obtain ⟨e, c, hc, rfl⟩ := y
    refine ⟨e, ?_⟩
    have hc' : z.cps.toList[i]? = some c := by rw [Array.getElem?_toList]; exact hc
    rw [sgV, List.getElem?_map, hc']; rfl
section
variable {J : It} {H1 : Hp} {xs : List V} {σ0 : St} {g : TG} {tif : TT} {te : TE} {Q : VK}
theorem comp_gen (W : Wk J H1 xs) (hz : xs.length ≤ 1000) (p : V → Bool) (f : V → V)
    (hs : ∀ x ∈ xs, ∀ (H : Hp) (R : Bool → V → Hp → Prop), Same H1 H → (∀ H', Same H H' → p x = true → R true (f x) H') → (∀ H', Same H H' → p x = false → R false .non H') →
      g x σ0 H fun σ2 H2 => Sub σ0 σ2 ∧ tif σ2 H2 fun b H3 => if b = true then te σ2 H3 (R true) else R false .non H3)
    (hd : ∀ D H', H1 D = none → Same H1 H' → H' D = some (.lst ((xs.filter p).map f)) → Q (.ref D) H') : CompW J H1 σ0 g tif te Q := by
  intro D hD
  refine ⟨fun i m ys H => m = xs.length - i ∧ i ≤ xs.length ∧ ys = ((xs.take i).filter p).map f ∧ Same H1 H ∧ H D = some (.lst ys), ⟨xs.length, by simp, Nat.zero_le _, rfl, sameU hD, upd_same⟩, ?_⟩
  rintro i m ys H ⟨rfl, hi, rfl, sm, hDy⟩
  refine ⟨hDy, ?_⟩
  by_cases hlt : i < xs.length
  · refine .inr ⟨W.go H i sm hlt, fun x H' y => ?_⟩
    obtain ⟨e, hx⟩ := W.yld H i x H' sm hlt y
    subst e
    have ht : xs.take (i + 1) = xs.take i ++ [x] := by rw [List.take_add_one, hx]; rfl
    have hl : (((xs.take i).filter p).map f).length < sizeLine := by
      rw [List.length_map]
      refine small1000 (Nat.le_trans (List.length_filter_le _ _) ?_)
      rw [List.length_take]
      omega
    have key := hs x (List.mem_of_getElem? hx) H' (fun b v H4 => if b = true then H4 D = some (.lst (((xs.take i).filter p).map f)) ∧ (((xs.take i).filter p).map f).length < sizeLine ∧ ∃ m', m' < xs.length - i ∧
        (m' = xs.length - (i + 1) ∧ i + 1 ≤ xs.length ∧ ((xs.take i).filter p).map f ++ [v] = ((xs.take (i + 1)).filter p).map f ∧ Same H1 (upd H4 D (.lst (((xs.take i).filter p).map f ++ [v]))) ∧ upd H4 D (.lst (((xs.take i).filter p).map f ++ [v])) D = some (.lst (((xs.take i).filter p).map f ++ [v])))
      else ∃ m', m' < xs.length - i ∧ (m' = xs.length - (i + 1) ∧ i + 1 ≤ xs.length ∧ ((xs.take i).filter p).map f = ((xs.take (i + 1)).filter p).map f ∧ Same H1 H4 ∧ H4 D = some (.lst (((xs.take i).filter p).map f)))) sm
      (fun H4 s4 hp => by
        rw [if_pos rfl]
        refine ⟨s4 _ _ hDy, hl, xs.length - (i + 1), by omega, rfl, hlt, ?_, (sm.trans s4).put hD, upd_same⟩
        rw [ht, List.filter_append, List.filter_cons_of_pos hp, List.map_append]; rfl)
      (fun H4 s4 hp => by
        rw [if_neg Bool.false_ne_true]
        refine ⟨xs.length - (i + 1), by omega, rfl, hlt, ?_, sm.trans s4, s4 _ _ hDy⟩
        rw [ht, List.filter_append, List.filter_cons_of_neg (by rw [hp]; exact Bool.false_ne_true), List.filter_nil, List.append_nil])
    exact key
  · have e : i = xs.length := by omega
    subst e
    refine .inl ⟨W.stop H _ sm rfl, hd D H hD sm ?_⟩
    rw [List.take_length] at hDy
    exact hDy
theorem comp_genI (W : Wk J H1 xs) (hz : xs.length ≤ 1000) (p : Nat → Bool) (f : Nat → V)
    (hs : ∀ (j : Nat) (x : V), xs[j]? = some x → ∀ (H : Hp) (R : Bool → V → Hp → Prop), Same H1 H → (∀ H', Same H H' → p j = true → R true (f j) H') → (∀ H', Same H H' → p j = false → R false .non H') →
      g x σ0 H fun σ2 H2 => Sub σ0 σ2 ∧ tif σ2 H2 fun b H3 => if b = true then te σ2 H3 (R true) else R false .non H3)
    (hd : ∀ D H', H1 D = none → Same H1 H' → H' D = some (.lst (((List.range xs.length).filter p).map f)) → Q (.ref D) H') : CompW J H1 σ0 g tif te Q := by
  intro D hD
  refine ⟨fun i m ys H => m = xs.length - i ∧ i ≤ xs.length ∧ ys = ((List.range i).filter p).map f ∧ Same H1 H ∧ H D = some (.lst ys), ⟨xs.length, by simp, Nat.zero_le _, rfl, sameU hD, upd_same⟩, ?_⟩
  rintro i m ys H ⟨rfl, hi, rfl, sm, hDy⟩
  refine ⟨hDy, ?_⟩
  by_cases hlt : i < xs.length
  · refine .inr ⟨W.go H i sm hlt, fun x H' y => ?_⟩
    obtain ⟨e, hx⟩ := W.yld H i x H' sm hlt y
    subst e
    have ht : List.range (i + 1) = List.range i ++ [i] := List.range_succ
    have hl : (((List.range i).filter p).map f).length < sizeLine := by
      rw [List.length_map]
      refine small1000 (Nat.le_trans (List.length_filter_le _ _) ?_)
      rw [List.length_range]
      omega
    have key := hs i x hx H' (fun b v H4 => if b = true then H4 D = some (.lst (((List.range i).filter p).map f)) ∧ (((List.range i).filter p).map f).length < sizeLine ∧ ∃ m', m' < xs.length - i ∧
        (m' = xs.length - (i + 1) ∧ i + 1 ≤ xs.length ∧ ((List.range i).filter p).map f ++ [v] = ((List.range (i + 1)).filter p).map f ∧ Same H1 (upd H4 D (.lst (((List.range i).filter p).map f ++ [v]))) ∧ upd H4 D (.lst (((List.range i).filter p).map f ++ [v])) D = some (.lst (((List.range i).filter p).map f ++ [v])))
      else ∃ m', m' < xs.length - i ∧ (m' = xs.length - (i + 1) ∧ i + 1 ≤ xs.length ∧ ((List.range i).filter p).map f = ((List.range (i + 1)).filter p).map f ∧ Same H1 H4 ∧ H4 D = some (.lst (((List.range i).filter p).map f)))) sm
      (fun H4 s4 hp => by
        rw [if_pos rfl]
        refine ⟨s4 _ _ hDy, hl, xs.length - (i + 1), by omega, rfl, hlt, ?_, (sm.trans s4).put hD, upd_same⟩
        rw [ht, List.filter_append, List.filter_cons_of_pos hp, List.map_append]; rfl)
      (fun H4 s4 hp => by
        rw [if_neg Bool.false_ne_true]
        refine ⟨xs.length - (i + 1), by omega, rfl, hlt, ?_, sm.trans s4, s4 _ _ hDy⟩
        rw [ht, List.filter_append, List.filter_cons_of_neg (by rw [hp]; exact Bool.false_ne_true), List.filter_nil, List.append_nil])
    exact key
  · have e : i = xs.length := by omega
    subst e
    refine .inl ⟨W.stop H _ sm rfl, hd D H hD sm ?_⟩
    exact hDy
theorem comp_growI (W : Wk J H1 xs) (hz : xs.length ≤ 1000) (f : Nat → V)
    (hs : ∀ (j : Nat) (x : V), xs[j]? = some x → ∀ (H : Hp) (R : VK), Same H1 H → (∀ H', Same H H' → R (f j) H') → g x σ0 H fun σ2 H2 => Sub σ0 σ2 ∧ te σ2 H2 R)
    (hd : ∀ D H', H1 D = none → Same H1 H' → H' D = some (.lst ((List.range xs.length).map f)) → Q (.ref D) H') : CompW J H1 σ0 g tTrue te Q := by
  refine comp_genI W hz (fun _ => true) f (fun j x hx H R s h1 _ => ?_) (fun D H' a b c => hd D H' a b ?_)
  · exact hs j x hx H (R true) s fun H' s' => h1 H' s' rfl
  · rw [List.filter_eq_self.mpr (fun _ _ => rfl)] at c
    exact c
/-- without a test -/
theorem comp_grow (W : Wk J H1 xs) (hz : xs.length ≤ 1000) (f : V → V)
    (hs : ∀ x ∈ xs, ∀ (H : Hp) (R : VK), Same H1 H → (∀ H', Same H H' → R (f x) H') → g x σ0 H fun σ2 H2 => Sub σ0 σ2 ∧ te σ2 H2 R)
    (hd : ∀ D H', H1 D = none → Same H1 H' → H' D = some (.lst (xs.map f)) → Q (.ref D) H') : CompW J H1 σ0 g tTrue te Q := by
  refine comp_gen W hz (fun _ => true) f (fun x hx H R s h1 _ => ?_) (fun D H' a b c => hd D H' a b ?_)
  · have k := hs x hx H (R true) s fun H' s' => h1 H' s' rfl
    exact k
  · rw [List.filter_eq_self.mpr (fun _ _ => rfl)] at c
    exact c
end
theorem pe_fldK {X : Cx} (K : PySem.W.Frag) (hK : X.K = K) {e : Expr} {f : Str} {pos : Pos} {ta : TE} (he : PE X e ta) (hb : attributeBase e f X.env (eval e X.env) = eval e X.env) : PE X (.Attribute e f pos) (tFld K ta f) := by
  subst hK
  exact pe_fld he hb
end L2

/-! EXT 19: a list == [] -/
namespace L2
open PySem PySem.Spec PyProof.Rows
def rEqNil : R2 := fun x y H Q => ∃ p q xs, x = .ref p ∧ y = .ref q ∧ H p = some (.lst xs) ∧ H q = some (.lst []) ∧ Q (.bl xs.isEmpty) H
section
variable {X : Cx}
theorem op_eqNil (hu : X.A.units + 64 < cLine) : OpR X (compareOp .Eq) rEqNil := by
  intro pins s σ H x y v u Q I rx ry h
  obtain ⟨p, q, xs, rfl, rfl, hp, hq, k⟩ := h
  cases rx
  cases ry
  cases xs with
  | nil =>
    refine op_eqD hu pins s σ H (.ref p) (.ref q) _ _ Q I rfl rfl ⟨.list [], .list [], .lst (SqL.of hp) .nil, .lst (SqL.of hq) .nil, by decide, by decide, ?_⟩
    exact k
  | cons y ys =>
    obtain ⟨_, its, n, r, el, hl⟩ := I.lstM hp
    obtain ⟨_, its2, n2, r2, el2, hl2⟩ := I.lstM hq
    have e2 : its2.length = 0 := el2.symm
    have e1 : its.length = ys.length + 1 := el.symm
    refine PySem.SeqAt.eq_list_lengthsAt ⟨_, hl, rfl, n, rfl⟩ ⟨_, hl2, rfl, n2, rfl⟩ ?_ (by omega) ⟨.bl _, H, I, rfl, k⟩
    rw [List.size_toArray, List.size_toArray, e1, e2]
    rfl
end
end L2

namespace L2
open PySem PySem.Spec PyProof.Rows

/-! ### lists of pairs as tables -/
section
variable {κ : Type} [DecidableEq κ]
def valV (kvs : List (κ × V)) (k : κ) : Option V := (kvs.find? fun kv => decide (kv.1 = k)).map (·.2)
/-- in its place, or at the end -/
def putK (kvs : List (κ × V)) (k : κ) (v : V) : List (κ × V) :=
  if (kvs.any fun kv => decide (kv.1 = k)) = true then kvs.map (fun kv => if kv.1 = k then (kv.1, v) else kv) else kvs ++ [(k, v)]
def dropK (kvs : List (κ × V)) (k : κ) : List (κ × V) := kvs.filter fun kv => decide (kv.1 ≠ k)

theorem valV_pos {p : κ × V} {r : List (κ × V)} {k : κ} (e : p.1 = k) : valV (p :: r) k = some p.2 := by simp [valV, List.find?_cons, e]
theorem valV_neg {p : κ × V} {r : List (κ × V)} {k : κ} (e : ¬ p.1 = k) : valV (p :: r) k = valV r k := by simp [valV, List.find?_cons, e]
theorem length_putK (kvs : List (κ × V)) (k : κ) (v : V) : (putK kvs k v).length ≤ kvs.length + 1 := by
  unfold putK
  split
  · rw [List.length_map]; omega
  · rw [List.length_append, List.length_cons, List.length_nil]; omega
theorem RelO.getD {o : Option V} {u : Option Value} {d : V} {d' : Value} (r : RelO o u) (rd : RelV d d') : RelV (o.getD d) (u.getD d') := by
  cases o with
  | none => cases u with
    | none => exact rd
    | some _ => exact (show False from r).elim
  | some _ => cases u with
    | none => exact (show False from r).elim
    | some _ => exact r

/-- raw tables of the same keys -/
theorem KV.val {kvs : List (κ × V)} {vs : List (κ × Value)} (r : KV kvs vs) (k : κ) : RelO (valV kvs k) (valueAt vs k) := by
  unfold KV at r
  induction r with
  | nil => exact True.intro
  | @cons p q ps qs h t ih =>
    obtain ⟨h1, h2⟩ := h
    by_cases e : p.1 = k
    · have e' : q.1 = k := h1.symm.trans e
      have b : valueAt (q :: qs) k = some q.2 := by simp [valueAt, List.find?_cons, e']
      rw [valV_pos e, b]; exact h2
    · have e' : ¬ q.1 = k := fun z => e (h1.trans z)
      have b : valueAt (q :: qs) k = valueAt qs k := by simp [valueAt, List.find?_cons, e']
      rw [valV_neg e, b]; exact ih
theorem KV.any {kvs : List (κ × V)} {vs : List (κ × Value)} (r : KV kvs vs) (k : κ) : (kvs.any fun kv => decide (kv.1 = k)) = vs.any fun kv => decide (kv.1 = k) := by
  unfold KV at r
  induction r with
  | nil => rfl
  | cons h t ih => rw [List.any_cons, List.any_cons, ih, h.1]
theorem KV.repl {kvs : List (κ × V)} {vs : List (κ × Value)} (r : KV kvs vs) (k : κ) {y : V} {u : Value} (ry : RelV y u) :
    KV (kvs.map fun kv => if kv.1 = k then (kv.1, y) else kv) (vs.map fun kv => if kv.1 = k then (kv.1, u) else kv) := by
  unfold KV at r ⊢
  induction r with
  | nil => exact .nil
  | @cons p q ps qs h t ih =>
    rw [List.map_cons, List.map_cons]
    refine .cons ?_ ih
    obtain ⟨h1, h2⟩ := h
    by_cases e : p.1 = k
    · rw [if_pos e, if_pos (h1.symm.trans e)]; exact ⟨h1, ry⟩
    · rw [if_neg e, if_neg (fun z => e (h1.trans z))]; exact ⟨h1, h2⟩
theorem KV.put {kvs : List (κ × V)} {vs : List (κ × Value)} (r : KV kvs vs) (k : κ) {y : V} {u : Value} (ry : RelV y u) : KV (putK kvs k y) (stored vs k u) := by
  unfold putK stored
  rw [r.any k]
  by_cases e : (vs.any fun kv => decide (kv.1 = k)) = true
  · rw [if_pos e, if_pos e]; exact r.repl k ry
  · rw [if_neg e, if_neg e]; exact Paired.snoc r ⟨rfl, ry⟩
end

/-! ### a tracked dict, its keys ints and texts or tuples of these -/
theorem kV_is {P : Program} {w : World} {k : Key} {u : Value} (r : RelV (kV k) u) : (mixKind P w).is k u = true := by
  cases k with
  | inl i => obtain ⟨t, e⟩ := (show ∃ t, u = Value.int i t from r); subst e; exact mixKind_int P w i t
  | inr x => obtain ⟨t, e⟩ := (show ∃ t, u = Value.str x t from r); subst e; exact mixKind_str P w x t
theorem items_are {P : Program} {w : World} : ∀ {ks : List Key} {us : List Value}, Vals (ks.map kV) us → ItemsAre (mixKind P w) ks us
  | [], _, r => by rw [List.map_nil] at r; cases r; exact .nil
  | k :: ks, _, r => by
    rw [List.map_cons] at r
    cases r with
    | cons h t => exact .cons (kV_is h) (items_are t)

/-- raw entries of a dict with tuple keys -/
abbrev KT (H : Hp) : List (List Key × V) → List (List Key × Addr × Value) → Prop := Paired fun p q => p.1 = q.1 ∧ H q.2.1 = some (.tup (p.1.map kV)) ∧ RelV p.2 q.2.2
theorem KT.val {H : Hp} {kvs : List (List Key × V)} {xs : List (List Key × Addr × Value)} (r : KT H kvs xs) (k : List Key) : RelO (valV kvs k) ((atKey xs k).map (·.2)) := by
  induction r with
  | nil => exact True.intro
  | @cons p q ps qs h t ih =>
    obtain ⟨h1, _, h2⟩ := h
    by_cases e : p.1 = k
    · have e' : q.1 = k := h1.symm.trans e
      have b : atKey (q :: qs) k = some q.2 := by simp [atKey, List.find?_cons, e']
      rw [valV_pos e, b]; exact h2
    · have e' : ¬ q.1 = k := fun z => e (h1.trans z)
      have b : atKey (q :: qs) k = atKey qs k := by simp [atKey, List.find?_cons, e']
      rw [valV_neg e, b]; exact ih
section
variable {P : Program} {w : World} {H : Hp} {h : Heap} {a : Addr}
theorem rd_of {u : HO} (ok : HOk P w H h) (e : Rd H a u) : ObjOk P w H h a u := e.ok ok
theorem dk_rd {kvs : List (Key × V)} (ok : HOk P w H h) (e : Rd H a (.dK kvs)) : kvs.length ≤ sizeLine ∧ (a == sysModules) = false ∧ ∃ vs, KV kvs vs ∧ h.DictOf (mixKind P w) a vs :=
  show ObjOk P w H h a (.dK kvs) from rd_of ok e
theorem dk_of {kvs : List (Key × V)} (ok : HOk P w H h) (e : H a = some (.dK kvs)) : kvs.length ≤ sizeLine ∧ (a == sysModules) = false ∧ ∃ vs, KV kvs vs ∧ h.DictOf (mixKind P w) a vs := dk_rd ok (.inl e)
/-- a tracked tuple of ints and texts is a key -/
theorem key_of {ks : List Key} (ok : HOk P w H h) (e : H a = some (.tup (ks.map kV))) : (tupleKind (mixKind P w)).is h ks a := by
  obtain ⟨_, its, r, o, h1, h2, n, h3⟩ := (show ObjOk P w H h a (.tup (ks.map kV)) from ok a _ e)
  exact ⟨o, its.toArray, n, h1, h2, h3, by simpa using items_are r⟩
theorem dt_rd {kvs : List (List Key × V)} (ok : HOk P w H h) (e : Rd H a (.dT kvs)) : kvs.length ≤ sizeLine ∧ (a == sysModules) = false ∧
    ∃ xs, KT H kvs xs ∧ h.DictOfH (tupleKind (mixKind P w)) a xs := by
  obtain ⟨z, y, xs, r, o, es, ep, h1, h2, h3, h4, h5⟩ := (show ObjOk P w H h a (.dT kvs) from rd_of ok e)
  refine ⟨z, y, xs, r, o, es, ep, h1, h2, h3, h4, fun x hx => ?_, h5⟩
  have all : ∀ {l : List (List Key × V)} {m : List (List Key × Addr × Value)}, KT H l m → ∀ x ∈ m, (tupleKind (mixKind P w)).is h x.1 x.2.1 := by
    intro l m q
    induction q with
    | nil => intro x hx; exact nomatch hx
    | @cons p q ps qs hq t ih =>
      intro x hx
      rcases List.mem_cons.mp hx with e | hx
      · subst e
        exact key_of ok (by rw [← hq.1]; exact hq.2.1)
      · exact ih x hx
  exact all r x hx
end

/-- what the dict at a holds at the key y -/
def DGet (H : Hp) (a : Addr) (y : V) (r : Option V) : Prop :=
  (∃ kvs k, Rd H a (.dK kvs) ∧ y = kV k ∧ r = valV kvs k) ∨ ∃ kvs k b, Rd H a (.dT kvs) ∧ y = .ref b ∧ H b = some (.tup (k.map kV)) ∧ r = valV kvs k
/-- the heap behind a[y] = v -/
def DPut (H : Hp) (a : Addr) (y v : V) (H' : Hp) : Prop :=
  (∃ kvs k, H a = some (.dK kvs) ∧ y = kV k ∧ kvs.length < sizeLine ∧ H' = upd H a (.dK (putK kvs k v))) ∨
  ∃ kvs k b, H a = some (.dT kvs) ∧ y = .ref b ∧ H b = some (.tup (k.map kV)) ∧ kvs.length < sizeLine ∧ H' = upd H a (.dT (putK kvs k v))
theorem DGet.k {H : Hp} {a : Addr} {kvs : List (Key × V)} {k : Key} (e : H a = some (.dK kvs)) : DGet H a (kV k) (valV kvs k) := .inl ⟨kvs, k, .inl e, rfl, rfl⟩
section
variable {X : Cx} {pins : List (Addr × Obj)} {σ : St} {H : Hp} {s : Shared} {a : Addr} {y v : V} {u r : Value} {o : Option V} {A : Around} {E : Value → Shared → Prop}

/-- a dict's object is replaced -/
theorem d_write {h' : Heap} {t' : Nat} {ob : HO} (I : Inv X pins σ H s) (mu : Mut (H a)) (hs : Heap.SameBut a s.heap h') (he : ∃ q, h'.get? a = some q) (new : ObjOk X.prog X.w (upd H a ob) h' a ob) :
    Inv X pins σ (upd H a ob) { s with heap := h', toks := t' } :=
  I.write (x := a) (e := a) mu (.inl rfl) (fun b q hb z => (hs.2 b hb).trans z) he new
theorem dk_new {P : Program} {w : World} {H' : Hp} {h' : Heap} {kvs : List (Key × V)} {vs : List (Key × Value)} (z : kvs.length ≤ sizeLine) (hd : (a == sysModules) = false) (rel : KV kvs vs) (dd : h'.DictOf (mixKind P w) a vs) :
    ObjOk P w H' h' a (.dK kvs) := ⟨z, hd, vs, rel, dd⟩
end

section
variable {X : Cx} {pins : List (Addr × Obj)} {σ : St} {H : Hp} {s : Shared} {a : Addr} {kvs : List (Key × V)} {k : Key} {u : Value} {A : Around} {E : Value → Shared → Prop}
end

/-! ### readings and rules -/
/-- the element of a subscription, not a slice -/
def NoSl (i : Expr) : Prop := ∀ ov iv, subscripted i false ov iv = operate [ov, iv] (getItem ov iv)
/-- d[y] -/
def tDGet (td ty : TE) : TE := fun σ H Q => td σ H fun x H1 => ty σ H1 fun y H2 => ∃ a v, x = .ref a ∧ DGet H2 a y (some v) ∧ Q v H2
/-- y in d, y not in d -/
def tDIn (ty td : TE) : TE := fun σ H Q => ty σ H fun y H1 => td σ H1 fun x H2 => ∃ a o, x = .ref a ∧ DGet H2 a y o ∧ Q (.bl o.isSome) H2
def tDNotIn (ty td : TE) : TE := fun σ H Q => ty σ H fun y H1 => td σ H1 fun x H2 => ∃ a o, x = .ref a ∧ DGet H2 a y o ∧ Q (.bl (!o.isSome)) H2
/-- d[y] = v -/
def sDPut (td ty tv : TE) : TS := fun D σ H => tv σ H fun v H1 => td σ H1 fun x H2 => ty σ H2 fun y H3 => ∃ a H4, x = .ref a ∧ DPut H3 a y v H4 ∧ D.nx σ H4
/-- d[y] op= v -/
def sDAug (td ty tv : TE) (rd : V → V → Hp → VK → Prop) : TS := fun D σ H => td σ H fun x H1 => ty σ H1 fun y H2 => ∃ a v, x = .ref a ∧ DGet H2 a y (some v) ∧
  tv σ H2 fun y2 H3 => rd v y2 H3 fun z H4 => ∃ H5, DPut H4 a y z H5 ∧ D.nx σ H5
/-- del d[y] -/
def sDDel (td ty : TE) : TS := fun D σ H => td σ H fun x H1 => ty σ H1 fun y H2 => ∃ a kvs k, x = .ref a ∧ H2 a = some (.dK kvs) ∧ y = kV k ∧ (valV kvs k).isSome = true ∧ D.nx σ (upd H2 a (.dK (dropK kvs k)))

section
variable {X : Cx} {o i e value : Expr} {pos pos' tpos : Pos} {td ty tv : TE}
end

/-! ### displays -/
/-- {}, to be a dict of the kind that is wanted -/
def tDNewT : TE := fun _ H Q => ∀ p, H p = none → Q (.ref p) (upd H p (.dT []))
section
variable {X : Cx} {pos : Pos}
end

/-- the pairs of a display, from the left -/
def tPairs : List (TE × TE) → St → Hp → (List (V × V) → Hp → Prop) → Prop
  | [], _, H, Q => Q [] H
  | (tk, tv) :: r, σ, H, Q => tk σ H fun x H1 => tv σ H1 fun y H2 => tPairs r σ H2 fun ps H3 => Q ((x, y) :: ps) H3
abbrev VV : List (V × V) → List (Value × Value) → Prop := Paired fun p q => RelV p.1 q.1 ∧ RelV p.2 q.2
def PPs (X : Cx) (pos : Pos) (keys : List (Option Expr)) (values : List Expr) (trs : List (TE × TE)) : Prop :=
  ∀ (pins : List (Addr × Obj)) (s : Shared) (σ : St) (H : Hp) (Q : List (V × V) → Hp → Prop), Inv X pins σ H s → tPairs trs σ H Q →
    wpAny (model X.prog X.w) X.A (evalPairs (pairTrees keys values X.env pos)) (fun vs s' => ∃ ps H', Inv X pins σ H' s' ∧ VV ps vs ∧ Q ps H') X.xe s
theorem pps_nil {X : Cx} {pos : Pos} : PPs X pos [] [] [] := fun pins s σ H Q I h => pairTrees_nil_walk ⟨[], H, I, .nil, h⟩
theorem pps_cons {X : Cx} {pos : Pos} {k v : Expr} {ks : List (Option Expr)} {vs : List Expr} {tk tv : TE} {trs : List (TE × TE)} (hk : PE X k tk) (hv : PE X v tv) (hr : PPs X pos ks vs trs) :
    PPs X pos (some k :: ks) (v :: vs) ((tk, tv) :: trs) := fun pins s σ H Q I h =>
  pairTrees_cons_walk (thn (hk pins s σ H _ I h) fun u s1 ⟨x, H1, I1, rx, q1⟩ => thn (hv pins s1 σ H1 _ I1 q1) fun w2 s2 ⟨y, H2, I2, ry, q2⟩ =>
    thn (hr pins s2 σ H2 _ I2 q2) fun ws s3 ⟨ps, H3, I3, rel, q3⟩ => ⟨(x, y) :: ps, H3, I3, .cons ⟨rx, ry⟩ rel, q3⟩)

def mergeK (kvs more : List (Key × V)) : List (Key × V) := more.foldl (fun acc kv => putK acc kv.1 kv.2) kvs
theorem KV.merge : ∀ {more : List (Key × V)} {rs : List (Key × Value)} {kvs : List (Key × V)} {vs : List (Key × Value)}, KV more rs → KV kvs vs → KV (mergeK kvs more) (merged vs rs) := by
  intro more rs kvs vs r
  unfold KV at r
  induction r generalizing kvs vs with
  | nil => intro q; exact q
  | @cons p q ps qs h t ih =>
    intro r0
    have e : KV (putK kvs p.1 p.2) (stored vs q.1 q.2) := by
      have := r0.put p.1 h.2
      rw [← h.1]; exact this
    exact ih e
theorem length_mergeK : ∀ (more kvs : List (Key × V)), (mergeK kvs more).length ≤ kvs.length + more.length
  | [], kvs => by show kvs.length ≤ kvs.length + 0; omega
  | p :: r, kvs => by
    have h1 := length_mergeK r (putK kvs p.1 p.2)
    have h2 := length_putK kvs p.1 p.2
    show (mergeK (putK kvs p.1 p.2) r).length ≤ _
    rw [List.length_cons]; omega
theorem carries_of {P : Program} {w : World} : ∀ {kvs : List (Key × V)} {ws : List (Value × Value)}, VV (kvs.map fun kv => (kV kv.1, kv.2)) ws → ∃ rs, Carries (mixKind P w) ws rs ∧ KV kvs rs
  | [], _, r => by rw [List.map_nil] at r; cases r; exact ⟨[], True.intro, .nil⟩
  | p :: kvs, _, r => by
    rw [List.map_cons] at r
    cases r with
    | @cons a b as bs h t =>
      obtain ⟨rs, c, q⟩ := carries_of (P := P) (w := w) t
      obtain ⟨b1, b2⟩ := b
      exact ⟨(p.1, b2) :: rs, ⟨kV_is h.1, rfl, c⟩, .cons ⟨rfl, h.2⟩ q⟩
/-- {k: v, ..} with keys ints and texts; the new dict stands empty while the pairs are made -/
def tDisp (trs : List (TE × TE)) : TE := fun σ H Q => ∀ p, H p = none → tPairs trs σ (upd H p (.dK [])) fun ps H2 => H2 p = some (.dK []) ∧ ∃ kvs : List (Key × V), ps = kvs.map (fun kv => (kV kv.1, kv.2)) ∧ kvs.length ≤ 15 ∧ Q (.ref p) (upd H2 p (.dK (mergeK [] kvs)))
theorem pe_disp {X : Cx} {pos : Pos} {keys : List (Option Expr)} {values : List Expr} {trs : List (TE × TE)} (h : PPs X pos keys values trs) (hall : keys.all (·.isSome) = true) (hl : keys.length = values.length) (h0 : keys ≠ [])
    (h15 : keys.length ≤ 15) : PE X (.Dict keys values pos) (tDisp trs) := by
  intro pins s σ H Q I q
  have hn := I.hok.fresh (Nat.le_refl s.heap.objs.size)
  have I1 := I.laid (a := s.heap.objs.size) (o := .dK []) (h' := s.heap.push { cls := .type "dict", data := .dict #[] }) (t' := s.toks) (fun _ _ q => Heap.get?_push_of_some _ q) (Nat.le_refl _) (dk_empty s.heap I.big)
  refine wpAny_Dict_walk (knd := mixKind X.prog X.w) hall hl h0 h15 (thn (h pins _ σ _ _ I1 (q _ hn)) fun ws s2 ⟨ps, H2, I2, rel, e, kvs, ep, lk, q2⟩ => ?_)
  subst ep
  obtain ⟨rs, c, rk⟩ := carries_of (P := X.prog) (w := X.w) rel
  obtain ⟨z, hd, vs0, r0, dd⟩ := dk_of I2.hok e
  cases r0
  refine ⟨rs, c, dd, fun h' dd' hs => ⟨.ref s.heap.objs.size, _, ?_, rfl, q2⟩⟩
  have hz : (mergeK [] kvs).length ≤ sizeLine := by
    have h1 := length_mergeK kvs []
    rw [List.length_nil] at h1
    rw [sizeLine_eq]; omega
  have he : ∃ q, h'.get? s.heap.objs.size = some q := let ⟨q, _, _, hq, _⟩ := dd'; ⟨q, hq⟩
  exact d_write I2 (by rw [e]; exact True.intro) hs he (dk_new hz hd (rk.merge .nil) dd')

/-! ### methods -/
/-- a method call o.m(e) of a built-in, with one argument: what must be seen of the text -/
structure M1 (X : Cx) (o : Expr) (m : Str) (apos : Pos) (e : Expr) (cpos : Pos) : Prop where
  base : attributeBase o m X.env (eval o X.env) = eval o X.env
  few : ((backTo cpos (starEach [e] X.env)).all (fun x => !x.1) && (backToKw cpos (keywordEach [] X.env)).all (fun x => x.1.isSome)
    && decide (([e] : List Expr).length + ([] : List Keyword).length + (if ([] : List Keyword).isEmpty then 0 else 1) < 30)) = true
  line : (apos.endLine == cpos.line) = true
  trees : backTo cpos (starEach [e] X.env) = [(false, eval e X.env)]
structure M2 (X : Cx) (o : Expr) (m : Str) (apos : Pos) (e f : Expr) (cpos : Pos) : Prop where
  base : attributeBase o m X.env (eval o X.env) = eval o X.env
  few : ((backTo cpos (starEach [e, f] X.env)).all (fun x => !x.1) && (backToKw cpos (keywordEach [] X.env)).all (fun x => x.1.isSome)
    && decide (([e, f] : List Expr).length + ([] : List Keyword).length + (if ([] : List Keyword).isEmpty then 0 else 1) < 30)) = true
  line : (apos.endLine == cpos.line) = true
  trees : backTo cpos (starEach [e, f] X.env) = [(false, eval e X.env), (false, eval f X.env)]

/-- a is a dict, whatever its keys -/
def IsD (H : Hp) (a : Addr) : Prop := (∃ kvs, Rd H a (.dK kvs)) ∨ ∃ kvs, Rd H a (.dT kvs)
theorem isD_at {X : Cx} {pins : List (Addr × Obj)} {σ : St} {H : Hp} {s : Shared} {a : Addr} (I : Inv X pins σ H s) (d : IsD H a) :
    s.TypeIs (.ref a) "dict" ∧ (∀ b, Value.ref a = .ref b → ∃ ob, s.heap.get? b = some ob ∧ ob.dict = none) ∧ (a == sysModules) = false := by
  rcases d with ⟨kvs, e⟩ | ⟨kvs, e⟩
  · obtain ⟨_, hd, vs, _, dd⟩ := dk_rd I.hok e
    refine ⟨dd.typeIs, fun b q => ?_, hd⟩
    cases q
    obtain ⟨ob, _, _, h1, h2, _⟩ := dd
    exact ⟨ob, h1, h2.2.1⟩
  · obtain ⟨_, hd, xs, _, dd⟩ := dt_rd I.hok e
    refine ⟨dd.typeIs, fun b q => ?_, hd⟩
    cases q
    obtain ⟨ob, _, _, h1, h2, _⟩ := dd
    exact ⟨ob, h1, h2.2.1⟩

section
variable {X : Cx} {pins : List (Addr × Obj)} {σ : St} {H : Hp} {s : Shared} {a : Addr} {y d : V} {u r : Value} {o : Option V} {A : Around} {E : Value → Shared → Prop}
/-- d.get(y, x) -/
theorem d_get2 {Q : Value → Shared → Prop} (hu : A.units + 1 < cLine) (I : Inv X pins σ H s) (g : DGet H a y o) (ry : RelV y u) (rd : RelV d r) (h : ∀ w' s', Inv X pins σ H s' → RelV (o.getD d) w' → Q w' s') :
    wpAny (model X.prog X.w) A (call (.builtin "dict.get") [.ref a, u, r]) Q E s := by
  rcases g with ⟨kvs, k, e, ey, l⟩ | ⟨kvs, k, b, e, ey, eb, l⟩
  · subst ey
    obtain ⟨z, hd, vs, rel, dd⟩ := dk_rd I.hok e
    refine call_meetsIn PySem.F.slot_dict_get dd.typeIs PySem.F.entry_dict_get (PySem.F.args_dict_get_3 _ _ _) (meets_dict_get_default (mixKind X.prog X.w) a (kV_is ry) hd r) ⟨_, dd.mapOf, h _ _ (I.tok _) ?_⟩
    rw [l]
    exact (rel.val k).getD rd
  · subst ey
    cases (show u = Value.ref b from ry)
    obtain ⟨z, hd, xs, rel, dd⟩ := dt_rd I.hok e
    refine call_meetsIn PySem.F.slot_dict_get dd.typeIs PySem.F.entry_dict_get (PySem.F.args_dict_get_3 _ _ _) (meetsH_dict_get_default (tupleKind (mixKind X.prog X.w)) a b hd r) ⟨tupleKind_room_in1 hu, k, xs, key_of I.hok eb, dd, h _ _ (I.tok _) ?_⟩
    rw [l]
    exact (rel.val k).getD rd
end

def tDGet1 (td ty : TE) : TE := fun σ H Q => td σ H fun x H1 => ∃ a, x = .ref a ∧ IsD H1 a ∧ ty σ H1 fun y H2 => ∃ o, DGet H2 a y o ∧ Q (o.getD .non) H2
def tDGet2 (td ty tx : TE) : TE := fun σ H Q => td σ H fun x H1 => ∃ a, x = .ref a ∧ IsD H1 a ∧ ty σ H1 fun y H2 => tx σ H2 fun z H3 => ∃ o, DGet H3 a y o ∧ Q (o.getD z) H3
/-- d.pop(k): there; d.pop(k, x): there or not -/
def tDPop1 (td ty : TE) : TE := fun σ H Q => td σ H fun x H1 => ∃ a, x = .ref a ∧ IsD H1 a ∧ ty σ H1 fun y H2 => ∃ kvs k v, H2 a = some (.dK kvs) ∧ y = kV k ∧ valV kvs k = some v ∧ Q v (upd H2 a (.dK (dropK kvs k)))
def tDPop2 (td ty tx : TE) : TE := fun σ H Q => td σ H fun x H1 => ∃ a, x = .ref a ∧ IsD H1 a ∧ ty σ H1 fun y H2 => tx σ H2 fun z H3 => ∃ kvs k, H3 a = some (.dK kvs) ∧ y = kV k ∧
  (∀ v, valV kvs k = some v → Q v (upd H3 a (.dK (dropK kvs k)))) ∧ (valV kvs k = none → Q z H3)
section
variable {X : Cx} {o e f : Expr} {apos cpos : Pos} {td ty tx : TE}
theorem pe_dget2 (hu : X.A.units + 1 < cLine) (ho : PE X o td) (he : PE X e ty) (hf : PE X f tx) (m : M2 X o "get" apos e f cpos) : PE X (.Call (.Attribute o "get" apos) [e, f] [] cpos) (tDGet2 td ty tx) := by
  intro pins s σ H Q I h
  refine wpAny_Call_method m.base m.few m.line PySem.F.plainAttrs_dict PySem.F.slot_dict_get PySem.F.type_dict_get (thn (ho pins s σ H _ I h) fun u s1 ⟨x, H1, I1, rx, a, ex, d, q1⟩ => ?_)
  subst ex
  obtain rfl : u = Value.ref a := rx
  obtain ⟨t1, t2, _⟩ := isD_at I1 d
  refine ⟨t1, t2, ?_⟩
  rw [m.trees]
  refine Calls.callWith_builtin rfl (Calls.evalArgs_plain (Calls.spliced_cons (thn (he pins s1 σ H1 _ I1 q1) fun iv s2 ⟨y, H2, I2, ry, q2⟩ =>
    Calls.spliced_cons (thn (hf pins s2 σ H2 _ I2 q2) fun fv s3 ⟨z, H3, I3, rz, ov, g, q3⟩ => Calls.spliced_nil ?_))))
  exact d_get2 hu I3 g ry rz fun w' s4 I4 rw' => ⟨_, H3, I4, rw', q3⟩
end

end L2

namespace HL
open PySem PySem.W
/-! What is seen of the heap that the top has left, by the fragment of all its objects. -/
def frag (h : Heap) : Frag := (List.range h.objs.size).filterMap fun a => (h.get? a).map fun o => (a, o)
theorem frag_go (h : Heap) (a : Addr) (o : Obj) : ∀ l : List Nat, ((l.filterMap fun a => (h.get? a).map fun o => (a, o)) : Frag).lookup a = some o → h.get? a = some o := by
  intro l
  induction l with
  | nil => intro e; cases e
  | cons b l ih =>
    intro e
    cases q : h.get? b with
    | none => rw [List.filterMap_cons, q] at e; exact ih e
    | some x =>
      rw [List.filterMap_cons, q] at e
      dsimp only [Option.map] at e
      rw [List.lookup_cons] at e
      cases z : (a == b) with
      | true => rw [z] at e; cases e; rw [beq_iff_eq.mp z]; exact q
      | false => rw [z] at e; exact ih e
theorem frag_in (h : Heap) : (frag h).In h := fun a o e => frag_go h a o _ e
def nth {α : Type} : List α → Nat → Option α
  | [], _ => none
  | x :: _, 0 => some x
  | _ :: l, n + 1 => nth l n
theorem nth_of {α : Type} {l m : List α} (h : l = m) (i : Nat) : nth l i = nth m i := by rw [h]
theorem all_of {α : Type} {x : α} {f : α → Bool} : ∀ {l : List α} (i : Nat), l.all f = true → nth l i = some x → f x = true
  | y :: l, 0, h, e => by cases e; rw [List.all_cons, Bool.and_eq_true] at h; exact h.1
  | y :: l, i + 1, h, e => by rw [List.all_cons, Bool.and_eq_true] at h; exact all_of i h.2 e
abbrev FV := Str × Str × Arguments × FuncBody × Scope × Addr × List (Str × Addr) × Value × Addr × Bool
def fdOf (K : Frag) (f : Addr) : FuncData := match K.lookup f with
  | some o => (match o.data with | .func fd => fd | _ => default)
  | _ => default
def fv (K : Frag) (f : Addr) : Option FV := match K.lookup f with
  | some o => (match o.data with
    | .func fd => some (fd.name, fd.qualname, fd.params, fd.body, fd.scope, fd.globals, fd.closure, fd.defaults, fd.builtins, codeIn K fd.code fd.qualname)
    | _ => none)
  | _ => none
def fx (x qual : Str) (st : Stmt) (dV : Value) : Option FV := some (x, qual, L2.defArgs st, .stmts (L2.defBody st), L2.defScope st, mainGlobals, [], dV, builtinsNs, true)
theorem fun_of {K : Frag} {f : Addr} {x qual : Str} {st : Stmt} (h : fv K f = fx x qual st .none) (k : keepIn K (.ref f) = true) : L2.Fun K x qual st f (fdOf K f) := by
  unfold fv fx at h
  cases q : K.lookup f with
  | none => rw [q] at h; cases h
  | some o =>
    obtain ⟨oc, od, dt, sl⟩ := o
    rw [q] at h
    cases dt with
    | func fd =>
      obtain ⟨a1, a2, a3, a4, a5, a6, a7, a8, a9, a10, a11, a12, a13, a14, a15⟩ := fd
      simp only [Option.some.injEq, Prod.mk.injEq] at h
      obtain ⟨rfl, rfl, rfl, rfl, rfl, rfl, rfl, rfl, rfl, e⟩ := h
      have z : fdOf K f = fnOf a1 a2 (L2.defArgs st) (L2.defBody st) (L2.defScope st) .none a9 a10 a11 a12 a13 a14 := by unfold fdOf; rw [q]
      rw [z]
      exact L2.fun_mk q e k
    | _ => cases h
theorem funD_of {K : Frag} {f : Addr} {x qual : Str} {st : Stmt} {dV : Value} (h : fv K f = fx x qual st dV) : ∃ (oc : Value) (od : Option Addr) (sl : Array (Option Value)) (kV doc pm : Value) (an : Option Addr) (cdv ct : Value),
    fdOf K f = fnOf x qual (L2.defArgs st) (L2.defBody st) (L2.defScope st) dV kV doc pm an cdv ct ∧ K.lookup f = some ⟨oc, od, .func (fnOf x qual (L2.defArgs st) (L2.defBody st) (L2.defScope st) dV kV doc pm an cdv ct), sl⟩ ∧ codeIn K cdv qual = true := by
  unfold fv fx at h
  cases q : K.lookup f with
  | none => rw [q] at h; cases h
  | some o =>
    obtain ⟨oc, od, dt, sl⟩ := o
    rw [q] at h
    cases dt with
    | func fd =>
      obtain ⟨a1, a2, a3, a4, a5, a6, a7, a8, a9, a10, a11, a12, a13, a14, a15⟩ := fd
      simp only [Option.some.injEq, Prod.mk.injEq] at h
      obtain ⟨rfl, rfl, rfl, rfl, rfl, rfl, rfl, rfl, rfl, e⟩ := h
      exact ⟨oc, od, sl, a9, a10, a11, a12, a13, a14, by unfold fdOf; rw [q], rfl, e⟩
    | _ => cases h
def seqOf (K : Frag) (a : Addr) : Option (List Value) := match K.lookup a with
  | some o => (match o.data with | .seq vs _ => some vs.toList | _ => none)
  | _ => none
theorem seq_of {K : Frag} {a : Addr} {l : List Value} (h : seqOf K a = some l) : ∃ o n, K.lookup a = some o ∧ o.data = .seq l.toArray n := by
  unfold seqOf at h
  cases q : K.lookup a with
  | none => rw [q] at h; cases h
  | some o =>
    rw [q] at h
    obtain ⟨oc, od, dt, sl⟩ := o
    cases dt with
    | seq vs n => obtain rfl : vs.toList = l := Option.some.inj h; exact ⟨_, n, rfl, rfl⟩
    | _ => cases h
def iv : Option (Option Value) → Option Int
  | some (some (.int i _)) => some i
  | _ => none
theorem int_of {o : Option (Option Value)} {i : Int} (h : iv o = some i) : ∃ t, o = some (some (.int i t)) := by
  unfold iv at h
  split at h
  · cases h; exact ⟨_, rfl⟩
  · cases h
theorem seq_one {K : Frag} {a : Addr} {i : Int} (h : iv ((seqOf K a).map List.head?) = some i) (n : (seqOf K a).map (fun l => (l.length : Int)) = some 1) : ∃ o t n, K.lookup a = some o ∧ o.data = .seq #[.int i t] n := by
  cases q : seqOf K a with
  | none => rw [q] at n; cases n
  | some l =>
    rw [q] at h n
    match l, q, h, n with
    | [v], q, h, _ =>
      obtain ⟨t, e⟩ := int_of h
      obtain ⟨o, n, h1, h2⟩ := seq_of q
      have e2 : v = .int i t := by simpa using e
      exact ⟨o, t, n, h1, by rw [h2, e2]⟩
    | [], _, h, _ => cases h
    | _ :: _ :: _, _, _, n => simp at n; omega
end HL

set_option maxRecDepth 1000000
set_option maxHeartbeats 0
theorem k07.law_of (h : PySem.Challenge.rw_formkin_k07_kinds.row.wellSaid = true → PySem.Challenge.rw_formkin_k07_kinds.row.Holds) : PySem.Challenge.rw_formkin_k07_kinds.Holds := by
  o_law
  exact h (by assumption)

set_option maxRecDepth 1000000
set_option maxHeartbeats 0
namespace K7
open PySem PySem.W HL L2
def topOf (p : Program) (i : Nat) : Stmt := p.main.body.getD i (.Pass ⟨0, 0, 0, 0⟩)
abbrev top (i : Nat) : Stmt := topOf PySem.Challenge.pw_formkin_k07_kinds i
abbrev keep : List Nat := [1, 2, 3, 4, 5, 7, 8, 9, 10, 11, 12, 13, 14, 15, 16, 17, 18, 19, 20, 21, 23, 24, 25, 26, 27, 28, 29, 30, 31, 32, 33, 34, 35]
def obsA (K : Frag) : List (Option (Option Value)) := [nsIn K mainGlobals "len",
  nsIn K mainGlobals "range",
  nsIn K mainGlobals "isinstance",
  nsIn K mainGlobals "max",
  nsIn K mainGlobals "all",
  nsIn K mainGlobals "ord",
  nsIn K mainGlobals "zip",
  nsIn K mainGlobals "int",
  nsIn K mainGlobals "bool",
  nsIn K mainGlobals "list",
  nsIn K mainGlobals "str",
  nsIn K mainGlobals "is_whole",
  nsIn K mainGlobals "is_among",
  nsIn K mainGlobals "number_text",
  nsIn K mainGlobals "is_sign",
  nsIn K mainGlobals "_law_number",
  nsIn K mainGlobals "_law_mixed",
  nsIn K mainGlobals "_law_names",
  nsIn K mainGlobals "_law_bound",
  nsIn K mainGlobals "_law_drawn",
  nsIn K mainGlobals "_law_made_of",
  nsIn K mainGlobals "_law_words",
  nsIn K mainGlobals "_law_width",
  nsIn K mainGlobals "_law_suits",
  nsIn K mainGlobals "_law_asked_of",
  nsIn K mainGlobals "_law_right",
  nsIn K mainGlobals "_law_held",
  nsIn K mainGlobals "law",
  nsIn K mainGlobals "Kind",
  nsIn K mainGlobals "Truth",
  nsIn K mainGlobals "Count",
  nsIn K mainGlobals "Whole",
  nsIn K mainGlobals "Upto",
  nsIn K mainGlobals "Text",
  nsIn K mainGlobals "List",
  nsIn K mainGlobals "Nested",
  findIn K (.ref 143) "__init__",
  findIn K (.ref 143) "word",
  findIn K (.ref 143) "words",
  findIn K (.ref 143) "is_plain",
  findIn K (.ref 143) "shape",
  findIn K (.ref 143) "width",
  findIn K (.ref 143) "suits",
  findIn K (.ref 143) "blank",
  findIn K (.ref 143) "most",
  findIn K (.ref 143) "item",
  findIn K (.ref 143) "name",
  findIn K (.ref 143) "__setattr__",
  findIn K (.ref 143) "__class__",
  findIn K (.ref 176) "__init__",
  findIn K (.ref 176) "word",
  findIn K (.ref 176) "words",
  findIn K (.ref 176) "is_plain",
  findIn K (.ref 176) "shape",
  findIn K (.ref 176) "width",
  findIn K (.ref 176) "suits",
  findIn K (.ref 176) "blank",
  findIn K (.ref 176) "most",
  findIn K (.ref 176) "item",
  findIn K (.ref 176) "name",
  findIn K (.ref 176) "__setattr__",
  findIn K (.ref 176) "__class__",
  findIn K (.ref 209) "__init__",
  findIn K (.ref 209) "word",
  findIn K (.ref 209) "words",
  findIn K (.ref 209) "is_plain",
  findIn K (.ref 209) "shape",
  findIn K (.ref 209) "width",
  findIn K (.ref 209) "suits",
  findIn K (.ref 209) "blank",
  findIn K (.ref 209) "most",
  findIn K (.ref 209) "item",
  findIn K (.ref 209) "name",
  findIn K (.ref 209) "__setattr__",
  findIn K (.ref 209) "__class__",
  findIn K (.ref 263) "__init__",
  findIn K (.ref 263) "word",
  findIn K (.ref 263) "words",
  findIn K (.ref 263) "is_plain",
  findIn K (.ref 263) "shape",
  findIn K (.ref 263) "width",
  findIn K (.ref 263) "suits",
  findIn K (.ref 263) "blank",
  findIn K (.ref 263) "most",
  findIn K (.ref 263) "item",
  findIn K (.ref 263) "name",
  findIn K (.ref 263) "__setattr__",
  findIn K (.ref 263) "__class__",
  findIn K (.ref 316) "__init__",
  findIn K (.ref 316) "word",
  findIn K (.ref 316) "words",
  findIn K (.ref 316) "is_plain",
  findIn K (.ref 316) "shape",
  findIn K (.ref 316) "width",
  findIn K (.ref 316) "suits",
  findIn K (.ref 316) "blank",
  findIn K (.ref 316) "most",
  findIn K (.ref 316) "item",
  findIn K (.ref 316) "name",
  findIn K (.ref 316) "__setattr__",
  findIn K (.ref 316) "__class__",
  findIn K (.ref 375) "__init__",
  findIn K (.ref 375) "word",
  findIn K (.ref 375) "words",
  findIn K (.ref 375) "is_plain",
  findIn K (.ref 375) "shape",
  findIn K (.ref 375) "width",
  findIn K (.ref 375) "suits",
  findIn K (.ref 375) "blank",
  findIn K (.ref 375) "most",
  findIn K (.ref 375) "item",
  findIn K (.ref 375) "name",
  findIn K (.ref 375) "__setattr__",
  findIn K (.ref 375) "__class__",
  findIn K (.ref 429) "__init__",
  findIn K (.ref 429) "word",
  findIn K (.ref 429) "words",
  findIn K (.ref 429) "is_plain",
  findIn K (.ref 429) "shape",
  findIn K (.ref 429) "width",
  findIn K (.ref 429) "suits",
  findIn K (.ref 429) "blank",
  findIn K (.ref 429) "most",
  findIn K (.ref 429) "item",
  findIn K (.ref 429) "name",
  findIn K (.ref 429) "__setattr__",
  findIn K (.ref 429) "__class__",
  specialIn K (.builtin "object.__class__") "__get__"]
def expA : List (Option (Option Value)) := [some none,
  some none,
  some none,
  some none,
  some none,
  some none,
  some none,
  some none,
  some none,
  some none,
  some none,
  some (some (.ref 21)),
  some (some (.ref 28)),
  some (some (.ref 35)),
  some (some (.ref 42)),
  some (some (.ref 438)),
  some (some (.ref 445)),
  some (some (.ref 450)),
  some (some (.ref 457)),
  some (some (.ref 464)),
  some (some (.ref 471)),
  some (some (.ref 476)),
  some (some (.ref 483)),
  some (some (.ref 488)),
  some (some (.ref 493)),
  some (some (.ref 500)),
  some (some (.ref 507)),
  some (some (.ref 512)),
  some (some (.ref 101)),
  some (some (.ref 143)),
  some (some (.ref 176)),
  some (some (.ref 209)),
  some (some (.ref 263)),
  some (some (.ref 316)),
  some (some (.ref 375)),
  some (some (.ref 429)),
  some (some (.builtin "object.__init__")),
  some (some (.ref 119)),
  some (some (.ref 63)),
  some (some (.ref 70)),
  some (some (.ref 77)),
  some (some (.ref 126)),
  some (some (.ref 133)),
  some (some (.ref 140)),
  some none,
  some none,
  some none,
  some (some (.builtin "object.__setattr__")),
  some (some (.builtin "object.__class__")),
  some (some (.builtin "object.__init__")),
  some (some (.ref 159)),
  some (some (.ref 63)),
  some (some (.ref 70)),
  some (some (.ref 77)),
  some (some (.ref 84)),
  some (some (.ref 166)),
  some (some (.ref 173)),
  some none,
  some none,
  some none,
  some (some (.builtin "object.__setattr__")),
  some (some (.builtin "object.__class__")),
  some (some (.builtin "object.__init__")),
  some (some (.ref 192)),
  some (some (.ref 63)),
  some (some (.ref 70)),
  some (some (.ref 77)),
  some (some (.ref 84)),
  some (some (.ref 199)),
  some (some (.ref 206)),
  some none,
  some none,
  some none,
  some (some (.builtin "object.__setattr__")),
  some (some (.builtin "object.__class__")),
  some (some (.ref 225)),
  some (some (.ref 232)),
  some (some (.ref 239)),
  some (some (.ref 70)),
  some (some (.ref 77)),
  some (some (.ref 246)),
  some (some (.ref 253)),
  some (some (.ref 260)),
  some none,
  some none,
  some none,
  some (some (.builtin "object.__setattr__")),
  some (some (.builtin "object.__class__")),
  some (some (.ref 280)),
  some (some (.ref 287)),
  some (some (.ref 294)),
  some (some (.ref 70)),
  some (some (.ref 301)),
  some (some (.ref 84)),
  some (some (.ref 306)),
  some (some (.ref 313)),
  some none,
  some none,
  some none,
  some (some (.builtin "object.__setattr__")),
  some (some (.builtin "object.__class__")),
  some (some (.ref 332)),
  some (some (.ref 339)),
  some (some (.ref 346)),
  some (some (.ref 353)),
  some (some (.ref 360)),
  some (some (.ref 84)),
  some (some (.ref 365)),
  some (some (.ref 372)),
  some none,
  some none,
  some none,
  some (some (.builtin "object.__setattr__")),
  some (some (.builtin "object.__class__")),
  some (some (.ref 391)),
  some (some (.ref 398)),
  some (some (.ref 405)),
  some (some (.ref 412)),
  some (some (.ref 419)),
  some (some (.ref 84)),
  some (some (.ref 426)),
  some (some (.ref 98)),
  some none,
  some none,
  some none,
  some (some (.builtin "object.__setattr__")),
  some (some (.builtin "object.__class__")),
  some (some (.builtin "getset_descriptor.__get__"))]
def obsB (K : Frag) : List Bool := [plainGet K 143 Str.empty,
  hasDictIn K 143,
  plainOver K 143,
  plainGet K 176 Str.empty,
  hasDictIn K 176,
  plainOver K 176,
  plainGet K 209 Str.empty,
  hasDictIn K 209,
  plainOver K 209,
  plainGet K 263 Str.empty,
  hasDictIn K 263,
  plainOver K 263,
  plainGet K 316 Str.empty,
  hasDictIn K 316,
  plainOver K 316,
  plainGet K 375 Str.empty,
  hasDictIn K 375,
  plainOver K 375,
  plainGet K 429 Str.empty,
  hasDictIn K 429,
  plainOver K 429,
  makesIn K 143,
  keepIn K (.ref 143),
  makesIn K 176,
  keepIn K (.ref 176),
  makesIn K 209,
  keepIn K (.ref 209),
  makesIn K 263,
  keepIn K (.ref 263),
  makesIn K 316,
  keepIn K (.ref 316),
  makesIn K 375,
  keepIn K (.ref 375),
  makesIn K 429,
  keepIn K (.ref 429),
  keepIn K (.ref 21),
  keepIn K (.ref 28),
  keepIn K (.ref 35),
  keepIn K (.ref 42),
  keepIn K (.ref 56),
  isFn K (.ref 56),
  keepIn K (.ref 63),
  isFn K (.ref 63),
  keepIn K (.ref 70),
  isFn K (.ref 70),
  keepIn K (.ref 77),
  isFn K (.ref 77),
  keepIn K (.ref 84),
  isFn K (.ref 84),
  keepIn K (.ref 91),
  isFn K (.ref 91),
  keepIn K (.ref 98),
  isFn K (.ref 98),
  keepIn K (.ref 119),
  isFn K (.ref 119),
  keepIn K (.ref 126),
  isFn K (.ref 126),
  keepIn K (.ref 133),
  isFn K (.ref 133),
  keepIn K (.ref 140),
  isFn K (.ref 140),
  keepIn K (.ref 159),
  isFn K (.ref 159),
  keepIn K (.ref 166),
  isFn K (.ref 166),
  keepIn K (.ref 173),
  isFn K (.ref 173),
  keepIn K (.ref 192),
  isFn K (.ref 192),
  keepIn K (.ref 199),
  isFn K (.ref 199),
  keepIn K (.ref 206),
  isFn K (.ref 206),
  keepIn K (.ref 225),
  isFn K (.ref 225),
  keepIn K (.ref 232),
  isFn K (.ref 232),
  keepIn K (.ref 239),
  isFn K (.ref 239),
  keepIn K (.ref 246),
  isFn K (.ref 246),
  keepIn K (.ref 253),
  isFn K (.ref 253),
  keepIn K (.ref 260),
  isFn K (.ref 260),
  keepIn K (.ref 280),
  isFn K (.ref 280),
  keepIn K (.ref 287),
  isFn K (.ref 287),
  keepIn K (.ref 294),
  isFn K (.ref 294),
  keepIn K (.ref 301),
  isFn K (.ref 301),
  keepIn K (.ref 306),
  isFn K (.ref 306),
  keepIn K (.ref 313),
  isFn K (.ref 313),
  keepIn K (.ref 332),
  isFn K (.ref 332),
  keepIn K (.ref 339),
  isFn K (.ref 339),
  keepIn K (.ref 346),
  isFn K (.ref 346),
  keepIn K (.ref 353),
  isFn K (.ref 353),
  keepIn K (.ref 360),
  isFn K (.ref 360),
  keepIn K (.ref 365),
  isFn K (.ref 365),
  keepIn K (.ref 372),
  isFn K (.ref 372),
  keepIn K (.ref 391),
  isFn K (.ref 391),
  keepIn K (.ref 398),
  isFn K (.ref 398),
  keepIn K (.ref 405),
  isFn K (.ref 405),
  keepIn K (.ref 412),
  isFn K (.ref 412),
  keepIn K (.ref 419),
  isFn K (.ref 419),
  keepIn K (.ref 426),
  isFn K (.ref 426),
  keepIn K (.ref 438),
  keepIn K (.ref 445),
  keepIn K (.ref 450),
  keepIn K (.ref 457),
  keepIn K (.ref 464),
  keepIn K (.ref 471),
  keepIn K (.ref 476),
  keepIn K (.ref 483),
  keepIn K (.ref 488),
  keepIn K (.ref 493),
  keepIn K (.ref 500),
  keepIn K (.ref 507),
  keepIn K (.ref 512)]
def obsC (K : Frag) : List (Option Bool) := [mroIn K 143 (.type "object"),
  mroIn K 176 (.type "object"),
  mroIn K 209 (.type "object"),
  mroIn K 263 (.type "object"),
  mroIn K 316 (.type "object"),
  mroIn K 375 (.type "object"),
  mroIn K 429 (.type "object"),
  takesIn K (.builtin "object.__class__"),
  kitOne K (.type "NoneType") (.type "bool"),
  kitOne K (.type "NoneType") (.type "int"),
  kitOne K (.type "NoneType") (.type "str"),
  kitOne K (.type "NoneType") (.type "list"),
  kitOne K (.type "bool") (.type "bool"),
  kitOne K (.type "bool") (.type "int"),
  kitOne K (.type "bool") (.type "str"),
  kitOne K (.type "bool") (.type "list"),
  kitOne K (.type "int") (.type "bool"),
  kitOne K (.type "int") (.type "int"),
  kitOne K (.type "int") (.type "str"),
  kitOne K (.type "int") (.type "list"),
  kitOne K (.type "str") (.type "bool"),
  kitOne K (.type "str") (.type "int"),
  kitOne K (.type "str") (.type "str"),
  kitOne K (.type "str") (.type "list"),
  kitOne K (.type "tuple") (.type "bool"),
  kitOne K (.type "tuple") (.type "int"),
  kitOne K (.type "tuple") (.type "str"),
  kitOne K (.type "tuple") (.type "list"),
  kitOne K (.type "list") (.type "bool"),
  kitOne K (.type "list") (.type "int"),
  kitOne K (.type "list") (.type "str"),
  kitOne K (.type "list") (.type "list"),
  kitOne K (.type "dict") (.type "bool"),
  kitOne K (.type "dict") (.type "int"),
  kitOne K (.type "dict") (.type "str"),
  kitOne K (.type "dict") (.type "list"),
  kitOne K (.ref 143) (.ref 375),
  kitOne K (.ref 176) (.ref 375),
  kitOne K (.ref 209) (.ref 375),
  kitOne K (.ref 263) (.ref 375),
  kitOne K (.ref 316) (.ref 375),
  kitOne K (.ref 375) (.ref 375),
  kitOne K (.ref 429) (.ref 375),
  kitOne K (.ref 143) (.ref 101),
  kitOne K (.ref 176) (.ref 101),
  kitOne K (.ref 209) (.ref 101),
  kitOne K (.ref 263) (.ref 101),
  kitOne K (.ref 316) (.ref 101),
  kitOne K (.ref 375) (.ref 101),
  kitOne K (.ref 429) (.ref 101)]
def expC : List (Option Bool) := [some true,
  some true,
  some true,
  some true,
  some true,
  some true,
  some true,
  some true,
  some false,
  some false,
  some false,
  some false,
  some true,
  some true,
  some false,
  some false,
  some false,
  some true,
  some false,
  some false,
  some false,
  some false,
  some true,
  some false,
  some false,
  some false,
  some false,
  some false,
  some false,
  some false,
  some false,
  some true,
  some false,
  some false,
  some false,
  some false,
  some false,
  some false,
  some false,
  some false,
  some false,
  some true,
  some false,
  some true,
  some true,
  some true,
  some true,
  some true,
  some true,
  some true]
def obsD (K : Frag) : List (Option FV) := [fv K 21,
  fv K 28,
  fv K 35,
  fv K 42,
  fv K 56,
  fv K 63,
  fv K 70,
  fv K 77,
  fv K 84,
  fv K 91,
  fv K 98,
  fv K 119,
  fv K 126,
  fv K 133,
  fv K 140,
  fv K 159,
  fv K 166,
  fv K 173,
  fv K 192,
  fv K 199,
  fv K 206,
  fv K 225,
  fv K 232,
  fv K 239,
  fv K 246,
  fv K 253,
  fv K 260,
  fv K 280,
  fv K 287,
  fv K 294,
  fv K 301,
  fv K 306,
  fv K 313,
  fv K 332,
  fv K 339,
  fv K 346,
  fv K 353,
  fv K 360,
  fv K 365,
  fv K 372,
  fv K 391,
  fv K 398,
  fv K 405,
  fv K 412,
  fv K 419,
  fv K 426,
  fv K 438,
  fv K 445,
  fv K 450,
  fv K 457,
  fv K 464,
  fv K 471,
  fv K 476,
  fv K 483,
  fv K 488,
  fv K 493,
  fv K 500,
  fv K 507,
  fv K 512]
def expD (p : Program) : List (Option FV) := [fx "is_whole" "is_whole" (topOf p 1) .none,
  fx "is_among" "is_among" (topOf p 2) .none,
  fx "number_text" "number_text" (topOf p 3) .none,
  fx "is_sign" "is_sign" (topOf p 13) .none,
  fx "word" "Kind.word" (inClass (topOf p 14) 0) .none,
  fx "words" "Kind.words" (inClass (topOf p 14) 1) .none,
  fx "is_plain" "Kind.is_plain" (inClass (topOf p 14) 2) .none,
  fx "shape" "Kind.shape" (inClass (topOf p 14) 3) .none,
  fx "width" "Kind.width" (inClass (topOf p 14) 4) .none,
  fx "suits" "Kind.suits" (inClass (topOf p 14) 5) .none,
  fx "blank" "Kind.blank" (inClass (topOf p 14) 6) .none,
  fx "word" "Truth.word" (inClass (topOf p 15) 0) .none,
  fx "width" "Truth.width" (inClass (topOf p 15) 1) .none,
  fx "suits" "Truth.suits" (inClass (topOf p 15) 2) .none,
  fx "blank" "Truth.blank" (inClass (topOf p 15) 3) .none,
  fx "word" "Count.word" (inClass (topOf p 16) 0) .none,
  fx "suits" "Count.suits" (inClass (topOf p 16) 1) .none,
  fx "blank" "Count.blank" (inClass (topOf p 16) 2) .none,
  fx "word" "Whole.word" (inClass (topOf p 17) 0) .none,
  fx "suits" "Whole.suits" (inClass (topOf p 17) 1) .none,
  fx "blank" "Whole.blank" (inClass (topOf p 17) 2) .none,
  fx "__init__" "Upto.__init__" (inClass (topOf p 18) 0) .none,
  fx "word" "Upto.word" (inClass (topOf p 18) 1) .none,
  fx "words" "Upto.words" (inClass (topOf p 18) 2) .none,
  fx "width" "Upto.width" (inClass (topOf p 18) 3) .none,
  fx "suits" "Upto.suits" (inClass (topOf p 18) 4) .none,
  fx "blank" "Upto.blank" (inClass (topOf p 18) 5) .none,
  fx "__init__" "Text.__init__" (inClass (topOf p 19) 0) (.ref 273),
  fx "word" "Text.word" (inClass (topOf p 19) 1) .none,
  fx "words" "Text.words" (inClass (topOf p 19) 2) .none,
  fx "shape" "Text.shape" (inClass (topOf p 19) 3) .none,
  fx "suits" "Text.suits" (inClass (topOf p 19) 4) .none,
  fx "blank" "Text.blank" (inClass (topOf p 19) 5) .none,
  fx "__init__" "List.__init__" (inClass (topOf p 20) 0) .none,
  fx "word" "List.word" (inClass (topOf p 20) 1) .none,
  fx "words" "List.words" (inClass (topOf p 20) 2) .none,
  fx "is_plain" "List.is_plain" (inClass (topOf p 20) 3) .none,
  fx "shape" "List.shape" (inClass (topOf p 20) 4) .none,
  fx "suits" "List.suits" (inClass (topOf p 20) 5) .none,
  fx "blank" "List.blank" (inClass (topOf p 20) 6) .none,
  fx "__init__" "Nested.__init__" (inClass (topOf p 21) 0) .none,
  fx "word" "Nested.word" (inClass (topOf p 21) 1) .none,
  fx "words" "Nested.words" (inClass (topOf p 21) 2) .none,
  fx "is_plain" "Nested.is_plain" (inClass (topOf p 21) 3) .none,
  fx "shape" "Nested.shape" (inClass (topOf p 21) 4) .none,
  fx "suits" "Nested.suits" (inClass (topOf p 21) 5) .none,
  fx "_law_number" "_law_number" (topOf p 23) .none,
  fx "_law_mixed" "_law_mixed" (topOf p 24) .none,
  fx "_law_names" "_law_names" (topOf p 25) .none,
  fx "_law_bound" "_law_bound" (topOf p 26) .none,
  fx "_law_drawn" "_law_drawn" (topOf p 27) .none,
  fx "_law_made_of" "_law_made_of" (topOf p 28) .none,
  fx "_law_words" "_law_words" (topOf p 29) .none,
  fx "_law_width" "_law_width" (topOf p 30) .none,
  fx "_law_suits" "_law_suits" (topOf p 31) .none,
  fx "_law_asked_of" "_law_asked_of" (topOf p 32) .none,
  fx "_law_right" "_law_right" (topOf p 33) .none,
  fx "_law_held" "_law_held" (topOf p 34) .none,
  fx "law" "law" (topOf p 35) .none]
def obsI (K : Frag) : List (Option Int) := [iv (nsIn K mainGlobals "MOST_NUMBER"),
  iv (nsIn K mainGlobals "MOST_WHOLE"),
  iv (nsIn K mainGlobals "MOST_SIGNS"),
  iv (nsIn K mainGlobals "MOST_THINGS"),
  iv (nsIn K mainGlobals "MOST_PACKED"),
  iv (nsIn K mainGlobals "LEAST_SIGN"),
  iv (nsIn K mainGlobals "MOST_SIGN"),
  iv (nsIn K mainGlobals "PERCENT_SIGN"),
  iv ((seqOf K 273).map List.head?),
  (seqOf K 273).map (fun l => (l.length : Int))]
def expI : List (Option Int) := [some 115792089237316195423570985008687907853269984665640564039457584007913129639935,
  some 57896044618658097711785492504343953926634992332820282019728792003956564819967,
  some 100,
  some 20,
  some 255,
  some 32,
  some 126,
  some 37,
  some 100,
  some 1]
abbrev Seen := List (Option (Option Value)) × Bool × List (Option Bool) × List (Option FV) × List (Option Int)
def obs (s : Shared) : Seen := let K := frag s.heap; (obsA K, (obsB K).all id, obsC K, obsD K, obsI K)
def exp (p : Program) (_ : World) : Seen := (expA, true, expC, expD p, expI)

end K7

set_option maxRecDepth 1000000
set_option maxHeartbeats 0
namespace K7
open PySem PySem.W HL L2
theorem bt_len : bootBuiltins "len" = some (.builtin "len") := by decide +kernel
theorem bt_isinstance : bootBuiltins "isinstance" = some (.builtin "isinstance") := by decide +kernel
theorem bt_max : bootBuiltins "max" = some (.builtin "max") := by decide +kernel
theorem bt_all : bootBuiltins "all" = some (.builtin "all") := by decide +kernel
theorem bt_ord : bootBuiltins "ord" = some (.builtin "ord") := by decide +kernel
theorem bt_int : bootBuiltins "int" = some (.type "int") := by decide +kernel
theorem bt_bool : bootBuiltins "bool" = some (.type "bool") := by decide +kernel
theorem bt_list : bootBuiltins "list" = some (.type "list") := by decide +kernel
theorem bt_str : bootBuiltins "str" = some (.type "str") := by decide +kernel
abbrev s_is_whole : Stmt := top 1
theorem sc_is_whole : FnScope ["thing"] ["thing"] (defScope s_is_whole) := ⟨rfl, rfl, rfl, by decide +kernel, rfl, by decide +kernel, by decide +kernel⟩
abbrev s_is_among : Stmt := top 2
theorem sc_is_among : FnScope ["thing", "least", "most"] ["thing", "least", "most"] (defScope s_is_among) := ⟨rfl, rfl, rfl, by decide +kernel, rfl, by decide +kernel, by decide +kernel⟩
abbrev s_number_text : Stmt := top 3
theorem sc_number_text : FnScope ["number"] ["number"] (defScope s_number_text) := ⟨rfl, rfl, rfl, by decide +kernel, rfl, by decide +kernel, by decide +kernel⟩
abbrev s_is_sign : Stmt := top 13
theorem sc_is_sign : FnScope ["number"] ["number"] (defScope s_is_sign) := ⟨rfl, rfl, rfl, by decide +kernel, rfl, by decide +kernel, by decide +kernel⟩
abbrev s_Kind_word : Stmt := inClass (top 14) 0
abbrev s_Kind_words : Stmt := inClass (top 14) 1
theorem sc_Kind_words : FnScope ["self"] ["self"] (defScope s_Kind_words) := ⟨rfl, rfl, rfl, by decide +kernel, rfl, by decide +kernel, by decide +kernel⟩
abbrev s_Kind_is_plain : Stmt := inClass (top 14) 2
theorem sc_Kind_is_plain : FnScope ["self"] ["self"] (defScope s_Kind_is_plain) := ⟨rfl, rfl, rfl, by decide +kernel, rfl, by decide +kernel, by decide +kernel⟩
abbrev s_Kind_shape : Stmt := inClass (top 14) 3
theorem sc_Kind_shape : FnScope ["self"] ["self"] (defScope s_Kind_shape) := ⟨rfl, rfl, rfl, by decide +kernel, rfl, by decide +kernel, by decide +kernel⟩
abbrev s_Kind_width : Stmt := inClass (top 14) 4
theorem sc_Kind_width : FnScope ["self"] ["self"] (defScope s_Kind_width) := ⟨rfl, rfl, rfl, by decide +kernel, rfl, by decide +kernel, by decide +kernel⟩
abbrev s_Kind_suits : Stmt := inClass (top 14) 5
abbrev s_Kind_blank : Stmt := inClass (top 14) 6
theorem sc_Kind_blank : FnScope ["self"] ["self"] (defScope s_Kind_blank) := ⟨rfl, rfl, rfl, by decide +kernel, rfl, by decide +kernel, by decide +kernel⟩
abbrev s_Truth_word : Stmt := inClass (top 15) 0
theorem sc_Truth_word : FnScope ["self"] ["self"] (defScope s_Truth_word) := ⟨rfl, rfl, rfl, by decide +kernel, rfl, by decide +kernel, by decide +kernel⟩
abbrev s_Truth_width : Stmt := inClass (top 15) 1
theorem sc_Truth_width : FnScope ["self"] ["self"] (defScope s_Truth_width) := ⟨rfl, rfl, rfl, by decide +kernel, rfl, by decide +kernel, by decide +kernel⟩
abbrev s_Truth_suits : Stmt := inClass (top 15) 2
theorem sc_Truth_suits : FnScope ["self", "value"] ["self", "value"] (defScope s_Truth_suits) := ⟨rfl, rfl, rfl, by decide +kernel, rfl, by decide +kernel, by decide +kernel⟩
abbrev s_Truth_blank : Stmt := inClass (top 15) 3
theorem sc_Truth_blank : FnScope ["self"] ["self"] (defScope s_Truth_blank) := ⟨rfl, rfl, rfl, by decide +kernel, rfl, by decide +kernel, by decide +kernel⟩
abbrev s_Count_word : Stmt := inClass (top 16) 0
theorem sc_Count_word : FnScope ["self"] ["self"] (defScope s_Count_word) := ⟨rfl, rfl, rfl, by decide +kernel, rfl, by decide +kernel, by decide +kernel⟩
abbrev s_Count_suits : Stmt := inClass (top 16) 1
theorem sc_Count_suits : FnScope ["self", "value"] ["self", "value"] (defScope s_Count_suits) := ⟨rfl, rfl, rfl, by decide +kernel, rfl, by decide +kernel, by decide +kernel⟩
abbrev s_Count_blank : Stmt := inClass (top 16) 2
theorem sc_Count_blank : FnScope ["self"] ["self"] (defScope s_Count_blank) := ⟨rfl, rfl, rfl, by decide +kernel, rfl, by decide +kernel, by decide +kernel⟩
abbrev s_Whole_word : Stmt := inClass (top 17) 0
theorem sc_Whole_word : FnScope ["self"] ["self"] (defScope s_Whole_word) := ⟨rfl, rfl, rfl, by decide +kernel, rfl, by decide +kernel, by decide +kernel⟩
abbrev s_Whole_suits : Stmt := inClass (top 17) 1
theorem sc_Whole_suits : FnScope ["self", "value"] ["self", "value"] (defScope s_Whole_suits) := ⟨rfl, rfl, rfl, by decide +kernel, rfl, by decide +kernel, by decide +kernel⟩
abbrev s_Whole_blank : Stmt := inClass (top 17) 2
theorem sc_Whole_blank : FnScope ["self"] ["self"] (defScope s_Whole_blank) := ⟨rfl, rfl, rfl, by decide +kernel, rfl, by decide +kernel, by decide +kernel⟩
abbrev s_Upto_init : Stmt := inClass (top 18) 0
theorem sc_Upto_init : FnScope ["self", "most"] ["self", "most"] (defScope s_Upto_init) := ⟨rfl, rfl, rfl, by decide +kernel, rfl, by decide +kernel, by decide +kernel⟩
abbrev s_Upto_word : Stmt := inClass (top 18) 1
theorem sc_Upto_word : FnScope ["self"] ["self"] (defScope s_Upto_word) := ⟨rfl, rfl, rfl, by decide +kernel, rfl, by decide +kernel, by decide +kernel⟩
abbrev s_Upto_words : Stmt := inClass (top 18) 2
theorem sc_Upto_words : FnScope ["self"] ["self"] (defScope s_Upto_words) := ⟨rfl, rfl, rfl, by decide +kernel, rfl, by decide +kernel, by decide +kernel⟩
abbrev s_Upto_width : Stmt := inClass (top 18) 3
theorem sc_Upto_width : FnScope ["self"] ["self"] (defScope s_Upto_width) := ⟨rfl, rfl, rfl, by decide +kernel, rfl, by decide +kernel, by decide +kernel⟩
abbrev s_Upto_suits : Stmt := inClass (top 18) 4
theorem sc_Upto_suits : FnScope ["self", "value"] ["self", "value"] (defScope s_Upto_suits) := ⟨rfl, rfl, rfl, by decide +kernel, rfl, by decide +kernel, by decide +kernel⟩
abbrev s_Upto_blank : Stmt := inClass (top 18) 5
theorem sc_Upto_blank : FnScope ["self"] ["self"] (defScope s_Upto_blank) := ⟨rfl, rfl, rfl, by decide +kernel, rfl, by decide +kernel, by decide +kernel⟩
abbrev s_Text_init : Stmt := inClass (top 19) 0
theorem sc_Text_init : FnScope ["self", "most"] ["self", "most"] (defScope s_Text_init) := ⟨rfl, rfl, rfl, by decide +kernel, rfl, by decide +kernel, by decide +kernel⟩
abbrev s_Text_word : Stmt := inClass (top 19) 1
theorem sc_Text_word : FnScope ["self"] ["self"] (defScope s_Text_word) := ⟨rfl, rfl, rfl, by decide +kernel, rfl, by decide +kernel, by decide +kernel⟩
abbrev s_Text_words : Stmt := inClass (top 19) 2
theorem sc_Text_words : FnScope ["self"] ["self"] (defScope s_Text_words) := ⟨rfl, rfl, rfl, by decide +kernel, rfl, by decide +kernel, by decide +kernel⟩
abbrev s_Text_shape : Stmt := inClass (top 19) 3
theorem sc_Text_shape : FnScope ["self"] ["self"] (defScope s_Text_shape) := ⟨rfl, rfl, rfl, by decide +kernel, rfl, by decide +kernel, by decide +kernel⟩
abbrev s_Text_suits : Stmt := inClass (top 19) 4
theorem sc_Text_suits : FnScope ["self", "value"] ["self", "value"] (defScope s_Text_suits) := ⟨rfl, rfl, rfl, by decide +kernel, rfl, by decide +kernel, by decide +kernel⟩
abbrev s_Text_blank : Stmt := inClass (top 19) 5
theorem sc_Text_blank : FnScope ["self"] ["self"] (defScope s_Text_blank) := ⟨rfl, rfl, rfl, by decide +kernel, rfl, by decide +kernel, by decide +kernel⟩
abbrev s_List_init : Stmt := inClass (top 20) 0
theorem sc_List_init : FnScope ["self", "item"] ["self", "item"] (defScope s_List_init) := ⟨rfl, rfl, rfl, by decide +kernel, rfl, by decide +kernel, by decide +kernel⟩
abbrev s_List_word : Stmt := inClass (top 20) 1
theorem sc_List_word : FnScope ["self"] ["self"] (defScope s_List_word) := ⟨rfl, rfl, rfl, by decide +kernel, rfl, by decide +kernel, by decide +kernel⟩
abbrev s_List_words : Stmt := inClass (top 20) 2
theorem sc_List_words : FnScope ["self"] ["self"] (defScope s_List_words) := ⟨rfl, rfl, rfl, by decide +kernel, rfl, by decide +kernel, by decide +kernel⟩
abbrev s_List_is_plain : Stmt := inClass (top 20) 3
theorem sc_List_is_plain : FnScope ["self"] ["self"] (defScope s_List_is_plain) := ⟨rfl, rfl, rfl, by decide +kernel, rfl, by decide +kernel, by decide +kernel⟩
abbrev s_List_shape : Stmt := inClass (top 20) 4
theorem sc_List_shape : FnScope ["self"] ["self"] (defScope s_List_shape) := ⟨rfl, rfl, rfl, by decide +kernel, rfl, by decide +kernel, by decide +kernel⟩
abbrev s_List_suits : Stmt := inClass (top 20) 5
theorem sc_List_suits : FnScope ["self", "value"] ["self", "value"] (defScope s_List_suits) := ⟨rfl, rfl, rfl, by decide +kernel, rfl, by decide +kernel, by decide +kernel⟩
abbrev s_List_blank : Stmt := inClass (top 20) 6
theorem sc_List_blank : FnScope ["self"] ["self"] (defScope s_List_blank) := ⟨rfl, rfl, rfl, by decide +kernel, rfl, by decide +kernel, by decide +kernel⟩
abbrev s_Nested_init : Stmt := inClass (top 21) 0
theorem sc_Nested_init : FnScope ["self", "name"] ["self", "name"] (defScope s_Nested_init) := ⟨rfl, rfl, rfl, by decide +kernel, rfl, by decide +kernel, by decide +kernel⟩
abbrev s_Nested_word : Stmt := inClass (top 21) 1
theorem sc_Nested_word : FnScope ["self"] ["self"] (defScope s_Nested_word) := ⟨rfl, rfl, rfl, by decide +kernel, rfl, by decide +kernel, by decide +kernel⟩
abbrev s_Nested_words : Stmt := inClass (top 21) 2
theorem sc_Nested_words : FnScope ["self"] ["self"] (defScope s_Nested_words) := ⟨rfl, rfl, rfl, by decide +kernel, rfl, by decide +kernel, by decide +kernel⟩
abbrev s_Nested_is_plain : Stmt := inClass (top 21) 3
theorem sc_Nested_is_plain : FnScope ["self"] ["self"] (defScope s_Nested_is_plain) := ⟨rfl, rfl, rfl, by decide +kernel, rfl, by decide +kernel, by decide +kernel⟩
abbrev s_Nested_shape : Stmt := inClass (top 21) 4
theorem sc_Nested_shape : FnScope ["self"] ["self"] (defScope s_Nested_shape) := ⟨rfl, rfl, rfl, by decide +kernel, rfl, by decide +kernel, by decide +kernel⟩
abbrev s_Nested_suits : Stmt := inClass (top 21) 5
theorem sc_Nested_suits : FnScope ["self", "value"] ["self", "value"] (defScope s_Nested_suits) := ⟨rfl, rfl, rfl, by decide +kernel, rfl, by decide +kernel, by decide +kernel⟩
abbrev s_number : Stmt := top 23
theorem sc_number : FnScope ["_law_script", "_law_k", "_law_cell", "_law_more"] ["_law_script", "_law_k"] (defScope s_number) := ⟨rfl, rfl, rfl, by decide +kernel, rfl, by decide +kernel, by decide +kernel⟩
abbrev s_mixed : Stmt := top 24
theorem sc_mixed : FnScope ["_law_number_here", "_law_k"] ["_law_number_here", "_law_k"] (defScope s_mixed) := ⟨rfl, rfl, rfl, by decide +kernel, rfl, by decide +kernel, by decide +kernel⟩
abbrev s_names : Stmt := top 25
theorem sc_names : FnScope ["_law_number_here", "_law_many", "_law_letters", "_law_step", "_law_base", "_law_border", "_law_at", "_law_signs"] ["_law_number_here", "_law_many"] (defScope s_names) := ⟨rfl, rfl, rfl, by decide +kernel, rfl, by decide +kernel, by decide +kernel⟩
abbrev s_bound : Stmt := top 26
theorem sc_bound : FnScope ["_law_number_here", "_law_top", "_law_some"] ["_law_number_here"] (defScope s_bound) := ⟨rfl, rfl, rfl, by decide +kernel, rfl, by decide +kernel, by decide +kernel⟩
abbrev s_drawn : Stmt := top 27
theorem sc_drawn : FnScope ["_law_number_here", "_law_kind"] ["_law_number_here"] (defScope s_drawn) := ⟨rfl, rfl, rfl, by decide +kernel, rfl, by decide +kernel, by decide +kernel⟩
abbrev s_made_of : Stmt := top 28
theorem sc_made_of : FnScope ["_law_kind"] ["_law_kind"] (defScope s_made_of) := ⟨rfl, rfl, rfl, by decide +kernel, rfl, by decide +kernel, by decide +kernel⟩
abbrev s_words : Stmt := top 29
theorem sc_words : FnScope ["_law_kind"] ["_law_kind"] (defScope s_words) := ⟨rfl, rfl, rfl, by decide +kernel, rfl, by decide +kernel, by decide +kernel⟩
abbrev s_width : Stmt := top 30
theorem sc_width : FnScope ["_law_kind", "_law_width_here", "_law_left"] ["_law_kind"] (defScope s_width) := ⟨rfl, rfl, rfl, by decide +kernel, rfl, by decide +kernel, by decide +kernel⟩
abbrev s_suits : Stmt := top 31
theorem sc_suits : FnScope ["_law_kind", "_law_value", "_law_half"] ["_law_kind", "_law_value"] (defScope s_suits) := ⟨rfl, rfl, rfl, by decide +kernel, rfl, by decide +kernel, by decide +kernel⟩
abbrev s_asked_of : Stmt := top 32
theorem sc_asked_of : FnScope ["_law_kind", "_law_number_here", "_law_half", "_law_many", "_law_found", "_law_size", "_law_text", "_law_most", "_law_odd", "_law_edge"] ["_law_kind", "_law_number_here"] (defScope s_asked_of) := ⟨rfl, rfl, rfl, by decide +kernel, rfl, by decide +kernel, by decide +kernel⟩
abbrev s_right : Stmt := top 33
theorem sc_right : FnScope ["_law_one", "_law_kind", "_law_way", "_law_number_here", "_law_found", "_law_good", "_law_due", "_law_told", "_law_shape", "_law_value"] ["_law_one", "_law_kind", "_law_way", "_law_number_here"] (defScope s_right) := ⟨rfl, rfl, rfl, by decide +kernel, rfl, by decide +kernel, by decide +kernel⟩
abbrev s_held : Stmt := top 34
theorem sc_held : FnScope ["_law_one", "_law_kind"] ["_law_one", "_law_kind"] (defScope s_held) := ⟨rfl, rfl, rfl, by decide +kernel, rfl, by decide +kernel, by decide +kernel⟩
abbrev s_law : Stmt := top 35
theorem sc_law : FnScope ["_law_script", "_law_kinds", "_law_made", "_law_k", "_law_number_here", "_law_which"] ["_law_script"] (defScope s_law) := ⟨rfl, rfl, rfl, by decide +kernel, rfl, by decide +kernel, by decide +kernel⟩
/-- what the top has left -/
structure Tx (K : Frag) (mg : Str → Option Value) : Prop where
  A : obsA K = expA
  B : (obsB K).all id = true
  C : obsC K = expC
  D : obsD K = expD PySem.Challenge.pw_formkin_k07_kinds
  I : obsI K = expI
  g : ∀ x v, nsIn K mainGlobals x = some v → mg x = v
section
variable {K : Frag} {mg : Str → Option Value} (T : Tx K mg)
include T
theorem Tx.z_len : nsIn K mainGlobals "len" = some none := Option.some.inj (nth_of T.A 0)
theorem Tx.z_range : nsIn K mainGlobals "range" = some none := Option.some.inj (nth_of T.A 1)
theorem Tx.z_isinstance : nsIn K mainGlobals "isinstance" = some none := Option.some.inj (nth_of T.A 2)
theorem Tx.z_max : nsIn K mainGlobals "max" = some none := Option.some.inj (nth_of T.A 3)
theorem Tx.z_all : nsIn K mainGlobals "all" = some none := Option.some.inj (nth_of T.A 4)
theorem Tx.z_ord : nsIn K mainGlobals "ord" = some none := Option.some.inj (nth_of T.A 5)
theorem Tx.z_zip : nsIn K mainGlobals "zip" = some none := Option.some.inj (nth_of T.A 6)
theorem Tx.z_int : nsIn K mainGlobals "int" = some none := Option.some.inj (nth_of T.A 7)
theorem Tx.z_bool : nsIn K mainGlobals "bool" = some none := Option.some.inj (nth_of T.A 8)
theorem Tx.z_list : nsIn K mainGlobals "list" = some none := Option.some.inj (nth_of T.A 9)
theorem Tx.z_str : nsIn K mainGlobals "str" = some none := Option.some.inj (nth_of T.A 10)
theorem Tx.a_is_whole : nsIn K mainGlobals "is_whole" = some (some (.ref 21)) := Option.some.inj (nth_of T.A 11)
theorem Tx.a_is_among : nsIn K mainGlobals "is_among" = some (some (.ref 28)) := Option.some.inj (nth_of T.A 12)
theorem Tx.a_number_text : nsIn K mainGlobals "number_text" = some (some (.ref 35)) := Option.some.inj (nth_of T.A 13)
theorem Tx.a_is_sign : nsIn K mainGlobals "is_sign" = some (some (.ref 42)) := Option.some.inj (nth_of T.A 14)
theorem Tx.a_number : nsIn K mainGlobals "_law_number" = some (some (.ref 438)) := Option.some.inj (nth_of T.A 15)
theorem Tx.a_mixed : nsIn K mainGlobals "_law_mixed" = some (some (.ref 445)) := Option.some.inj (nth_of T.A 16)
theorem Tx.a_names : nsIn K mainGlobals "_law_names" = some (some (.ref 450)) := Option.some.inj (nth_of T.A 17)
theorem Tx.a_bound : nsIn K mainGlobals "_law_bound" = some (some (.ref 457)) := Option.some.inj (nth_of T.A 18)
theorem Tx.a_drawn : nsIn K mainGlobals "_law_drawn" = some (some (.ref 464)) := Option.some.inj (nth_of T.A 19)
theorem Tx.a_made_of : nsIn K mainGlobals "_law_made_of" = some (some (.ref 471)) := Option.some.inj (nth_of T.A 20)
theorem Tx.a_words : nsIn K mainGlobals "_law_words" = some (some (.ref 476)) := Option.some.inj (nth_of T.A 21)
theorem Tx.a_width : nsIn K mainGlobals "_law_width" = some (some (.ref 483)) := Option.some.inj (nth_of T.A 22)
theorem Tx.a_suits : nsIn K mainGlobals "_law_suits" = some (some (.ref 488)) := Option.some.inj (nth_of T.A 23)
theorem Tx.a_asked_of : nsIn K mainGlobals "_law_asked_of" = some (some (.ref 493)) := Option.some.inj (nth_of T.A 24)
theorem Tx.a_right : nsIn K mainGlobals "_law_right" = some (some (.ref 500)) := Option.some.inj (nth_of T.A 25)
theorem Tx.a_held : nsIn K mainGlobals "_law_held" = some (some (.ref 507)) := Option.some.inj (nth_of T.A 26)
theorem Tx.a_law : nsIn K mainGlobals "law" = some (some (.ref 512)) := Option.some.inj (nth_of T.A 27)
theorem Tx.n_Kind : nsIn K mainGlobals "Kind" = some (some (.ref 101)) := Option.some.inj (nth_of T.A 28)
theorem Tx.n_Truth : nsIn K mainGlobals "Truth" = some (some (.ref 143)) := Option.some.inj (nth_of T.A 29)
theorem Tx.n_Count : nsIn K mainGlobals "Count" = some (some (.ref 176)) := Option.some.inj (nth_of T.A 30)
theorem Tx.n_Whole : nsIn K mainGlobals "Whole" = some (some (.ref 209)) := Option.some.inj (nth_of T.A 31)
theorem Tx.n_Upto : nsIn K mainGlobals "Upto" = some (some (.ref 263)) := Option.some.inj (nth_of T.A 32)
theorem Tx.n_Text : nsIn K mainGlobals "Text" = some (some (.ref 316)) := Option.some.inj (nth_of T.A 33)
theorem Tx.n_List : nsIn K mainGlobals "List" = some (some (.ref 375)) := Option.some.inj (nth_of T.A 34)
theorem Tx.n_Nested : nsIn K mainGlobals "Nested" = some (some (.ref 429)) := Option.some.inj (nth_of T.A 35)
theorem Tx.f_Truth_init : findIn K (.ref 143) "__init__" = some (some (.builtin "object.__init__")) := Option.some.inj (nth_of T.A 36)
theorem Tx.f_Truth_word : findIn K (.ref 143) "word" = some (some (.ref 119)) := Option.some.inj (nth_of T.A 37)
theorem Tx.f_Truth_words : findIn K (.ref 143) "words" = some (some (.ref 63)) := Option.some.inj (nth_of T.A 38)
theorem Tx.f_Truth_is_plain : findIn K (.ref 143) "is_plain" = some (some (.ref 70)) := Option.some.inj (nth_of T.A 39)
theorem Tx.f_Truth_shape : findIn K (.ref 143) "shape" = some (some (.ref 77)) := Option.some.inj (nth_of T.A 40)
theorem Tx.f_Truth_width : findIn K (.ref 143) "width" = some (some (.ref 126)) := Option.some.inj (nth_of T.A 41)
theorem Tx.f_Truth_suits : findIn K (.ref 143) "suits" = some (some (.ref 133)) := Option.some.inj (nth_of T.A 42)
theorem Tx.f_Truth_blank : findIn K (.ref 143) "blank" = some (some (.ref 140)) := Option.some.inj (nth_of T.A 43)
theorem Tx.s_Truth : findIn K (.ref 143) "__setattr__" = some (some (.builtin "object.__setattr__")) := Option.some.inj (nth_of T.A 47)
theorem Tx.c_Truth : findIn K (.ref 143) "__class__" = some (some (.builtin "object.__class__")) := Option.some.inj (nth_of T.A 48)
theorem Tx.g_Truth : plainGet K 143 Str.empty = true := all_of (f := id) 0 T.B rfl
theorem Tx.h_Truth : hasDictIn K 143 = true := all_of (f := id) 1 T.B rfl
theorem Tx.p_Truth : plainOver K 143 = true := all_of (f := id) 2 T.B rfl
theorem Tx.r_Truth : mroIn K 143 (.type "object") = some true := Option.some.inj (nth_of T.C 0)
theorem Tx.f_Count_init : findIn K (.ref 176) "__init__" = some (some (.builtin "object.__init__")) := Option.some.inj (nth_of T.A 49)
theorem Tx.f_Count_word : findIn K (.ref 176) "word" = some (some (.ref 159)) := Option.some.inj (nth_of T.A 50)
theorem Tx.f_Count_words : findIn K (.ref 176) "words" = some (some (.ref 63)) := Option.some.inj (nth_of T.A 51)
theorem Tx.f_Count_is_plain : findIn K (.ref 176) "is_plain" = some (some (.ref 70)) := Option.some.inj (nth_of T.A 52)
theorem Tx.f_Count_shape : findIn K (.ref 176) "shape" = some (some (.ref 77)) := Option.some.inj (nth_of T.A 53)
theorem Tx.f_Count_width : findIn K (.ref 176) "width" = some (some (.ref 84)) := Option.some.inj (nth_of T.A 54)
theorem Tx.f_Count_suits : findIn K (.ref 176) "suits" = some (some (.ref 166)) := Option.some.inj (nth_of T.A 55)
theorem Tx.f_Count_blank : findIn K (.ref 176) "blank" = some (some (.ref 173)) := Option.some.inj (nth_of T.A 56)
theorem Tx.s_Count : findIn K (.ref 176) "__setattr__" = some (some (.builtin "object.__setattr__")) := Option.some.inj (nth_of T.A 60)
theorem Tx.c_Count : findIn K (.ref 176) "__class__" = some (some (.builtin "object.__class__")) := Option.some.inj (nth_of T.A 61)
theorem Tx.g_Count : plainGet K 176 Str.empty = true := all_of (f := id) 3 T.B rfl
theorem Tx.h_Count : hasDictIn K 176 = true := all_of (f := id) 4 T.B rfl
theorem Tx.p_Count : plainOver K 176 = true := all_of (f := id) 5 T.B rfl
theorem Tx.r_Count : mroIn K 176 (.type "object") = some true := Option.some.inj (nth_of T.C 1)
theorem Tx.f_Whole_init : findIn K (.ref 209) "__init__" = some (some (.builtin "object.__init__")) := Option.some.inj (nth_of T.A 62)
theorem Tx.f_Whole_word : findIn K (.ref 209) "word" = some (some (.ref 192)) := Option.some.inj (nth_of T.A 63)
theorem Tx.f_Whole_words : findIn K (.ref 209) "words" = some (some (.ref 63)) := Option.some.inj (nth_of T.A 64)
theorem Tx.f_Whole_is_plain : findIn K (.ref 209) "is_plain" = some (some (.ref 70)) := Option.some.inj (nth_of T.A 65)
theorem Tx.f_Whole_shape : findIn K (.ref 209) "shape" = some (some (.ref 77)) := Option.some.inj (nth_of T.A 66)
theorem Tx.f_Whole_width : findIn K (.ref 209) "width" = some (some (.ref 84)) := Option.some.inj (nth_of T.A 67)
theorem Tx.f_Whole_suits : findIn K (.ref 209) "suits" = some (some (.ref 199)) := Option.some.inj (nth_of T.A 68)
theorem Tx.f_Whole_blank : findIn K (.ref 209) "blank" = some (some (.ref 206)) := Option.some.inj (nth_of T.A 69)
theorem Tx.s_Whole : findIn K (.ref 209) "__setattr__" = some (some (.builtin "object.__setattr__")) := Option.some.inj (nth_of T.A 73)
theorem Tx.c_Whole : findIn K (.ref 209) "__class__" = some (some (.builtin "object.__class__")) := Option.some.inj (nth_of T.A 74)
theorem Tx.g_Whole : plainGet K 209 Str.empty = true := all_of (f := id) 6 T.B rfl
theorem Tx.h_Whole : hasDictIn K 209 = true := all_of (f := id) 7 T.B rfl
theorem Tx.p_Whole : plainOver K 209 = true := all_of (f := id) 8 T.B rfl
theorem Tx.r_Whole : mroIn K 209 (.type "object") = some true := Option.some.inj (nth_of T.C 2)
theorem Tx.f_Upto_init : findIn K (.ref 263) "__init__" = some (some (.ref 225)) := Option.some.inj (nth_of T.A 75)
theorem Tx.f_Upto_word : findIn K (.ref 263) "word" = some (some (.ref 232)) := Option.some.inj (nth_of T.A 76)
theorem Tx.f_Upto_words : findIn K (.ref 263) "words" = some (some (.ref 239)) := Option.some.inj (nth_of T.A 77)
theorem Tx.f_Upto_is_plain : findIn K (.ref 263) "is_plain" = some (some (.ref 70)) := Option.some.inj (nth_of T.A 78)
theorem Tx.f_Upto_shape : findIn K (.ref 263) "shape" = some (some (.ref 77)) := Option.some.inj (nth_of T.A 79)
theorem Tx.f_Upto_width : findIn K (.ref 263) "width" = some (some (.ref 246)) := Option.some.inj (nth_of T.A 80)
theorem Tx.f_Upto_suits : findIn K (.ref 263) "suits" = some (some (.ref 253)) := Option.some.inj (nth_of T.A 81)
theorem Tx.f_Upto_blank : findIn K (.ref 263) "blank" = some (some (.ref 260)) := Option.some.inj (nth_of T.A 82)
theorem Tx.o_Upto_most : findIn K (.ref 263) "most" = some none := Option.some.inj (nth_of T.A 83)
theorem Tx.s_Upto : findIn K (.ref 263) "__setattr__" = some (some (.builtin "object.__setattr__")) := Option.some.inj (nth_of T.A 86)
theorem Tx.c_Upto : findIn K (.ref 263) "__class__" = some (some (.builtin "object.__class__")) := Option.some.inj (nth_of T.A 87)
theorem Tx.g_Upto : plainGet K 263 Str.empty = true := all_of (f := id) 9 T.B rfl
theorem Tx.h_Upto : hasDictIn K 263 = true := all_of (f := id) 10 T.B rfl
theorem Tx.p_Upto : plainOver K 263 = true := all_of (f := id) 11 T.B rfl
theorem Tx.r_Upto : mroIn K 263 (.type "object") = some true := Option.some.inj (nth_of T.C 3)
theorem Tx.f_Text_init : findIn K (.ref 316) "__init__" = some (some (.ref 280)) := Option.some.inj (nth_of T.A 88)
theorem Tx.f_Text_word : findIn K (.ref 316) "word" = some (some (.ref 287)) := Option.some.inj (nth_of T.A 89)
theorem Tx.f_Text_words : findIn K (.ref 316) "words" = some (some (.ref 294)) := Option.some.inj (nth_of T.A 90)
theorem Tx.f_Text_is_plain : findIn K (.ref 316) "is_plain" = some (some (.ref 70)) := Option.some.inj (nth_of T.A 91)
theorem Tx.f_Text_shape : findIn K (.ref 316) "shape" = some (some (.ref 301)) := Option.some.inj (nth_of T.A 92)
theorem Tx.f_Text_width : findIn K (.ref 316) "width" = some (some (.ref 84)) := Option.some.inj (nth_of T.A 93)
theorem Tx.f_Text_suits : findIn K (.ref 316) "suits" = some (some (.ref 306)) := Option.some.inj (nth_of T.A 94)
theorem Tx.f_Text_blank : findIn K (.ref 316) "blank" = some (some (.ref 313)) := Option.some.inj (nth_of T.A 95)
theorem Tx.o_Text_most : findIn K (.ref 316) "most" = some none := Option.some.inj (nth_of T.A 96)
theorem Tx.s_Text : findIn K (.ref 316) "__setattr__" = some (some (.builtin "object.__setattr__")) := Option.some.inj (nth_of T.A 99)
theorem Tx.c_Text : findIn K (.ref 316) "__class__" = some (some (.builtin "object.__class__")) := Option.some.inj (nth_of T.A 100)
theorem Tx.g_Text : plainGet K 316 Str.empty = true := all_of (f := id) 12 T.B rfl
theorem Tx.h_Text : hasDictIn K 316 = true := all_of (f := id) 13 T.B rfl
theorem Tx.p_Text : plainOver K 316 = true := all_of (f := id) 14 T.B rfl
theorem Tx.r_Text : mroIn K 316 (.type "object") = some true := Option.some.inj (nth_of T.C 4)
theorem Tx.f_List_init : findIn K (.ref 375) "__init__" = some (some (.ref 332)) := Option.some.inj (nth_of T.A 101)
theorem Tx.f_List_word : findIn K (.ref 375) "word" = some (some (.ref 339)) := Option.some.inj (nth_of T.A 102)
theorem Tx.f_List_words : findIn K (.ref 375) "words" = some (some (.ref 346)) := Option.some.inj (nth_of T.A 103)
theorem Tx.f_List_is_plain : findIn K (.ref 375) "is_plain" = some (some (.ref 353)) := Option.some.inj (nth_of T.A 104)
theorem Tx.f_List_shape : findIn K (.ref 375) "shape" = some (some (.ref 360)) := Option.some.inj (nth_of T.A 105)
theorem Tx.f_List_width : findIn K (.ref 375) "width" = some (some (.ref 84)) := Option.some.inj (nth_of T.A 106)
theorem Tx.f_List_suits : findIn K (.ref 375) "suits" = some (some (.ref 365)) := Option.some.inj (nth_of T.A 107)
theorem Tx.f_List_blank : findIn K (.ref 375) "blank" = some (some (.ref 372)) := Option.some.inj (nth_of T.A 108)
theorem Tx.o_List_item : findIn K (.ref 375) "item" = some none := Option.some.inj (nth_of T.A 110)
theorem Tx.s_List : findIn K (.ref 375) "__setattr__" = some (some (.builtin "object.__setattr__")) := Option.some.inj (nth_of T.A 112)
theorem Tx.c_List : findIn K (.ref 375) "__class__" = some (some (.builtin "object.__class__")) := Option.some.inj (nth_of T.A 113)
theorem Tx.g_List : plainGet K 375 Str.empty = true := all_of (f := id) 15 T.B rfl
theorem Tx.h_List : hasDictIn K 375 = true := all_of (f := id) 16 T.B rfl
theorem Tx.p_List : plainOver K 375 = true := all_of (f := id) 17 T.B rfl
theorem Tx.r_List : mroIn K 375 (.type "object") = some true := Option.some.inj (nth_of T.C 5)
theorem Tx.f_Nested_init : findIn K (.ref 429) "__init__" = some (some (.ref 391)) := Option.some.inj (nth_of T.A 114)
theorem Tx.f_Nested_word : findIn K (.ref 429) "word" = some (some (.ref 398)) := Option.some.inj (nth_of T.A 115)
theorem Tx.f_Nested_words : findIn K (.ref 429) "words" = some (some (.ref 405)) := Option.some.inj (nth_of T.A 116)
theorem Tx.f_Nested_is_plain : findIn K (.ref 429) "is_plain" = some (some (.ref 412)) := Option.some.inj (nth_of T.A 117)
theorem Tx.f_Nested_shape : findIn K (.ref 429) "shape" = some (some (.ref 419)) := Option.some.inj (nth_of T.A 118)
theorem Tx.f_Nested_width : findIn K (.ref 429) "width" = some (some (.ref 84)) := Option.some.inj (nth_of T.A 119)
theorem Tx.f_Nested_suits : findIn K (.ref 429) "suits" = some (some (.ref 426)) := Option.some.inj (nth_of T.A 120)
theorem Tx.f_Nested_blank : findIn K (.ref 429) "blank" = some (some (.ref 98)) := Option.some.inj (nth_of T.A 121)
theorem Tx.o_Nested_name : findIn K (.ref 429) "name" = some none := Option.some.inj (nth_of T.A 124)
theorem Tx.s_Nested : findIn K (.ref 429) "__setattr__" = some (some (.builtin "object.__setattr__")) := Option.some.inj (nth_of T.A 125)
theorem Tx.c_Nested : findIn K (.ref 429) "__class__" = some (some (.builtin "object.__class__")) := Option.some.inj (nth_of T.A 126)
theorem Tx.g_Nested : plainGet K 429 Str.empty = true := all_of (f := id) 18 T.B rfl
theorem Tx.h_Nested : hasDictIn K 429 = true := all_of (f := id) 19 T.B rfl
theorem Tx.p_Nested : plainOver K 429 = true := all_of (f := id) 20 T.B rfl
theorem Tx.r_Nested : mroIn K 429 (.type "object") = some true := Option.some.inj (nth_of T.C 6)
theorem Tx.og : specialIn K (.builtin "object.__class__") "__get__" = some (some (.builtin "getset_descriptor.__get__")) := Option.some.inj (nth_of T.A 127)
theorem Tx.ot : takesIn K (.builtin "object.__class__") = some true := Option.some.inj (nth_of T.C 7)
theorem Tx.mk_Truth : makesIn K 143 = true := all_of (f := id) 21 T.B rfl
theorem Tx.mp_Truth : keepIn K (.ref 143) = true := all_of (f := id) 22 T.B rfl
theorem Tx.mk_Count : makesIn K 176 = true := all_of (f := id) 23 T.B rfl
theorem Tx.mp_Count : keepIn K (.ref 176) = true := all_of (f := id) 24 T.B rfl
theorem Tx.mk_Whole : makesIn K 209 = true := all_of (f := id) 25 T.B rfl
theorem Tx.mp_Whole : keepIn K (.ref 209) = true := all_of (f := id) 26 T.B rfl
theorem Tx.mk_Upto : makesIn K 263 = true := all_of (f := id) 27 T.B rfl
theorem Tx.mp_Upto : keepIn K (.ref 263) = true := all_of (f := id) 28 T.B rfl
theorem Tx.mk_Text : makesIn K 316 = true := all_of (f := id) 29 T.B rfl
theorem Tx.mp_Text : keepIn K (.ref 316) = true := all_of (f := id) 30 T.B rfl
theorem Tx.mk_List : makesIn K 375 = true := all_of (f := id) 31 T.B rfl
theorem Tx.mp_List : keepIn K (.ref 375) = true := all_of (f := id) 32 T.B rfl
theorem Tx.mk_Nested : makesIn K 429 = true := all_of (f := id) 33 T.B rfl
theorem Tx.mp_Nested : keepIn K (.ref 429) = true := all_of (f := id) 34 T.B rfl
theorem Tx.k_is_whole : keepIn K (.ref 21) = true := all_of (f := id) 35 T.B rfl
theorem Tx.k_is_among : keepIn K (.ref 28) = true := all_of (f := id) 36 T.B rfl
theorem Tx.k_number_text : keepIn K (.ref 35) = true := all_of (f := id) 37 T.B rfl
theorem Tx.k_is_sign : keepIn K (.ref 42) = true := all_of (f := id) 38 T.B rfl
theorem Tx.k_Kind_words : keepIn K (.ref 63) = true := all_of (f := id) 41 T.B rfl
theorem Tx.i_Kind_words : isFn K (.ref 63) = true := all_of (f := id) 42 T.B rfl
theorem Tx.k_Kind_is_plain : keepIn K (.ref 70) = true := all_of (f := id) 43 T.B rfl
theorem Tx.i_Kind_is_plain : isFn K (.ref 70) = true := all_of (f := id) 44 T.B rfl
theorem Tx.k_Kind_shape : keepIn K (.ref 77) = true := all_of (f := id) 45 T.B rfl
theorem Tx.i_Kind_shape : isFn K (.ref 77) = true := all_of (f := id) 46 T.B rfl
theorem Tx.k_Kind_width : keepIn K (.ref 84) = true := all_of (f := id) 47 T.B rfl
theorem Tx.i_Kind_width : isFn K (.ref 84) = true := all_of (f := id) 48 T.B rfl
theorem Tx.k_Kind_blank : keepIn K (.ref 98) = true := all_of (f := id) 51 T.B rfl
theorem Tx.i_Kind_blank : isFn K (.ref 98) = true := all_of (f := id) 52 T.B rfl
theorem Tx.k_Truth_word : keepIn K (.ref 119) = true := all_of (f := id) 53 T.B rfl
theorem Tx.i_Truth_word : isFn K (.ref 119) = true := all_of (f := id) 54 T.B rfl
theorem Tx.k_Truth_width : keepIn K (.ref 126) = true := all_of (f := id) 55 T.B rfl
theorem Tx.i_Truth_width : isFn K (.ref 126) = true := all_of (f := id) 56 T.B rfl
theorem Tx.k_Truth_suits : keepIn K (.ref 133) = true := all_of (f := id) 57 T.B rfl
theorem Tx.i_Truth_suits : isFn K (.ref 133) = true := all_of (f := id) 58 T.B rfl
theorem Tx.k_Truth_blank : keepIn K (.ref 140) = true := all_of (f := id) 59 T.B rfl
theorem Tx.i_Truth_blank : isFn K (.ref 140) = true := all_of (f := id) 60 T.B rfl
theorem Tx.k_Count_word : keepIn K (.ref 159) = true := all_of (f := id) 61 T.B rfl
theorem Tx.i_Count_word : isFn K (.ref 159) = true := all_of (f := id) 62 T.B rfl
theorem Tx.k_Count_suits : keepIn K (.ref 166) = true := all_of (f := id) 63 T.B rfl
theorem Tx.i_Count_suits : isFn K (.ref 166) = true := all_of (f := id) 64 T.B rfl
theorem Tx.k_Count_blank : keepIn K (.ref 173) = true := all_of (f := id) 65 T.B rfl
theorem Tx.i_Count_blank : isFn K (.ref 173) = true := all_of (f := id) 66 T.B rfl
theorem Tx.k_Whole_word : keepIn K (.ref 192) = true := all_of (f := id) 67 T.B rfl
theorem Tx.i_Whole_word : isFn K (.ref 192) = true := all_of (f := id) 68 T.B rfl
theorem Tx.k_Whole_suits : keepIn K (.ref 199) = true := all_of (f := id) 69 T.B rfl
theorem Tx.i_Whole_suits : isFn K (.ref 199) = true := all_of (f := id) 70 T.B rfl
theorem Tx.k_Whole_blank : keepIn K (.ref 206) = true := all_of (f := id) 71 T.B rfl
theorem Tx.i_Whole_blank : isFn K (.ref 206) = true := all_of (f := id) 72 T.B rfl
theorem Tx.k_Upto_init : keepIn K (.ref 225) = true := all_of (f := id) 73 T.B rfl
theorem Tx.i_Upto_init : isFn K (.ref 225) = true := all_of (f := id) 74 T.B rfl
theorem Tx.k_Upto_word : keepIn K (.ref 232) = true := all_of (f := id) 75 T.B rfl
theorem Tx.i_Upto_word : isFn K (.ref 232) = true := all_of (f := id) 76 T.B rfl
theorem Tx.k_Upto_words : keepIn K (.ref 239) = true := all_of (f := id) 77 T.B rfl
theorem Tx.i_Upto_words : isFn K (.ref 239) = true := all_of (f := id) 78 T.B rfl
theorem Tx.k_Upto_width : keepIn K (.ref 246) = true := all_of (f := id) 79 T.B rfl
theorem Tx.i_Upto_width : isFn K (.ref 246) = true := all_of (f := id) 80 T.B rfl
theorem Tx.k_Upto_suits : keepIn K (.ref 253) = true := all_of (f := id) 81 T.B rfl
theorem Tx.i_Upto_suits : isFn K (.ref 253) = true := all_of (f := id) 82 T.B rfl
theorem Tx.k_Upto_blank : keepIn K (.ref 260) = true := all_of (f := id) 83 T.B rfl
theorem Tx.i_Upto_blank : isFn K (.ref 260) = true := all_of (f := id) 84 T.B rfl
theorem Tx.i_Text_init : isFn K (.ref 280) = true := all_of (f := id) 86 T.B rfl
theorem Tx.k_Text_word : keepIn K (.ref 287) = true := all_of (f := id) 87 T.B rfl
theorem Tx.i_Text_word : isFn K (.ref 287) = true := all_of (f := id) 88 T.B rfl
theorem Tx.k_Text_words : keepIn K (.ref 294) = true := all_of (f := id) 89 T.B rfl
theorem Tx.i_Text_words : isFn K (.ref 294) = true := all_of (f := id) 90 T.B rfl
theorem Tx.k_Text_shape : keepIn K (.ref 301) = true := all_of (f := id) 91 T.B rfl
theorem Tx.i_Text_shape : isFn K (.ref 301) = true := all_of (f := id) 92 T.B rfl
theorem Tx.k_Text_suits : keepIn K (.ref 306) = true := all_of (f := id) 93 T.B rfl
theorem Tx.i_Text_suits : isFn K (.ref 306) = true := all_of (f := id) 94 T.B rfl
theorem Tx.k_Text_blank : keepIn K (.ref 313) = true := all_of (f := id) 95 T.B rfl
theorem Tx.i_Text_blank : isFn K (.ref 313) = true := all_of (f := id) 96 T.B rfl
theorem Tx.k_List_init : keepIn K (.ref 332) = true := all_of (f := id) 97 T.B rfl
theorem Tx.i_List_init : isFn K (.ref 332) = true := all_of (f := id) 98 T.B rfl
theorem Tx.k_List_word : keepIn K (.ref 339) = true := all_of (f := id) 99 T.B rfl
theorem Tx.i_List_word : isFn K (.ref 339) = true := all_of (f := id) 100 T.B rfl
theorem Tx.k_List_words : keepIn K (.ref 346) = true := all_of (f := id) 101 T.B rfl
theorem Tx.i_List_words : isFn K (.ref 346) = true := all_of (f := id) 102 T.B rfl
theorem Tx.k_List_is_plain : keepIn K (.ref 353) = true := all_of (f := id) 103 T.B rfl
theorem Tx.i_List_is_plain : isFn K (.ref 353) = true := all_of (f := id) 104 T.B rfl
theorem Tx.k_List_shape : keepIn K (.ref 360) = true := all_of (f := id) 105 T.B rfl
theorem Tx.i_List_shape : isFn K (.ref 360) = true := all_of (f := id) 106 T.B rfl
theorem Tx.k_List_suits : keepIn K (.ref 365) = true := all_of (f := id) 107 T.B rfl
theorem Tx.i_List_suits : isFn K (.ref 365) = true := all_of (f := id) 108 T.B rfl
theorem Tx.k_List_blank : keepIn K (.ref 372) = true := all_of (f := id) 109 T.B rfl
theorem Tx.i_List_blank : isFn K (.ref 372) = true := all_of (f := id) 110 T.B rfl
theorem Tx.k_Nested_init : keepIn K (.ref 391) = true := all_of (f := id) 111 T.B rfl
theorem Tx.i_Nested_init : isFn K (.ref 391) = true := all_of (f := id) 112 T.B rfl
theorem Tx.k_Nested_word : keepIn K (.ref 398) = true := all_of (f := id) 113 T.B rfl
theorem Tx.i_Nested_word : isFn K (.ref 398) = true := all_of (f := id) 114 T.B rfl
theorem Tx.k_Nested_words : keepIn K (.ref 405) = true := all_of (f := id) 115 T.B rfl
theorem Tx.i_Nested_words : isFn K (.ref 405) = true := all_of (f := id) 116 T.B rfl
theorem Tx.k_Nested_is_plain : keepIn K (.ref 412) = true := all_of (f := id) 117 T.B rfl
theorem Tx.i_Nested_is_plain : isFn K (.ref 412) = true := all_of (f := id) 118 T.B rfl
theorem Tx.k_Nested_shape : keepIn K (.ref 419) = true := all_of (f := id) 119 T.B rfl
theorem Tx.i_Nested_shape : isFn K (.ref 419) = true := all_of (f := id) 120 T.B rfl
theorem Tx.k_Nested_suits : keepIn K (.ref 426) = true := all_of (f := id) 121 T.B rfl
theorem Tx.i_Nested_suits : isFn K (.ref 426) = true := all_of (f := id) 122 T.B rfl
theorem Tx.k_number : keepIn K (.ref 438) = true := all_of (f := id) 123 T.B rfl
theorem Tx.k_mixed : keepIn K (.ref 445) = true := all_of (f := id) 124 T.B rfl
theorem Tx.k_names : keepIn K (.ref 450) = true := all_of (f := id) 125 T.B rfl
theorem Tx.k_bound : keepIn K (.ref 457) = true := all_of (f := id) 126 T.B rfl
theorem Tx.k_drawn : keepIn K (.ref 464) = true := all_of (f := id) 127 T.B rfl
theorem Tx.k_made_of : keepIn K (.ref 471) = true := all_of (f := id) 128 T.B rfl
theorem Tx.k_words : keepIn K (.ref 476) = true := all_of (f := id) 129 T.B rfl
theorem Tx.k_width : keepIn K (.ref 483) = true := all_of (f := id) 130 T.B rfl
theorem Tx.k_suits : keepIn K (.ref 488) = true := all_of (f := id) 131 T.B rfl
theorem Tx.k_asked_of : keepIn K (.ref 493) = true := all_of (f := id) 132 T.B rfl
theorem Tx.k_right : keepIn K (.ref 500) = true := all_of (f := id) 133 T.B rfl
theorem Tx.k_held : keepIn K (.ref 507) = true := all_of (f := id) 134 T.B rfl
theorem Tx.k_law : keepIn K (.ref 512) = true := all_of (f := id) 135 T.B rfl
theorem Tx.q_NoneType_bool : kitOne K (.type "NoneType") (.type "bool") = some false := Option.some.inj (nth_of T.C 8)
theorem Tx.q_NoneType_int : kitOne K (.type "NoneType") (.type "int") = some false := Option.some.inj (nth_of T.C 9)
theorem Tx.q_NoneType_str : kitOne K (.type "NoneType") (.type "str") = some false := Option.some.inj (nth_of T.C 10)
theorem Tx.q_NoneType_list : kitOne K (.type "NoneType") (.type "list") = some false := Option.some.inj (nth_of T.C 11)
theorem Tx.q_bool_bool : kitOne K (.type "bool") (.type "bool") = some true := Option.some.inj (nth_of T.C 12)
theorem Tx.q_bool_int : kitOne K (.type "bool") (.type "int") = some true := Option.some.inj (nth_of T.C 13)
theorem Tx.q_int_bool : kitOne K (.type "int") (.type "bool") = some false := Option.some.inj (nth_of T.C 16)
theorem Tx.q_str_bool : kitOne K (.type "str") (.type "bool") = some false := Option.some.inj (nth_of T.C 20)
theorem Tx.q_str_str : kitOne K (.type "str") (.type "str") = some true := Option.some.inj (nth_of T.C 22)
theorem Tx.q_list_bool : kitOne K (.type "list") (.type "bool") = some false := Option.some.inj (nth_of T.C 28)
theorem Tx.q_list_list : kitOne K (.type "list") (.type "list") = some true := Option.some.inj (nth_of T.C 31)
theorem Tx.q_List_List : kitOne K (.ref 375) (.ref 375) = some true := Option.some.inj (nth_of T.C 41)
theorem Tx.q_Truth_Kind : kitOne K (.ref 143) (.ref 101) = some true := Option.some.inj (nth_of T.C 43)
theorem Tx.q_Count_Kind : kitOne K (.ref 176) (.ref 101) = some true := Option.some.inj (nth_of T.C 44)
theorem Tx.q_Whole_Kind : kitOne K (.ref 209) (.ref 101) = some true := Option.some.inj (nth_of T.C 45)
theorem Tx.q_Upto_Kind : kitOne K (.ref 263) (.ref 101) = some true := Option.some.inj (nth_of T.C 46)
theorem Tx.q_Text_Kind : kitOne K (.ref 316) (.ref 101) = some true := Option.some.inj (nth_of T.C 47)
theorem Tx.q_List_Kind : kitOne K (.ref 375) (.ref 101) = some true := Option.some.inj (nth_of T.C 48)
theorem Tx.q_Nested_Kind : kitOne K (.ref 429) (.ref 101) = some true := Option.some.inj (nth_of T.C 49)
theorem Tx.d_is_whole : L2.Fun K "is_whole" "is_whole" s_is_whole 21 (HL.fdOf K 21) := fun_of (Option.some.inj (nth_of T.D 0)) T.k_is_whole
theorem Tx.d_is_among : L2.Fun K "is_among" "is_among" s_is_among 28 (HL.fdOf K 28) := fun_of (Option.some.inj (nth_of T.D 1)) T.k_is_among
theorem Tx.d_number_text : L2.Fun K "number_text" "number_text" s_number_text 35 (HL.fdOf K 35) := fun_of (Option.some.inj (nth_of T.D 2)) T.k_number_text
theorem Tx.d_is_sign : L2.Fun K "is_sign" "is_sign" s_is_sign 42 (HL.fdOf K 42) := fun_of (Option.some.inj (nth_of T.D 3)) T.k_is_sign
theorem Tx.d_Kind_words : L2.Fun K "words" "Kind.words" s_Kind_words 63 (HL.fdOf K 63) := fun_of (Option.some.inj (nth_of T.D 5)) T.k_Kind_words
theorem Tx.d_Kind_is_plain : L2.Fun K "is_plain" "Kind.is_plain" s_Kind_is_plain 70 (HL.fdOf K 70) := fun_of (Option.some.inj (nth_of T.D 6)) T.k_Kind_is_plain
theorem Tx.d_Kind_shape : L2.Fun K "shape" "Kind.shape" s_Kind_shape 77 (HL.fdOf K 77) := fun_of (Option.some.inj (nth_of T.D 7)) T.k_Kind_shape
theorem Tx.d_Kind_width : L2.Fun K "width" "Kind.width" s_Kind_width 84 (HL.fdOf K 84) := fun_of (Option.some.inj (nth_of T.D 8)) T.k_Kind_width
theorem Tx.d_Kind_blank : L2.Fun K "blank" "Kind.blank" s_Kind_blank 98 (HL.fdOf K 98) := fun_of (Option.some.inj (nth_of T.D 10)) T.k_Kind_blank
theorem Tx.d_Truth_word : L2.Fun K "word" "Truth.word" s_Truth_word 119 (HL.fdOf K 119) := fun_of (Option.some.inj (nth_of T.D 11)) T.k_Truth_word
theorem Tx.d_Truth_width : L2.Fun K "width" "Truth.width" s_Truth_width 126 (HL.fdOf K 126) := fun_of (Option.some.inj (nth_of T.D 12)) T.k_Truth_width
theorem Tx.d_Truth_suits : L2.Fun K "suits" "Truth.suits" s_Truth_suits 133 (HL.fdOf K 133) := fun_of (Option.some.inj (nth_of T.D 13)) T.k_Truth_suits
theorem Tx.d_Truth_blank : L2.Fun K "blank" "Truth.blank" s_Truth_blank 140 (HL.fdOf K 140) := fun_of (Option.some.inj (nth_of T.D 14)) T.k_Truth_blank
theorem Tx.d_Count_word : L2.Fun K "word" "Count.word" s_Count_word 159 (HL.fdOf K 159) := fun_of (Option.some.inj (nth_of T.D 15)) T.k_Count_word
theorem Tx.d_Count_suits : L2.Fun K "suits" "Count.suits" s_Count_suits 166 (HL.fdOf K 166) := fun_of (Option.some.inj (nth_of T.D 16)) T.k_Count_suits
theorem Tx.d_Count_blank : L2.Fun K "blank" "Count.blank" s_Count_blank 173 (HL.fdOf K 173) := fun_of (Option.some.inj (nth_of T.D 17)) T.k_Count_blank
theorem Tx.d_Whole_word : L2.Fun K "word" "Whole.word" s_Whole_word 192 (HL.fdOf K 192) := fun_of (Option.some.inj (nth_of T.D 18)) T.k_Whole_word
theorem Tx.d_Whole_suits : L2.Fun K "suits" "Whole.suits" s_Whole_suits 199 (HL.fdOf K 199) := fun_of (Option.some.inj (nth_of T.D 19)) T.k_Whole_suits
theorem Tx.d_Whole_blank : L2.Fun K "blank" "Whole.blank" s_Whole_blank 206 (HL.fdOf K 206) := fun_of (Option.some.inj (nth_of T.D 20)) T.k_Whole_blank
theorem Tx.d_Upto_init : L2.Fun K "__init__" "Upto.__init__" s_Upto_init 225 (HL.fdOf K 225) := fun_of (Option.some.inj (nth_of T.D 21)) T.k_Upto_init
theorem Tx.d_Upto_word : L2.Fun K "word" "Upto.word" s_Upto_word 232 (HL.fdOf K 232) := fun_of (Option.some.inj (nth_of T.D 22)) T.k_Upto_word
theorem Tx.d_Upto_words : L2.Fun K "words" "Upto.words" s_Upto_words 239 (HL.fdOf K 239) := fun_of (Option.some.inj (nth_of T.D 23)) T.k_Upto_words
theorem Tx.d_Upto_width : L2.Fun K "width" "Upto.width" s_Upto_width 246 (HL.fdOf K 246) := fun_of (Option.some.inj (nth_of T.D 24)) T.k_Upto_width
theorem Tx.d_Upto_suits : L2.Fun K "suits" "Upto.suits" s_Upto_suits 253 (HL.fdOf K 253) := fun_of (Option.some.inj (nth_of T.D 25)) T.k_Upto_suits
theorem Tx.d_Upto_blank : L2.Fun K "blank" "Upto.blank" s_Upto_blank 260 (HL.fdOf K 260) := fun_of (Option.some.inj (nth_of T.D 26)) T.k_Upto_blank
theorem Tx.e_Text_init : fv K 280 = fx "__init__" "Text.__init__" s_Text_init (.ref 273) := Option.some.inj (nth_of T.D 27)
theorem Tx.d_Text_word : L2.Fun K "word" "Text.word" s_Text_word 287 (HL.fdOf K 287) := fun_of (Option.some.inj (nth_of T.D 28)) T.k_Text_word
theorem Tx.d_Text_words : L2.Fun K "words" "Text.words" s_Text_words 294 (HL.fdOf K 294) := fun_of (Option.some.inj (nth_of T.D 29)) T.k_Text_words
theorem Tx.d_Text_shape : L2.Fun K "shape" "Text.shape" s_Text_shape 301 (HL.fdOf K 301) := fun_of (Option.some.inj (nth_of T.D 30)) T.k_Text_shape
theorem Tx.d_Text_suits : L2.Fun K "suits" "Text.suits" s_Text_suits 306 (HL.fdOf K 306) := fun_of (Option.some.inj (nth_of T.D 31)) T.k_Text_suits
theorem Tx.d_Text_blank : L2.Fun K "blank" "Text.blank" s_Text_blank 313 (HL.fdOf K 313) := fun_of (Option.some.inj (nth_of T.D 32)) T.k_Text_blank
theorem Tx.d_List_init : L2.Fun K "__init__" "List.__init__" s_List_init 332 (HL.fdOf K 332) := fun_of (Option.some.inj (nth_of T.D 33)) T.k_List_init
theorem Tx.d_List_word : L2.Fun K "word" "List.word" s_List_word 339 (HL.fdOf K 339) := fun_of (Option.some.inj (nth_of T.D 34)) T.k_List_word
theorem Tx.d_List_words : L2.Fun K "words" "List.words" s_List_words 346 (HL.fdOf K 346) := fun_of (Option.some.inj (nth_of T.D 35)) T.k_List_words
theorem Tx.d_List_is_plain : L2.Fun K "is_plain" "List.is_plain" s_List_is_plain 353 (HL.fdOf K 353) := fun_of (Option.some.inj (nth_of T.D 36)) T.k_List_is_plain
theorem Tx.d_List_shape : L2.Fun K "shape" "List.shape" s_List_shape 360 (HL.fdOf K 360) := fun_of (Option.some.inj (nth_of T.D 37)) T.k_List_shape
theorem Tx.d_List_suits : L2.Fun K "suits" "List.suits" s_List_suits 365 (HL.fdOf K 365) := fun_of (Option.some.inj (nth_of T.D 38)) T.k_List_suits
theorem Tx.d_List_blank : L2.Fun K "blank" "List.blank" s_List_blank 372 (HL.fdOf K 372) := fun_of (Option.some.inj (nth_of T.D 39)) T.k_List_blank
theorem Tx.d_Nested_init : L2.Fun K "__init__" "Nested.__init__" s_Nested_init 391 (HL.fdOf K 391) := fun_of (Option.some.inj (nth_of T.D 40)) T.k_Nested_init
theorem Tx.d_Nested_word : L2.Fun K "word" "Nested.word" s_Nested_word 398 (HL.fdOf K 398) := fun_of (Option.some.inj (nth_of T.D 41)) T.k_Nested_word
theorem Tx.d_Nested_words : L2.Fun K "words" "Nested.words" s_Nested_words 405 (HL.fdOf K 405) := fun_of (Option.some.inj (nth_of T.D 42)) T.k_Nested_words
theorem Tx.d_Nested_is_plain : L2.Fun K "is_plain" "Nested.is_plain" s_Nested_is_plain 412 (HL.fdOf K 412) := fun_of (Option.some.inj (nth_of T.D 43)) T.k_Nested_is_plain
theorem Tx.d_Nested_shape : L2.Fun K "shape" "Nested.shape" s_Nested_shape 419 (HL.fdOf K 419) := fun_of (Option.some.inj (nth_of T.D 44)) T.k_Nested_shape
theorem Tx.d_Nested_suits : L2.Fun K "suits" "Nested.suits" s_Nested_suits 426 (HL.fdOf K 426) := fun_of (Option.some.inj (nth_of T.D 45)) T.k_Nested_suits
theorem Tx.d_number : L2.Fun K "_law_number" "_law_number" s_number 438 (HL.fdOf K 438) := fun_of (Option.some.inj (nth_of T.D 46)) T.k_number
theorem Tx.d_mixed : L2.Fun K "_law_mixed" "_law_mixed" s_mixed 445 (HL.fdOf K 445) := fun_of (Option.some.inj (nth_of T.D 47)) T.k_mixed
theorem Tx.d_names : L2.Fun K "_law_names" "_law_names" s_names 450 (HL.fdOf K 450) := fun_of (Option.some.inj (nth_of T.D 48)) T.k_names
theorem Tx.d_bound : L2.Fun K "_law_bound" "_law_bound" s_bound 457 (HL.fdOf K 457) := fun_of (Option.some.inj (nth_of T.D 49)) T.k_bound
theorem Tx.d_drawn : L2.Fun K "_law_drawn" "_law_drawn" s_drawn 464 (HL.fdOf K 464) := fun_of (Option.some.inj (nth_of T.D 50)) T.k_drawn
theorem Tx.d_made_of : L2.Fun K "_law_made_of" "_law_made_of" s_made_of 471 (HL.fdOf K 471) := fun_of (Option.some.inj (nth_of T.D 51)) T.k_made_of
theorem Tx.d_words : L2.Fun K "_law_words" "_law_words" s_words 476 (HL.fdOf K 476) := fun_of (Option.some.inj (nth_of T.D 52)) T.k_words
theorem Tx.d_width : L2.Fun K "_law_width" "_law_width" s_width 483 (HL.fdOf K 483) := fun_of (Option.some.inj (nth_of T.D 53)) T.k_width
theorem Tx.d_suits : L2.Fun K "_law_suits" "_law_suits" s_suits 488 (HL.fdOf K 488) := fun_of (Option.some.inj (nth_of T.D 54)) T.k_suits
theorem Tx.d_asked_of : L2.Fun K "_law_asked_of" "_law_asked_of" s_asked_of 493 (HL.fdOf K 493) := fun_of (Option.some.inj (nth_of T.D 55)) T.k_asked_of
theorem Tx.d_right : L2.Fun K "_law_right" "_law_right" s_right 500 (HL.fdOf K 500) := fun_of (Option.some.inj (nth_of T.D 56)) T.k_right
theorem Tx.d_held : L2.Fun K "_law_held" "_law_held" s_held 507 (HL.fdOf K 507) := fun_of (Option.some.inj (nth_of T.D 57)) T.k_held
theorem Tx.d_law : L2.Fun K "law" "law" s_law 512 (HL.fdOf K 512) := fun_of (Option.some.inj (nth_of T.D 58)) T.k_law
theorem Tx.v_MOST_NUMBER : ∃ t, nsIn K mainGlobals "MOST_NUMBER" = some (some (.int 115792089237316195423570985008687907853269984665640564039457584007913129639935 t)) := int_of (Option.some.inj (nth_of T.I 0))
theorem Tx.v_MOST_WHOLE : ∃ t, nsIn K mainGlobals "MOST_WHOLE" = some (some (.int 57896044618658097711785492504343953926634992332820282019728792003956564819967 t)) := int_of (Option.some.inj (nth_of T.I 1))
theorem Tx.v_MOST_SIGNS : ∃ t, nsIn K mainGlobals "MOST_SIGNS" = some (some (.int 100 t)) := int_of (Option.some.inj (nth_of T.I 2))
theorem Tx.v_MOST_THINGS : ∃ t, nsIn K mainGlobals "MOST_THINGS" = some (some (.int 20 t)) := int_of (Option.some.inj (nth_of T.I 3))
theorem Tx.v_MOST_PACKED : ∃ t, nsIn K mainGlobals "MOST_PACKED" = some (some (.int 255 t)) := int_of (Option.some.inj (nth_of T.I 4))
theorem Tx.v_LEAST_SIGN : ∃ t, nsIn K mainGlobals "LEAST_SIGN" = some (some (.int 32 t)) := int_of (Option.some.inj (nth_of T.I 5))
theorem Tx.v_MOST_SIGN : ∃ t, nsIn K mainGlobals "MOST_SIGN" = some (some (.int 126 t)) := int_of (Option.some.inj (nth_of T.I 6))
theorem Tx.v_PERCENT_SIGN : ∃ t, nsIn K mainGlobals "PERCENT_SIGN" = some (some (.int 37 t)) := int_of (Option.some.inj (nth_of T.I 7))
theorem Tx.dh_Text : iv ((seqOf K 273).map List.head?) = some 100 := Option.some.inj (nth_of T.I 8)
theorem Tx.dl_Text : (seqOf K 273).map (fun l => (l.length : Int)) = some 1 := Option.some.inj (nth_of T.I 9)
theorem Tx.m_is_whole : mg "is_whole" = some (.ref 21) := T.g _ _ T.a_is_whole
theorem Tx.b_is_whole : Binds K (HL.fdOf K 21) ["thing"] [] := T.d_is_whole.binds (ps := ["thing"]) fun _ _ _ _ _ _ us hl => match us, hl with | [_], _ => rfl
theorem Tx.m_is_among : mg "is_among" = some (.ref 28) := T.g _ _ T.a_is_among
theorem Tx.b_is_among : Binds K (HL.fdOf K 28) ["thing", "least", "most"] [] := T.d_is_among.binds (ps := ["thing", "least", "most"]) fun _ _ _ _ _ _ us hl => match us, hl with | [_, _, _], _ => rfl
theorem Tx.m_number_text : mg "number_text" = some (.ref 35) := T.g _ _ T.a_number_text
theorem Tx.b_number_text : Binds K (HL.fdOf K 35) ["number"] [] := T.d_number_text.binds (ps := ["number"]) fun _ _ _ _ _ _ us hl => match us, hl with | [_], _ => rfl
theorem Tx.m_is_sign : mg "is_sign" = some (.ref 42) := T.g _ _ T.a_is_sign
theorem Tx.b_is_sign : Binds K (HL.fdOf K 42) ["number"] [] := T.d_is_sign.binds (ps := ["number"]) fun _ _ _ _ _ _ us hl => match us, hl with | [_], _ => rfl
theorem Tx.b_Kind_words : Binds K (HL.fdOf K 63) ["self"] [] := T.d_Kind_words.binds (ps := ["self"]) fun _ _ _ _ _ _ us hl => match us, hl with | [_], _ => rfl
theorem Tx.b_Kind_is_plain : Binds K (HL.fdOf K 70) ["self"] [] := T.d_Kind_is_plain.binds (ps := ["self"]) fun _ _ _ _ _ _ us hl => match us, hl with | [_], _ => rfl
theorem Tx.b_Kind_shape : Binds K (HL.fdOf K 77) ["self"] [] := T.d_Kind_shape.binds (ps := ["self"]) fun _ _ _ _ _ _ us hl => match us, hl with | [_], _ => rfl
theorem Tx.b_Kind_width : Binds K (HL.fdOf K 84) ["self"] [] := T.d_Kind_width.binds (ps := ["self"]) fun _ _ _ _ _ _ us hl => match us, hl with | [_], _ => rfl
theorem Tx.b_Kind_blank : Binds K (HL.fdOf K 98) ["self"] [] := T.d_Kind_blank.binds (ps := ["self"]) fun _ _ _ _ _ _ us hl => match us, hl with | [_], _ => rfl
theorem Tx.b_Truth_word : Binds K (HL.fdOf K 119) ["self"] [] := T.d_Truth_word.binds (ps := ["self"]) fun _ _ _ _ _ _ us hl => match us, hl with | [_], _ => rfl
theorem Tx.b_Truth_width : Binds K (HL.fdOf K 126) ["self"] [] := T.d_Truth_width.binds (ps := ["self"]) fun _ _ _ _ _ _ us hl => match us, hl with | [_], _ => rfl
theorem Tx.b_Truth_suits : Binds K (HL.fdOf K 133) ["self", "value"] [] := T.d_Truth_suits.binds (ps := ["self", "value"]) fun _ _ _ _ _ _ us hl => match us, hl with | [_, _], _ => rfl
theorem Tx.b_Truth_blank : Binds K (HL.fdOf K 140) ["self"] [] := T.d_Truth_blank.binds (ps := ["self"]) fun _ _ _ _ _ _ us hl => match us, hl with | [_], _ => rfl
theorem Tx.b_Count_word : Binds K (HL.fdOf K 159) ["self"] [] := T.d_Count_word.binds (ps := ["self"]) fun _ _ _ _ _ _ us hl => match us, hl with | [_], _ => rfl
theorem Tx.b_Count_suits : Binds K (HL.fdOf K 166) ["self", "value"] [] := T.d_Count_suits.binds (ps := ["self", "value"]) fun _ _ _ _ _ _ us hl => match us, hl with | [_, _], _ => rfl
theorem Tx.b_Count_blank : Binds K (HL.fdOf K 173) ["self"] [] := T.d_Count_blank.binds (ps := ["self"]) fun _ _ _ _ _ _ us hl => match us, hl with | [_], _ => rfl
theorem Tx.b_Whole_word : Binds K (HL.fdOf K 192) ["self"] [] := T.d_Whole_word.binds (ps := ["self"]) fun _ _ _ _ _ _ us hl => match us, hl with | [_], _ => rfl
theorem Tx.b_Whole_suits : Binds K (HL.fdOf K 199) ["self", "value"] [] := T.d_Whole_suits.binds (ps := ["self", "value"]) fun _ _ _ _ _ _ us hl => match us, hl with | [_, _], _ => rfl
theorem Tx.b_Whole_blank : Binds K (HL.fdOf K 206) ["self"] [] := T.d_Whole_blank.binds (ps := ["self"]) fun _ _ _ _ _ _ us hl => match us, hl with | [_], _ => rfl
theorem Tx.b_Upto_init : Binds K (HL.fdOf K 225) ["self", "most"] [] := T.d_Upto_init.binds (ps := ["self", "most"]) fun _ _ _ _ _ _ us hl => match us, hl with | [_, _], _ => rfl
theorem Tx.b_Upto_word : Binds K (HL.fdOf K 232) ["self"] [] := T.d_Upto_word.binds (ps := ["self"]) fun _ _ _ _ _ _ us hl => match us, hl with | [_], _ => rfl
theorem Tx.b_Upto_words : Binds K (HL.fdOf K 239) ["self"] [] := T.d_Upto_words.binds (ps := ["self"]) fun _ _ _ _ _ _ us hl => match us, hl with | [_], _ => rfl
theorem Tx.b_Upto_width : Binds K (HL.fdOf K 246) ["self"] [] := T.d_Upto_width.binds (ps := ["self"]) fun _ _ _ _ _ _ us hl => match us, hl with | [_], _ => rfl
theorem Tx.b_Upto_suits : Binds K (HL.fdOf K 253) ["self", "value"] [] := T.d_Upto_suits.binds (ps := ["self", "value"]) fun _ _ _ _ _ _ us hl => match us, hl with | [_, _], _ => rfl
theorem Tx.b_Upto_blank : Binds K (HL.fdOf K 260) ["self"] [] := T.d_Upto_blank.binds (ps := ["self"]) fun _ _ _ _ _ _ us hl => match us, hl with | [_], _ => rfl
theorem Tx.b_Text_word : Binds K (HL.fdOf K 287) ["self"] [] := T.d_Text_word.binds (ps := ["self"]) fun _ _ _ _ _ _ us hl => match us, hl with | [_], _ => rfl
theorem Tx.b_Text_words : Binds K (HL.fdOf K 294) ["self"] [] := T.d_Text_words.binds (ps := ["self"]) fun _ _ _ _ _ _ us hl => match us, hl with | [_], _ => rfl
theorem Tx.b_Text_shape : Binds K (HL.fdOf K 301) ["self"] [] := T.d_Text_shape.binds (ps := ["self"]) fun _ _ _ _ _ _ us hl => match us, hl with | [_], _ => rfl
theorem Tx.b_Text_suits : Binds K (HL.fdOf K 306) ["self", "value"] [] := T.d_Text_suits.binds (ps := ["self", "value"]) fun _ _ _ _ _ _ us hl => match us, hl with | [_, _], _ => rfl
theorem Tx.b_Text_blank : Binds K (HL.fdOf K 313) ["self"] [] := T.d_Text_blank.binds (ps := ["self"]) fun _ _ _ _ _ _ us hl => match us, hl with | [_], _ => rfl
theorem Tx.b_List_init : Binds K (HL.fdOf K 332) ["self", "item"] [] := T.d_List_init.binds (ps := ["self", "item"]) fun _ _ _ _ _ _ us hl => match us, hl with | [_, _], _ => rfl
theorem Tx.b_List_word : Binds K (HL.fdOf K 339) ["self"] [] := T.d_List_word.binds (ps := ["self"]) fun _ _ _ _ _ _ us hl => match us, hl with | [_], _ => rfl
theorem Tx.b_List_words : Binds K (HL.fdOf K 346) ["self"] [] := T.d_List_words.binds (ps := ["self"]) fun _ _ _ _ _ _ us hl => match us, hl with | [_], _ => rfl
theorem Tx.b_List_is_plain : Binds K (HL.fdOf K 353) ["self"] [] := T.d_List_is_plain.binds (ps := ["self"]) fun _ _ _ _ _ _ us hl => match us, hl with | [_], _ => rfl
theorem Tx.b_List_shape : Binds K (HL.fdOf K 360) ["self"] [] := T.d_List_shape.binds (ps := ["self"]) fun _ _ _ _ _ _ us hl => match us, hl with | [_], _ => rfl
theorem Tx.b_List_suits : Binds K (HL.fdOf K 365) ["self", "value"] [] := T.d_List_suits.binds (ps := ["self", "value"]) fun _ _ _ _ _ _ us hl => match us, hl with | [_, _], _ => rfl
theorem Tx.b_List_blank : Binds K (HL.fdOf K 372) ["self"] [] := T.d_List_blank.binds (ps := ["self"]) fun _ _ _ _ _ _ us hl => match us, hl with | [_], _ => rfl
theorem Tx.b_Nested_init : Binds K (HL.fdOf K 391) ["self", "name"] [] := T.d_Nested_init.binds (ps := ["self", "name"]) fun _ _ _ _ _ _ us hl => match us, hl with | [_, _], _ => rfl
theorem Tx.b_Nested_word : Binds K (HL.fdOf K 398) ["self"] [] := T.d_Nested_word.binds (ps := ["self"]) fun _ _ _ _ _ _ us hl => match us, hl with | [_], _ => rfl
theorem Tx.b_Nested_words : Binds K (HL.fdOf K 405) ["self"] [] := T.d_Nested_words.binds (ps := ["self"]) fun _ _ _ _ _ _ us hl => match us, hl with | [_], _ => rfl
theorem Tx.b_Nested_is_plain : Binds K (HL.fdOf K 412) ["self"] [] := T.d_Nested_is_plain.binds (ps := ["self"]) fun _ _ _ _ _ _ us hl => match us, hl with | [_], _ => rfl
theorem Tx.b_Nested_shape : Binds K (HL.fdOf K 419) ["self"] [] := T.d_Nested_shape.binds (ps := ["self"]) fun _ _ _ _ _ _ us hl => match us, hl with | [_], _ => rfl
theorem Tx.b_Nested_suits : Binds K (HL.fdOf K 426) ["self", "value"] [] := T.d_Nested_suits.binds (ps := ["self", "value"]) fun _ _ _ _ _ _ us hl => match us, hl with | [_, _], _ => rfl
theorem Tx.m_number : mg "_law_number" = some (.ref 438) := T.g _ _ T.a_number
theorem Tx.b_number : Binds K (HL.fdOf K 438) ["_law_script", "_law_k"] [] := T.d_number.binds (ps := ["_law_script", "_law_k"]) fun _ _ _ _ _ _ us hl => match us, hl with | [_, _], _ => rfl
theorem Tx.m_mixed : mg "_law_mixed" = some (.ref 445) := T.g _ _ T.a_mixed
theorem Tx.b_mixed : Binds K (HL.fdOf K 445) ["_law_number_here", "_law_k"] [] := T.d_mixed.binds (ps := ["_law_number_here", "_law_k"]) fun _ _ _ _ _ _ us hl => match us, hl with | [_, _], _ => rfl
theorem Tx.m_names : mg "_law_names" = some (.ref 450) := T.g _ _ T.a_names
theorem Tx.b_names : Binds K (HL.fdOf K 450) ["_law_number_here", "_law_many"] [] := T.d_names.binds (ps := ["_law_number_here", "_law_many"]) fun _ _ _ _ _ _ us hl => match us, hl with | [_, _], _ => rfl
theorem Tx.m_bound : mg "_law_bound" = some (.ref 457) := T.g _ _ T.a_bound
theorem Tx.b_bound : Binds K (HL.fdOf K 457) ["_law_number_here"] [] := T.d_bound.binds (ps := ["_law_number_here"]) fun _ _ _ _ _ _ us hl => match us, hl with | [_], _ => rfl
theorem Tx.m_drawn : mg "_law_drawn" = some (.ref 464) := T.g _ _ T.a_drawn
theorem Tx.b_drawn : Binds K (HL.fdOf K 464) ["_law_number_here"] [] := T.d_drawn.binds (ps := ["_law_number_here"]) fun _ _ _ _ _ _ us hl => match us, hl with | [_], _ => rfl
theorem Tx.m_made_of : mg "_law_made_of" = some (.ref 471) := T.g _ _ T.a_made_of
theorem Tx.b_made_of : Binds K (HL.fdOf K 471) ["_law_kind"] [] := T.d_made_of.binds (ps := ["_law_kind"]) fun _ _ _ _ _ _ us hl => match us, hl with | [_], _ => rfl
theorem Tx.m_words : mg "_law_words" = some (.ref 476) := T.g _ _ T.a_words
theorem Tx.b_words : Binds K (HL.fdOf K 476) ["_law_kind"] [] := T.d_words.binds (ps := ["_law_kind"]) fun _ _ _ _ _ _ us hl => match us, hl with | [_], _ => rfl
theorem Tx.m_width : mg "_law_width" = some (.ref 483) := T.g _ _ T.a_width
theorem Tx.b_width : Binds K (HL.fdOf K 483) ["_law_kind"] [] := T.d_width.binds (ps := ["_law_kind"]) fun _ _ _ _ _ _ us hl => match us, hl with | [_], _ => rfl
theorem Tx.m_suits : mg "_law_suits" = some (.ref 488) := T.g _ _ T.a_suits
theorem Tx.b_suits : Binds K (HL.fdOf K 488) ["_law_kind", "_law_value"] [] := T.d_suits.binds (ps := ["_law_kind", "_law_value"]) fun _ _ _ _ _ _ us hl => match us, hl with | [_, _], _ => rfl
theorem Tx.m_asked_of : mg "_law_asked_of" = some (.ref 493) := T.g _ _ T.a_asked_of
theorem Tx.b_asked_of : Binds K (HL.fdOf K 493) ["_law_kind", "_law_number_here"] [] := T.d_asked_of.binds (ps := ["_law_kind", "_law_number_here"]) fun _ _ _ _ _ _ us hl => match us, hl with | [_, _], _ => rfl
theorem Tx.m_right : mg "_law_right" = some (.ref 500) := T.g _ _ T.a_right
theorem Tx.b_right : Binds K (HL.fdOf K 500) ["_law_one", "_law_kind", "_law_way", "_law_number_here"] [] := T.d_right.binds (ps := ["_law_one", "_law_kind", "_law_way", "_law_number_here"]) fun _ _ _ _ _ _ us hl => match us, hl with | [_, _, _, _], _ => rfl
theorem Tx.m_held : mg "_law_held" = some (.ref 507) := T.g _ _ T.a_held
theorem Tx.b_held : Binds K (HL.fdOf K 507) ["_law_one", "_law_kind"] [] := T.d_held.binds (ps := ["_law_one", "_law_kind"]) fun _ _ _ _ _ _ us hl => match us, hl with | [_, _], _ => rfl
theorem Tx.y_len : mg "len" = none := T.g _ _ T.z_len
theorem Tx.y_range : mg "range" = none := T.g _ _ T.z_range
theorem Tx.y_isinstance : mg "isinstance" = none := T.g _ _ T.z_isinstance
theorem Tx.y_max : mg "max" = none := T.g _ _ T.z_max
theorem Tx.y_all : mg "all" = none := T.g _ _ T.z_all
theorem Tx.y_ord : mg "ord" = none := T.g _ _ T.z_ord
theorem Tx.y_zip : mg "zip" = none := T.g _ _ T.z_zip
theorem Tx.y_int : mg "int" = none := T.g _ _ T.z_int
theorem Tx.y_bool : mg "bool" = none := T.g _ _ T.z_bool
theorem Tx.y_list : mg "list" = none := T.g _ _ T.z_list
theorem Tx.y_str : mg "str" = none := T.g _ _ T.z_str
theorem Tx.u_MOST_NUMBER : ∃ t, mg "MOST_NUMBER" = some (.int 115792089237316195423570985008687907853269984665640564039457584007913129639935 t) := let ⟨t, e⟩ := T.v_MOST_NUMBER; ⟨t, T.g _ _ e⟩
theorem Tx.u_MOST_WHOLE : ∃ t, mg "MOST_WHOLE" = some (.int 57896044618658097711785492504343953926634992332820282019728792003956564819967 t) := let ⟨t, e⟩ := T.v_MOST_WHOLE; ⟨t, T.g _ _ e⟩
theorem Tx.u_MOST_SIGNS : ∃ t, mg "MOST_SIGNS" = some (.int 100 t) := let ⟨t, e⟩ := T.v_MOST_SIGNS; ⟨t, T.g _ _ e⟩
theorem Tx.u_MOST_THINGS : ∃ t, mg "MOST_THINGS" = some (.int 20 t) := let ⟨t, e⟩ := T.v_MOST_THINGS; ⟨t, T.g _ _ e⟩
theorem Tx.u_MOST_PACKED : ∃ t, mg "MOST_PACKED" = some (.int 255 t) := let ⟨t, e⟩ := T.v_MOST_PACKED; ⟨t, T.g _ _ e⟩
theorem Tx.u_LEAST_SIGN : ∃ t, mg "LEAST_SIGN" = some (.int 32 t) := let ⟨t, e⟩ := T.v_LEAST_SIGN; ⟨t, T.g _ _ e⟩
theorem Tx.u_MOST_SIGN : ∃ t, mg "MOST_SIGN" = some (.int 126 t) := let ⟨t, e⟩ := T.v_MOST_SIGN; ⟨t, T.g _ _ e⟩
theorem Tx.u_PERCENT_SIGN : ∃ t, mg "PERCENT_SIGN" = some (.int 37 t) := let ⟨t, e⟩ := T.v_PERCENT_SIGN; ⟨t, T.g _ _ e⟩
theorem Tx.mc_Kind : mg "Kind" = some (.ref 101) := T.g _ _ T.n_Kind
theorem Tx.mc_Truth : mg "Truth" = some (.ref 143) := T.g _ _ T.n_Truth
theorem Tx.mc_Count : mg "Count" = some (.ref 176) := T.g _ _ T.n_Count
theorem Tx.mc_Whole : mg "Whole" = some (.ref 209) := T.g _ _ T.n_Whole
theorem Tx.mc_Upto : mg "Upto" = some (.ref 263) := T.g _ _ T.n_Upto
theorem Tx.mc_Text : mg "Text" = some (.ref 316) := T.g _ _ T.n_Text
theorem Tx.mc_List : mg "List" = some (.ref 375) := T.g _ _ T.n_List
theorem Tx.mc_Nested : mg "Nested" = some (.ref 429) := T.g _ _ T.n_Nested
theorem Tx.cl_Truth : Cls K 143 := ⟨T.g_Truth, T.h_Truth, T.p_Truth, T.s_Truth⟩
theorem Tx.me_Truth_word : Meth K 143 "word" 119 := ⟨T.f_Truth_word, T.i_Truth_word, T.k_Truth_word⟩
theorem Tx.me_Truth_words : Meth K 143 "words" 63 := ⟨T.f_Truth_words, T.i_Kind_words, T.k_Kind_words⟩
theorem Tx.me_Truth_is_plain : Meth K 143 "is_plain" 70 := ⟨T.f_Truth_is_plain, T.i_Kind_is_plain, T.k_Kind_is_plain⟩
theorem Tx.me_Truth_shape : Meth K 143 "shape" 77 := ⟨T.f_Truth_shape, T.i_Kind_shape, T.k_Kind_shape⟩
theorem Tx.me_Truth_width : Meth K 143 "width" 126 := ⟨T.f_Truth_width, T.i_Truth_width, T.k_Truth_width⟩
theorem Tx.me_Truth_suits : Meth K 143 "suits" 133 := ⟨T.f_Truth_suits, T.i_Truth_suits, T.k_Truth_suits⟩
theorem Tx.me_Truth_blank : Meth K 143 "blank" 140 := ⟨T.f_Truth_blank, T.i_Truth_blank, T.k_Truth_blank⟩
theorem Tx.ty_Truth {H : Hp} {a dx : Addr} {fs : List (Str × V)} (e : H a = some (.ins 143 dx fs)) : TyOf K H (.ref a) (.ref 143) := .ins e T.cl_Truth T.c_Truth T.og T.ot T.r_Truth
theorem Tx.cl_Count : Cls K 176 := ⟨T.g_Count, T.h_Count, T.p_Count, T.s_Count⟩
theorem Tx.me_Count_word : Meth K 176 "word" 159 := ⟨T.f_Count_word, T.i_Count_word, T.k_Count_word⟩
theorem Tx.me_Count_words : Meth K 176 "words" 63 := ⟨T.f_Count_words, T.i_Kind_words, T.k_Kind_words⟩
theorem Tx.me_Count_is_plain : Meth K 176 "is_plain" 70 := ⟨T.f_Count_is_plain, T.i_Kind_is_plain, T.k_Kind_is_plain⟩
theorem Tx.me_Count_shape : Meth K 176 "shape" 77 := ⟨T.f_Count_shape, T.i_Kind_shape, T.k_Kind_shape⟩
theorem Tx.me_Count_width : Meth K 176 "width" 84 := ⟨T.f_Count_width, T.i_Kind_width, T.k_Kind_width⟩
theorem Tx.me_Count_suits : Meth K 176 "suits" 166 := ⟨T.f_Count_suits, T.i_Count_suits, T.k_Count_suits⟩
theorem Tx.me_Count_blank : Meth K 176 "blank" 173 := ⟨T.f_Count_blank, T.i_Count_blank, T.k_Count_blank⟩
theorem Tx.ty_Count {H : Hp} {a dx : Addr} {fs : List (Str × V)} (e : H a = some (.ins 176 dx fs)) : TyOf K H (.ref a) (.ref 176) := .ins e T.cl_Count T.c_Count T.og T.ot T.r_Count
theorem Tx.cl_Whole : Cls K 209 := ⟨T.g_Whole, T.h_Whole, T.p_Whole, T.s_Whole⟩
theorem Tx.me_Whole_word : Meth K 209 "word" 192 := ⟨T.f_Whole_word, T.i_Whole_word, T.k_Whole_word⟩
theorem Tx.me_Whole_words : Meth K 209 "words" 63 := ⟨T.f_Whole_words, T.i_Kind_words, T.k_Kind_words⟩
theorem Tx.me_Whole_is_plain : Meth K 209 "is_plain" 70 := ⟨T.f_Whole_is_plain, T.i_Kind_is_plain, T.k_Kind_is_plain⟩
theorem Tx.me_Whole_shape : Meth K 209 "shape" 77 := ⟨T.f_Whole_shape, T.i_Kind_shape, T.k_Kind_shape⟩
theorem Tx.me_Whole_width : Meth K 209 "width" 84 := ⟨T.f_Whole_width, T.i_Kind_width, T.k_Kind_width⟩
theorem Tx.me_Whole_suits : Meth K 209 "suits" 199 := ⟨T.f_Whole_suits, T.i_Whole_suits, T.k_Whole_suits⟩
theorem Tx.me_Whole_blank : Meth K 209 "blank" 206 := ⟨T.f_Whole_blank, T.i_Whole_blank, T.k_Whole_blank⟩
theorem Tx.ty_Whole {H : Hp} {a dx : Addr} {fs : List (Str × V)} (e : H a = some (.ins 209 dx fs)) : TyOf K H (.ref a) (.ref 209) := .ins e T.cl_Whole T.c_Whole T.og T.ot T.r_Whole
theorem Tx.cl_Upto : Cls K 263 := ⟨T.g_Upto, T.h_Upto, T.p_Upto, T.s_Upto⟩
theorem Tx.me_Upto_word : Meth K 263 "word" 232 := ⟨T.f_Upto_word, T.i_Upto_word, T.k_Upto_word⟩
theorem Tx.me_Upto_words : Meth K 263 "words" 239 := ⟨T.f_Upto_words, T.i_Upto_words, T.k_Upto_words⟩
theorem Tx.me_Upto_is_plain : Meth K 263 "is_plain" 70 := ⟨T.f_Upto_is_plain, T.i_Kind_is_plain, T.k_Kind_is_plain⟩
theorem Tx.me_Upto_shape : Meth K 263 "shape" 77 := ⟨T.f_Upto_shape, T.i_Kind_shape, T.k_Kind_shape⟩
theorem Tx.me_Upto_width : Meth K 263 "width" 246 := ⟨T.f_Upto_width, T.i_Upto_width, T.k_Upto_width⟩
theorem Tx.me_Upto_suits : Meth K 263 "suits" 253 := ⟨T.f_Upto_suits, T.i_Upto_suits, T.k_Upto_suits⟩
theorem Tx.me_Upto_blank : Meth K 263 "blank" 260 := ⟨T.f_Upto_blank, T.i_Upto_blank, T.k_Upto_blank⟩
theorem Tx.ty_Upto {H : Hp} {a dx : Addr} {fs : List (Str × V)} (e : H a = some (.ins 263 dx fs)) : TyOf K H (.ref a) (.ref 263) := .ins e T.cl_Upto T.c_Upto T.og T.ot T.r_Upto
theorem Tx.cl_Text : Cls K 316 := ⟨T.g_Text, T.h_Text, T.p_Text, T.s_Text⟩
theorem Tx.me_Text_word : Meth K 316 "word" 287 := ⟨T.f_Text_word, T.i_Text_word, T.k_Text_word⟩
theorem Tx.me_Text_words : Meth K 316 "words" 294 := ⟨T.f_Text_words, T.i_Text_words, T.k_Text_words⟩
theorem Tx.me_Text_is_plain : Meth K 316 "is_plain" 70 := ⟨T.f_Text_is_plain, T.i_Kind_is_plain, T.k_Kind_is_plain⟩
theorem Tx.me_Text_shape : Meth K 316 "shape" 301 := ⟨T.f_Text_shape, T.i_Text_shape, T.k_Text_shape⟩
theorem Tx.me_Text_width : Meth K 316 "width" 84 := ⟨T.f_Text_width, T.i_Kind_width, T.k_Kind_width⟩
theorem Tx.me_Text_suits : Meth K 316 "suits" 306 := ⟨T.f_Text_suits, T.i_Text_suits, T.k_Text_suits⟩
theorem Tx.me_Text_blank : Meth K 316 "blank" 313 := ⟨T.f_Text_blank, T.i_Text_blank, T.k_Text_blank⟩
theorem Tx.ty_Text {H : Hp} {a dx : Addr} {fs : List (Str × V)} (e : H a = some (.ins 316 dx fs)) : TyOf K H (.ref a) (.ref 316) := .ins e T.cl_Text T.c_Text T.og T.ot T.r_Text
theorem Tx.cl_List : Cls K 375 := ⟨T.g_List, T.h_List, T.p_List, T.s_List⟩
theorem Tx.me_List_word : Meth K 375 "word" 339 := ⟨T.f_List_word, T.i_List_word, T.k_List_word⟩
theorem Tx.me_List_words : Meth K 375 "words" 346 := ⟨T.f_List_words, T.i_List_words, T.k_List_words⟩
theorem Tx.me_List_is_plain : Meth K 375 "is_plain" 353 := ⟨T.f_List_is_plain, T.i_List_is_plain, T.k_List_is_plain⟩
theorem Tx.me_List_shape : Meth K 375 "shape" 360 := ⟨T.f_List_shape, T.i_List_shape, T.k_List_shape⟩
theorem Tx.me_List_width : Meth K 375 "width" 84 := ⟨T.f_List_width, T.i_Kind_width, T.k_Kind_width⟩
theorem Tx.me_List_suits : Meth K 375 "suits" 365 := ⟨T.f_List_suits, T.i_List_suits, T.k_List_suits⟩
theorem Tx.me_List_blank : Meth K 375 "blank" 372 := ⟨T.f_List_blank, T.i_List_blank, T.k_List_blank⟩
theorem Tx.ty_List {H : Hp} {a dx : Addr} {fs : List (Str × V)} (e : H a = some (.ins 375 dx fs)) : TyOf K H (.ref a) (.ref 375) := .ins e T.cl_List T.c_List T.og T.ot T.r_List
theorem Tx.cl_Nested : Cls K 429 := ⟨T.g_Nested, T.h_Nested, T.p_Nested, T.s_Nested⟩
theorem Tx.me_Nested_word : Meth K 429 "word" 398 := ⟨T.f_Nested_word, T.i_Nested_word, T.k_Nested_word⟩
theorem Tx.me_Nested_words : Meth K 429 "words" 405 := ⟨T.f_Nested_words, T.i_Nested_words, T.k_Nested_words⟩
theorem Tx.me_Nested_is_plain : Meth K 429 "is_plain" 412 := ⟨T.f_Nested_is_plain, T.i_Nested_is_plain, T.k_Nested_is_plain⟩
theorem Tx.me_Nested_shape : Meth K 429 "shape" 419 := ⟨T.f_Nested_shape, T.i_Nested_shape, T.k_Nested_shape⟩
theorem Tx.me_Nested_width : Meth K 429 "width" 84 := ⟨T.f_Nested_width, T.i_Kind_width, T.k_Kind_width⟩
theorem Tx.me_Nested_suits : Meth K 429 "suits" 426 := ⟨T.f_Nested_suits, T.i_Nested_suits, T.k_Nested_suits⟩
theorem Tx.me_Nested_blank : Meth K 429 "blank" 98 := ⟨T.f_Nested_blank, T.i_Kind_blank, T.k_Kind_blank⟩
theorem Tx.ty_Nested {H : Hp} {a dx : Addr} {fs : List (Str × V)} (e : H a = some (.ins 429 dx fs)) : TyOf K H (.ref a) (.ref 429) := .ins e T.cl_Nested T.c_Nested T.og T.ot T.r_Nested
end
end K7

set_option maxRecDepth 1000000
set_option maxHeartbeats 0
namespace K7
open PySem PySem.W HL L2
noncomputable abbrev tp : Program := PySem.W.Fast.tw13059006032077896443
abbrev lo : List Str := ["Text"]
theorem h1 : opening tp = plainProg tp.main.scope.names := by kernel_rfl
theorem h2 (s : Shared) : fenceModules? tp s = some s := by kernel_rfl
theorem hsz (P : Params) : (boot_heap P).isNs mainGlobals = true ∧ (boot_heap P).objs.size = 11 ∧ (boot_heap P).nsMap mainGlobals "__annotations__" = ann6 := ⟨by kernel_rfl, by kernel_rfl, by kernel_rfl⟩
theorem hpre (w : World) (os : OsState) : topGoQ tbQ tp w 11 ann6 12 (S00 w os) (topStub tp) = some ((S0 w os).abs, ⟨denoteQ tbQ (code tp), code tp, pos0, [topFrame pos0]⟩) := by kernel_rfl
theorem hblk (w : World) (s : Shared) : segRunQ tbQ tp w 11 ann6 1 1 s (blockOf (behindTheImports tp) (env tp) (code tp) pos0 [topFrame pos0]) = some (.next, s, code tp, pos0) := by kernel_rfl
theorem hrun (w : World) (os : OsState) : (R tp 60000 w os).map (fun x => (x.1, x.2.2, lk tp (view tp keep) lo obs w x.2.1)) = some (.next, (code tp, ⟨276, 0, 284, 153⟩), (goods (view tp keep) lo, exp tp w)) := by kernel_rfl
theorem left : LeftO PySem.Challenge.pw_formkin_k07_kinds (view PySem.Challenge.pw_formkin_k07_kinds keep) lo (fun s => xlAt (view PySem.Challenge.pw_formkin_k07_kinds keep) [] s && recOk [] s) obs (exp PySem.Challenge.pw_formkin_k07_kinds) 60100 := by
  rw [PySem.W.Fast.te13059006032077896443]
  exact left_of (n := 60000) h1 h2 hpre hblk hrun hsz rfl (by decide)
end K7

set_option maxRecDepth 1000000
set_option maxHeartbeats 0
namespace K7
open PySem PySem.W HL L2 PyProof.Rows
abbrev pw_ := PySem.Challenge.pw_formkin_k07_kinds
abbrev rw_ := PySem.Challenge.rw_formkin_k07_kinds
theorem tx_of {K : Frag} {h : Heap} {mg : Str → Option Value} {s : Shared} {w : World} (e : frag s.heap = K) (y : obs s = exp pw_ w) (X : K.In h) (G : h.Ns mainGlobals mg) : Tx K mg := by
  subst e
  refine ⟨congrArg Prod.fst y, congrArg (fun x => x.2.1) y, congrArg (fun x => x.2.2.1) y, congrArg (fun x => x.2.2.2.1) y, congrArg (fun x => x.2.2.2.2) y, fun x v e => ?_⟩
  cases v with
  | none => exact mg_none_of X G e
  | some v => exact mg_of X G e
theorem walkF {q : Program} {loose : List Str} {XP : (Str → Option Value) → Heap → Prop} {d : DefRec} (hdf : d.params.defaults = []) (hn : d.name = "law") {k : Nat} (hr : Room k callerA) {sp : Frag → Sp}
    (F : ∀ (w : World) (K : Frag) (mg : Str → Option Value) (base : Heap), Tx K mg → K.In base → base.Ns mainGlobals mg → FnOk pw_ w K mg base CX0 k 512 (fdOf K 512) ["_law_script"] (sp K))
    (B : ∀ (K : Frag) (mg : Str → Option Value), Tx K mg → ∀ (s : Shared) (u : Value), BindsTo s (fdOf K 512) ⟨[u], []⟩ [("_law_script", u)])
    (hsp : ∀ (K : Frag) (H : Hp) (a : Addr) (ns : List Int), ns.length ≤ 63 → (∀ i ∈ ns, Builtin.Int.intBits i ≤ 1048576) → Only H → SqL K H a (ns.map V.int) → sp K [.ref a] H (fun v _ => v = .bl true) fun _ _ _ => False) :
    WalkX q loose XP obs (exp pw_) rw_.row.toRowW d [] (fun f vs => PySem.call f vs) := by
  intro w s₀ s₁ mg mb G y a o pm cd doc dV kV ho hd hcd hD hmg hg args vals bs L hpre hlay hrd hwl hlo
  refine walk_ofK (l := rw_) (n := 63) (k := k) (x := "_law_script") (K := fun _ => frag s₀.heap) (CX := CX0) (sp := sp) (YP := fun _ h => (frag s₀.heap).In h) (q := q) (loose := loose) (XP := XP) (d := d) rfl (by decide) hdf hr (fun _ _ Y => Y)
    (fun w' mg fa h KX G hmg => ?_) hsp (fun _ _ _ _ z => z) rfl w s₀ s₁ mg mb G (Frag.In.keeps (frag_in s₀.heap) L.keeps) a o pm cd doc dV kV ho hd hcd hD hmg hg args vals bs hpre hlay hrd hwl hlo
  have T := tx_of rfl y KX G
  have e : mg "law" = some (.ref 512) := mg_of KX G T.a_law
  rw [hn, e] at hmg
  obtain rfl : 512 = fa := by simpa using hmg
  exact ⟨fdOf (frag s₀.heap) 512, B _ _ T, fun base h1 h2 => F w' _ _ base ⟨T.A, T.B, T.C, T.D, T.I, fun x v e => T.g x v e⟩ h1 h2⟩
def dLaw : DefRec := ⟨"law", defArgs (top 35), defBody (top 35), defScope (top 35), ⟨276, 0, 284, 153⟩⟩
theorem holds {k : Nat} (hr : Room k callerA) {sp : Frag → Sp}
    (F : ∀ (w : World) (K : Frag) (mg : Str → Option Value) (base : Heap), Tx K mg → K.In base → base.Ns mainGlobals mg → FnOk pw_ w K mg base CX0 k 512 (fdOf K 512) ["_law_script"] (sp K))
    (B : ∀ (K : Frag) (mg : Str → Option Value), Tx K mg → ∀ (s : Shared) (u : Value), BindsTo s (fdOf K 512) ⟨[u], []⟩ [("_law_script", u)])
    (hsp : ∀ (K : Frag) (H : Hp) (a : Addr) (ns : List Int), ns.length ≤ 63 → (∀ i ∈ ns, Builtin.Int.intBits i ≤ 1048576) → Only H → SqL K H a (ns.map V.int) → sp K [.ref a] H (fun v _ => v = .bl true) fun _ _ _ => False) : rw_.Holds := by
  refine k07.law_of fun said => ?_
  refine holds_openX (r := rw_.row) (q := view pw_ keep) (loose := lo) (Xt := fun s => xlAt (view pw_ keep) [] s && recOk [] s) (XP := XL (view pw_ keep) []) (Yf := obs) (Ya := exp pw_) (d := dLaw) (kwd := []) (N := 60100) left
    (fun s e => xl_of s (Bool.and_eq_true_iff.mp e).1) XL.keeps (by kernel_rfl) (by kernel_rfl) (by kernel_rfl) (fun s e => recFacts_of (Bool.and_eq_true_iff.mp e).2) (by rfl) said (by decide +kernel) ⟨rfl, rfl, rfl, rfl, rfl, by decide +kernel⟩ ?hw ?hc
  case hw => w_witness2
  case hc => exact walkF rfl rfl hr F B hsp
end K7

namespace K7
open PySem L2
seal L2.PE L2.PS L2.PSs L2.PA L2.PT L2.PW L2.PG L2.PGs L2.PI L2.PO
/-- kinds -/
inductive Kd where
  | truth | count | whole
  | upto (n : Int) | text (n : Int) | form (z : Str)
  | list (k : Kd)
def Kd.word : Kd → Str
  | .truth => "truth" | .count => "count" | .whole => "whole" | .upto _ => "upto" | .text _ => "text" | .form _ => "form" | .list _ => "list"
def Kd.cls : Kd → Addr
  | .truth => 143 | .count => 176 | .whole => 209 | .upto _ => 263 | .text _ => 316 | .form _ => 429 | .list _ => 375
def Kd.flat : Kd → Bool
  | .list _ => false
  | _ => true
/-- an object of a kind -/
def IsK (H : Hp) : Kd → V → Prop
  | .upto n, v => ∃ a dx, v = .ref a ∧ H a = some (.ins 263 dx [("most", .int n)])
  | .text n, v => ∃ a dx, v = .ref a ∧ H a = some (.ins 316 dx [("most", .int n)])
  | .form z, v => ∃ a dx, v = .ref a ∧ H a = some (.ins 429 dx [("name", .str z)])
  | .list k, v => ∃ a dx u, v = .ref a ∧ H a = some (.ins 375 dx [("item", u)]) ∧ IsK H k u
  | .truth, v => ∃ a dx, v = .ref a ∧ H a = some (.ins 143 dx [])
  | .count, v => ∃ a dx, v = .ref a ∧ H a = some (.ins 176 dx [])
  | .whole, v => ∃ a dx, v = .ref a ∧ H a = some (.ins 209 dx [])
theorem IsK.same {H H' : Hp} (s : Same H H') : ∀ {k : Kd} {v : V}, IsK H k v → IsK H' k v
  | .upto _, _, ⟨a, dx, e, h⟩ => ⟨a, dx, e, s _ _ h⟩
  | .text _, _, ⟨a, dx, e, h⟩ => ⟨a, dx, e, s _ _ h⟩
  | .form _, _, ⟨a, dx, e, h⟩ => ⟨a, dx, e, s _ _ h⟩
  | .list _, _, ⟨a, dx, u, e, h, k⟩ => ⟨a, dx, u, e, s _ _ h, k.same s⟩
  | .truth, _, ⟨a, dx, e, h⟩ => ⟨a, dx, e, s _ _ h⟩
  | .count, _, ⟨a, dx, e, h⟩ => ⟨a, dx, e, s _ _ h⟩
  | .whole, _, ⟨a, dx, e, h⟩ => ⟨a, dx, e, s _ _ h⟩
/-- any kind's object is an instance of its class -/
theorem IsK.ins {H : Hp} : ∀ {k : Kd} {v : V}, IsK H k v → ∃ a dx fs, v = .ref a ∧ H a = some (.ins k.cls dx fs) ∧ ∀ m : Str, m ≠ "most" → m ≠ "name" → m ≠ "item" → fs.lookup m = none := by
  intro k v h
  cases k with
  | list k => obtain ⟨a, dx, u, e, h, _⟩ := h; exact ⟨a, dx, _, e, h, fun m h1 h2 h3 => by simp [List.lookup, beq_eq_false_iff_ne.mpr h3]⟩
  | upto n => obtain ⟨a, dx, e, h⟩ := h; exact ⟨a, dx, _, e, h, fun m h1 h2 h3 => by simp [List.lookup, beq_eq_false_iff_ne.mpr h1]⟩
  | text n => obtain ⟨a, dx, e, h⟩ := h; exact ⟨a, dx, _, e, h, fun m h1 h2 h3 => by simp [List.lookup, beq_eq_false_iff_ne.mpr h1]⟩
  | form z => obtain ⟨a, dx, e, h⟩ := h; exact ⟨a, dx, _, e, h, fun m h1 h2 h3 => by simp [List.lookup, beq_eq_false_iff_ne.mpr h2]⟩
  | truth => obtain ⟨a, dx, e, h⟩ := h; exact ⟨a, dx, _, e, h, fun m _ _ _ => rfl⟩
  | count => obtain ⟨a, dx, e, h⟩ := h; exact ⟨a, dx, _, e, h, fun m _ _ _ => rfl⟩
  | whole => obtain ⟨a, dx, e, h⟩ := h; exact ⟨a, dx, _, e, h, fun m _ _ _ => rfl⟩
def sp1 (r : V) : Sp := fun vs H Q _ => ∃ v, vs = [v] ∧ Q r H
/-- a new list of the asker's own -/
def told (H : Hp) (Q : VK) (xs : List V) : Prop := ∀ l H', H l = none → Same H H' → H' l = some (.lst xs) → Q (.ref l) H'
section
variable {P : Program} {w : World} {K : PySem.W.Frag} {mg : Str → Option Value} {base : Heap}
theorem ok_Truth_word (T : Tx K mg) : FnOk P w K mg base CX0 1 119 (HL.fdOf K 119) ["self"] (sp1 (.str "truth")) := by
  refine T.d_Truth_word.ok sc_Truth_word (fun vs H Q E h => ?_) (fun cdv A outer s H vs Q E hr h => ?_)
  · obtain ⟨v, rfl, _⟩ := h
    rfl
  · obtain ⟨v, rfl, q⟩ := h
    exact ⟨_, pss_one (ps_ret pe_str), q⟩
theorem ok_Count_word (T : Tx K mg) : FnOk P w K mg base CX0 1 159 (HL.fdOf K 159) ["self"] (sp1 (.str "count")) := by
  refine T.d_Count_word.ok sc_Count_word (fun vs H Q E h => ?_) (fun cdv A outer s H vs Q E hr h => ?_)
  · obtain ⟨v, rfl, _⟩ := h
    rfl
  · obtain ⟨v, rfl, q⟩ := h
    exact ⟨_, pss_one (ps_ret pe_str), q⟩
theorem ok_Whole_word (T : Tx K mg) : FnOk P w K mg base CX0 1 192 (HL.fdOf K 192) ["self"] (sp1 (.str "whole")) := by
  refine T.d_Whole_word.ok sc_Whole_word (fun vs H Q E h => ?_) (fun cdv A outer s H vs Q E hr h => ?_)
  · obtain ⟨v, rfl, _⟩ := h
    rfl
  · obtain ⟨v, rfl, q⟩ := h
    exact ⟨_, pss_one (ps_ret pe_str), q⟩
theorem ok_Upto_word (T : Tx K mg) : FnOk P w K mg base CX0 1 232 (HL.fdOf K 232) ["self"] (sp1 (.str "upto")) := by
  refine T.d_Upto_word.ok sc_Upto_word (fun vs H Q E h => ?_) (fun cdv A outer s H vs Q E hr h => ?_)
  · obtain ⟨v, rfl, _⟩ := h
    rfl
  · obtain ⟨v, rfl, q⟩ := h
    exact ⟨_, pss_one (ps_ret pe_str), q⟩
theorem ok_Text_word (T : Tx K mg) : FnOk P w K mg base CX0 1 287 (HL.fdOf K 287) ["self"] (sp1 (.str "text")) := by
  refine T.d_Text_word.ok sc_Text_word (fun vs H Q E h => ?_) (fun cdv A outer s H vs Q E hr h => ?_)
  · obtain ⟨v, rfl, _⟩ := h
    rfl
  · obtain ⟨v, rfl, q⟩ := h
    exact ⟨_, pss_one (ps_ret pe_str), q⟩
theorem ok_List_word (T : Tx K mg) : FnOk P w K mg base CX0 1 339 (HL.fdOf K 339) ["self"] (sp1 (.str "list")) := by
  refine T.d_List_word.ok sc_List_word (fun vs H Q E h => ?_) (fun cdv A outer s H vs Q E hr h => ?_)
  · obtain ⟨v, rfl, _⟩ := h
    rfl
  · obtain ⟨v, rfl, q⟩ := h
    exact ⟨_, pss_one (ps_ret pe_str), q⟩
theorem ok_Nested_word (T : Tx K mg) : FnOk P w K mg base CX0 1 398 (HL.fdOf K 398) ["self"] (sp1 (.str "form")) := by
  refine T.d_Nested_word.ok sc_Nested_word (fun vs H Q E h => ?_) (fun cdv A outer s H vs Q E hr h => ?_)
  · obtain ⟨v, rfl, _⟩ := h
    rfl
  · obtain ⟨v, rfl, q⟩ := h
    exact ⟨_, pss_one (ps_ret pe_str), q⟩
theorem ok_Kind_is_plain (T : Tx K mg) : FnOk P w K mg base CX0 1 70 (HL.fdOf K 70) ["self"] (sp1 (.bl true)) := by
  refine T.d_Kind_is_plain.ok sc_Kind_is_plain (fun vs H Q E h => ?_) (fun cdv A outer s H vs Q E hr h => ?_)
  · obtain ⟨v, rfl, _⟩ := h
    rfl
  · obtain ⟨v, rfl, q⟩ := h
    exact ⟨_, pss_one (ps_ret pe_bl), q⟩
theorem ok_List_is_plain (T : Tx K mg) : FnOk P w K mg base CX0 1 353 (HL.fdOf K 353) ["self"] (sp1 (.bl false)) := by
  refine T.d_List_is_plain.ok sc_List_is_plain (fun vs H Q E h => ?_) (fun cdv A outer s H vs Q E hr h => ?_)
  · obtain ⟨v, rfl, _⟩ := h
    rfl
  · obtain ⟨v, rfl, q⟩ := h
    exact ⟨_, pss_one (ps_ret pe_bl), q⟩
theorem ok_Nested_is_plain (T : Tx K mg) : FnOk P w K mg base CX0 1 412 (HL.fdOf K 412) ["self"] (sp1 (.bl false)) := by
  refine T.d_Nested_is_plain.ok sc_Nested_is_plain (fun vs H Q E h => ?_) (fun cdv A outer s H vs Q E hr h => ?_)
  · obtain ⟨v, rfl, _⟩ := h
    rfl
  · obtain ⟨v, rfl, q⟩ := h
    exact ⟨_, pss_one (ps_ret pe_bl), q⟩
theorem ok_Kind_shape (T : Tx K mg) : FnOk P w K mg base CX0 1 77 (HL.fdOf K 77) ["self"] (sp1 (.int 0)) := by
  refine T.d_Kind_shape.ok sc_Kind_shape (fun vs H Q E h => ?_) (fun cdv A outer s H vs Q E hr h => ?_)
  · obtain ⟨v, rfl, _⟩ := h
    rfl
  · obtain ⟨v, rfl, q⟩ := h
    exact ⟨_, pss_one (ps_ret pe_int), q⟩
theorem ok_Text_shape (T : Tx K mg) : FnOk P w K mg base CX0 1 301 (HL.fdOf K 301) ["self"] (sp1 (.int 1)) := by
  refine T.d_Text_shape.ok sc_Text_shape (fun vs H Q E h => ?_) (fun cdv A outer s H vs Q E hr h => ?_)
  · obtain ⟨v, rfl, _⟩ := h
    rfl
  · obtain ⟨v, rfl, q⟩ := h
    exact ⟨_, pss_one (ps_ret pe_int), q⟩
theorem ok_List_shape (T : Tx K mg) : FnOk P w K mg base CX0 1 360 (HL.fdOf K 360) ["self"] (sp1 (.int 1)) := by
  refine T.d_List_shape.ok sc_List_shape (fun vs H Q E h => ?_) (fun cdv A outer s H vs Q E hr h => ?_)
  · obtain ⟨v, rfl, _⟩ := h
    rfl
  · obtain ⟨v, rfl, q⟩ := h
    exact ⟨_, pss_one (ps_ret pe_int), q⟩
theorem ok_Nested_shape (T : Tx K mg) : FnOk P w K mg base CX0 1 419 (HL.fdOf K 419) ["self"] (sp1 (.int 1)) := by
  refine T.d_Nested_shape.ok sc_Nested_shape (fun vs H Q E h => ?_) (fun cdv A outer s H vs Q E hr h => ?_)
  · obtain ⟨v, rfl, _⟩ := h
    rfl
  · obtain ⟨v, rfl, q⟩ := h
    exact ⟨_, pss_one (ps_ret pe_int), q⟩
theorem ok_Kind_width (T : Tx K mg) : FnOk P w K mg base CX0 1 84 (HL.fdOf K 84) ["self"] (sp1 (.int 0)) := by
  refine T.d_Kind_width.ok sc_Kind_width (fun vs H Q E h => ?_) (fun cdv A outer s H vs Q E hr h => ?_)
  · obtain ⟨v, rfl, _⟩ := h
    rfl
  · obtain ⟨v, rfl, q⟩ := h
    exact ⟨_, pss_one (ps_ret pe_int), q⟩
theorem ok_Truth_width (T : Tx K mg) : FnOk P w K mg base CX0 1 126 (HL.fdOf K 126) ["self"] (sp1 (.int 1)) := by
  refine T.d_Truth_width.ok sc_Truth_width (fun vs H Q E h => ?_) (fun cdv A outer s H vs Q E hr h => ?_)
  · obtain ⟨v, rfl, _⟩ := h
    rfl
  · obtain ⟨v, rfl, q⟩ := h
    exact ⟨_, pss_one (ps_ret pe_int), q⟩
theorem ok_Kind_blank (T : Tx K mg) : FnOk P w K mg base CX0 1 98 (HL.fdOf K 98) ["self"] (sp1 (.non)) := by
  refine T.d_Kind_blank.ok sc_Kind_blank (fun vs H Q E h => ?_) (fun cdv A outer s H vs Q E hr h => ?_)
  · obtain ⟨v, rfl, _⟩ := h
    rfl
  · obtain ⟨v, rfl, q⟩ := h
    exact ⟨_, pss_one (ps_ret pe_non), q⟩
theorem ok_Truth_blank (T : Tx K mg) : FnOk P w K mg base CX0 1 140 (HL.fdOf K 140) ["self"] (sp1 (.bl false)) := by
  refine T.d_Truth_blank.ok sc_Truth_blank (fun vs H Q E h => ?_) (fun cdv A outer s H vs Q E hr h => ?_)
  · obtain ⟨v, rfl, _⟩ := h
    rfl
  · obtain ⟨v, rfl, q⟩ := h
    exact ⟨_, pss_one (ps_ret pe_bl), q⟩
theorem ok_Count_blank (T : Tx K mg) : FnOk P w K mg base CX0 1 173 (HL.fdOf K 173) ["self"] (sp1 (.int 0)) := by
  refine T.d_Count_blank.ok sc_Count_blank (fun vs H Q E h => ?_) (fun cdv A outer s H vs Q E hr h => ?_)
  · obtain ⟨v, rfl, _⟩ := h
    rfl
  · obtain ⟨v, rfl, q⟩ := h
    exact ⟨_, pss_one (ps_ret pe_int), q⟩
theorem ok_Whole_blank (T : Tx K mg) : FnOk P w K mg base CX0 1 206 (HL.fdOf K 206) ["self"] (sp1 (.int 0)) := by
  refine T.d_Whole_blank.ok sc_Whole_blank (fun vs H Q E h => ?_) (fun cdv A outer s H vs Q E hr h => ?_)
  · obtain ⟨v, rfl, _⟩ := h
    rfl
  · obtain ⟨v, rfl, q⟩ := h
    exact ⟨_, pss_one (ps_ret pe_int), q⟩
theorem ok_Upto_blank (T : Tx K mg) : FnOk P w K mg base CX0 1 260 (HL.fdOf K 260) ["self"] (sp1 (.int 0)) := by
  refine T.d_Upto_blank.ok sc_Upto_blank (fun vs H Q E h => ?_) (fun cdv A outer s H vs Q E hr h => ?_)
  · obtain ⟨v, rfl, _⟩ := h
    rfl
  · obtain ⟨v, rfl, q⟩ := h
    exact ⟨_, pss_one (ps_ret pe_int), q⟩
theorem ok_Text_blank (T : Tx K mg) : FnOk P w K mg base CX0 1 313 (HL.fdOf K 313) ["self"] (sp1 (.str "")) := by
  refine T.d_Text_blank.ok sc_Text_blank (fun vs H Q E h => ?_) (fun cdv A outer s H vs Q E hr h => ?_)
  · obtain ⟨v, rfl, _⟩ := h
    rfl
  · obtain ⟨v, rfl, q⟩ := h
    exact ⟨_, pss_one (ps_ret pe_str), q⟩
end
end K7

namespace K7
open PySem L2
seal L2.PE L2.PS L2.PSs L2.PA L2.PT L2.PW L2.PG L2.PGs L2.PI L2.PO
/-- what is handed to suits -/
inductive Dt where
  | non | bl (b : Bool) | int (i : Int) | str (z : Str) | lst (l : List Dt) | tup | dct
mutual
def Th (H : Hp) : Dt → V → Prop
  | .non, v => v = .non
  | .bl b, v => v = .bl b
  | .int i, v => v = .int i
  | .str z, v => v = .str z ∧ z.length ≤ 1000 ∧ 37 ∉ z.cps.toList
  | .lst l, v => ∃ a xs, v = .ref a ∧ H a = some (.lst xs) ∧ Ths H l xs ∧ l.length ≤ 1000
  | .tup, v => ∃ a xs, v = .ref a ∧ H a = some (.tup xs)
  | .dct, v => ∃ a, v = .ref a ∧ H a = some (.dK [])
def Ths (H : Hp) : List Dt → List V → Prop
  | [], xs => xs = []
  | d :: l, xs => ∃ x ys, xs = x :: ys ∧ Th H d x ∧ Ths H l ys
end
mutual
theorem Th.same {H H' : Hp} (s : Same H H') : ∀ (d : Dt) (v : V), Th H d v → Th H' d v
  | .non, _, h => h
  | .bl _, _, h => h
  | .int _, _, h => h
  | .str _, _, h => h
  | .lst l, _, ⟨a, xs, e, h, k, z⟩ => ⟨a, xs, e, s _ _ h, Ths.same s l xs k, z⟩
  | .tup, _, ⟨a, xs, e, h⟩ => ⟨a, xs, e, s _ _ h⟩
  | .dct, _, ⟨a, e, h⟩ => ⟨a, e, s _ _ h⟩
theorem Ths.same {H H' : Hp} (s : Same H H') : ∀ (l : List Dt) (xs : List V), Ths H l xs → Ths H' l xs
  | [], _, h => h
  | d :: l, _, ⟨x, ys, e, h, k⟩ => ⟨x, ys, e, Th.same s d x h, Ths.same s l ys k⟩
end
theorem Ths.len {H : Hp} : ∀ {l : List Dt} {xs : List V}, Ths H l xs → xs.length = l.length
  | [], _, h => by rw [show _ = [] from h]; rfl
  | d :: l, _, ⟨x, ys, e, _, k⟩ => by rw [e, List.length_cons, List.length_cons, Ths.len k]
theorem Ths.at {H : Hp} : ∀ {l : List Dt} {xs : List V}, Ths H l xs → ∀ (i : Nat) x, xs[i]? = some x → ∃ d, l[i]? = some d ∧ Th H d x
  | [], _, h, i, x, e => by rw [show _ = [] from h] at e; simp at e
  | d :: l, _, ⟨y, ys, e0, h, k⟩, 0, x, e => by rw [e0] at e; simp at e; exact ⟨d, rfl, e ▸ h⟩
  | d :: l, _, ⟨y, ys, e0, h, k⟩, i + 1, x, e => by rw [e0] at e; simp at e; obtain ⟨d', e1, e2⟩ := Ths.at k i x e; exact ⟨d', by simpa using e1, e2⟩
def tyD : Dt → String
  | .non => "NoneType" | .bl _ => "bool" | .int _ => "int" | .str _ => "str" | .lst _ => "list" | .tup => "tuple" | .dct => "dict"
theorem Th.ty {K : PySem.W.Frag} {H : Hp} : ∀ {d : Dt} {v : V}, Th H d v → TyOf K H v (.type (tyD d))
  | .non, _, h => by rw [show _ = V.non from h]; exact .non
  | .bl b, _, h => by rw [show _ = V.bl b from h]; exact .bl b
  | .int i, _, h => by rw [show _ = V.int i from h]; exact .int i
  | .str z, _, h => by rw [show _ = V.str z from h.1]; exact .str z
  | .lst l, _, ⟨a, xs, e, h, k, _⟩ => by rw [e]; exact .lst h
  | .tup, _, ⟨a, xs, e, h⟩ => by rw [e]; exact .tup h
  | .dct, _, ⟨a, e, h⟩ => by rw [e]; exact .dK h
def isBoolD : Dt → Bool | .bl _ => true | _ => false
def isIntD : Dt → Bool | .bl _ => true | .int _ => true | _ => false
def isStrD : Dt → Bool | .str _ => true | _ => false
def isListD : Dt → Bool | .lst _ => true | _ => false
def amD : Dt → Int → Int → Bool
  | .int i, a, b => decide (a ≤ i) && decide (i ≤ b)
  | _, _, _ => false
section
variable {P : Program} {w : World} {K : PySem.W.Frag} {mg : Str → Option Value} {base : Heap}
theorem kitB (T : Tx K mg) (d : Dt) : PySem.W.kitOne K (.type (tyD d)) (.type "bool") = some (isBoolD d) := by
  cases d <;> first | exact T.q_NoneType_bool | exact T.q_bool_bool | exact T.q_int_bool | exact T.q_str_bool | exact T.q_list_bool | exact T.q_tuple_bool | exact T.q_dict_bool
theorem kitI (T : Tx K mg) (d : Dt) : PySem.W.kitOne K (.type (tyD d)) (.type "int") = some (isIntD d) := by
  cases d <;> first | exact T.q_NoneType_int | exact T.q_bool_int | exact T.q_int_int | exact T.q_str_int | exact T.q_list_int | exact T.q_tuple_int | exact T.q_dict_int
theorem kitS (T : Tx K mg) (d : Dt) : PySem.W.kitOne K (.type (tyD d)) (.type "str") = some (isStrD d) := by
  cases d <;> first | exact T.q_NoneType_str | exact T.q_bool_str | exact T.q_int_str | exact T.q_str_str | exact T.q_list_str | exact T.q_tuple_str | exact T.q_dict_str
theorem kitL (T : Tx K mg) (d : Dt) : PySem.W.kitOne K (.type (tyD d)) (.type "list") = some (isListD d) := by
  cases d <;> first | exact T.q_NoneType_list | exact T.q_bool_list | exact T.q_int_list | exact T.q_str_list | exact T.q_list_list | exact T.q_tuple_list | exact T.q_dict_list
def sp_is_whole : Sp := fun vs H Q _ => ∃ x d, vs = [x] ∧ Th H d x ∧ Q (.bl (isIntD d && !isBoolD d)) H
def sp_is_among : Sp := fun vs H Q _ => ∃ x d a b, vs = [x, .int a, .int b] ∧ Th H d x ∧ Q (.bl (amD d a b)) H
theorem ok_is_whole (T : Tx K mg) : FnOk P w K mg base CX0 1 21 (HL.fdOf K 21) ["thing"] sp_is_whole := by
  refine T.d_is_whole.ok sc_is_whole (fun vs H Q E h => ?_) (fun cdv A outer s H vs Q E hr h => ?_)
  · obtain ⟨x, d, rfl, _⟩ := h
    rfl
  · obtain ⟨x, d, rfl, hx, q⟩ := h
    refine ⟨_, pss_one (ps_ret (pe_and (pe_callB (call_isinstK K rfl) rfl T.y_isinstance bt_isinstance (pa_cons (pv 0) (pa_cons (pty T.y_int bt_int) pa_nil))) (pe_one (pe_not (pe_callB (call_isinstK K rfl) rfl T.y_isinstance bt_isinstance (pa_cons (pv 0) (pa_cons (pty T.y_bool bt_bool) pa_nil))))))), ?_⟩
    refine ⟨_, rfl, x, .ty "int", _, _, _, rfl, hx.ty, rfl, kitI T d, _, rfl, ite2 (fun h => ?_) (fun h => ?_)⟩
    · rw [h, Bool.true_and] at q
      exact ⟨_, rfl, x, .ty "bool", _, _, _, rfl, hx.ty, rfl, kitB T d, _, rfl, q⟩
    · have h' : isIntD d = false := by simpa using h
      rw [h', Bool.false_and] at q
      exact q
theorem ok_is_among (T : Tx K mg) : FnOk P w K mg base CX0 2 28 (HL.fdOf K 28) ["thing", "least", "most"] sp_is_among := by
  have G_is_whole : FnOk P w K mg base CX0 1 21 (HL.fdOf K 21) ["thing"] sp_is_whole := ok_is_whole T
  refine T.d_is_among.ok sc_is_among (fun vs H Q E h => ?_) (fun cdv A outer s H vs Q E hr h => ?_)
  · obtain ⟨x, d, l, m, rfl, _⟩ := h
    rfl
  · obtain ⟨x, d, l, m, rfl, hx, q⟩ := h
    refine ⟨_, pss_one (ps_ret (pe_and (pe_call G_is_whole (hr.mono (by decide)) rfl T.m_is_whole T.k_is_whole T.b_is_whole .nil pass0 (pa_cons (pv 0) pa_nil)) (pe_one (pe_chain op_le op_le (pv 1) (pv 0) (pv 2))))), ?_⟩
    refine ⟨_, rfl, x, d, rfl, hx, _, rfl, ?_⟩
    cases d with
    | int i =>
      obtain rfl : x = V.int i := hx
      refine iteT ⟨_, rfl, _, rfl, _, _, rfl, rfl, _, rfl, ite2 (fun h1 => ?_) (fun h1 => ?_)⟩
      · refine ⟨_, rfl, _, _, rfl, rfl, ?_⟩
        rw [show amD (.int i) l m = decide (i ≤ m) by show (decide (l ≤ i) && _) = _; rw [h1, Bool.true_and]] at q
        exact q
      · have h2 : decide (l ≤ i) = false := by simpa using h1
        rw [show amD (.int i) l m = false by show (decide (l ≤ i) && _) = _; rw [h2, Bool.false_and]] at q
        exact q
    | _ => exact iteF q
end
end K7

namespace K7
open PySem L2
seal L2.PE L2.PS L2.PSs L2.PA L2.PT L2.PW L2.PG L2.PGs L2.PI L2.PO
def Kd.ok : Kd → Prop
  | .upto n => 1 ≤ n ∧ n < 2 ^ 256
  | .text n => 1 ≤ n ∧ n ≤ 100
  | .list k => k.flat = true ∧ k.ok
  | .form z => PyData.strOk z = true
  | _ => True
def wordsK : Kd → List Str
  | .list k => "list" :: wordsK k
  | .text n => if n = 100 then ["text"] else ["text", toString n]
  | .upto n => ["upto", toString n]
  | .form z => ["form", z]
  | k => [k.word]
theorem log_small {n : Int} (h0 : 0 ≤ n) (h1 : n < 2 ^ 256) : n.natAbs.log2 < 1920 := by
  have h2 : n.natAbs < 2 ^ 256 := by omega
  by_cases h : n.natAbs = 0
  · rw [h]; decide
  · exact Nat.lt_of_lt_of_le ((Nat.log2_lt h).mpr h2) (by decide)
section
variable {P : Program} {w : World} {K : PySem.W.Frag} {mg : Str → Option Value} {base : Heap}
theorem dWord (T : Tx K mg) (k : Kd) : Disp P w K mg base 1 "word" k.cls (sp1 (.str k.word)) := by
  cases k with
  | truth => exact ⟨T.cl_Truth, _, _, _, T.me_Truth_word, ok_Truth_word T, T.b_Truth_word⟩
  | count => exact ⟨T.cl_Count, _, _, _, T.me_Count_word, ok_Count_word T, T.b_Count_word⟩
  | whole => exact ⟨T.cl_Whole, _, _, _, T.me_Whole_word, ok_Whole_word T, T.b_Whole_word⟩
  | upto n => exact ⟨T.cl_Upto, _, _, _, T.me_Upto_word, ok_Upto_word T, T.b_Upto_word⟩
  | text n => exact ⟨T.cl_Text, _, _, _, T.me_Text_word, ok_Text_word T, T.b_Text_word⟩
  | form z => exact ⟨T.cl_Nested, _, _, _, T.me_Nested_word, ok_Nested_word T, T.b_Nested_word⟩
  | list k => exact ⟨T.cl_List, _, _, _, T.me_List_word, ok_List_word T, T.b_List_word⟩
def plainK (k : Kd) : Bool := match k with | .list _ => false | .form _ => false | _ => true
def shapeK (k : Kd) : Int := match k with | .list _ => 1 | .form _ => 1 | .text _ => 1 | _ => 0
theorem dPlain (T : Tx K mg) (k : Kd) : Disp P w K mg base 1 "is_plain" k.cls (sp1 (.bl (plainK k))) := by
  cases k with
  | truth => exact ⟨T.cl_Truth, _, _, _, T.me_Truth_is_plain, ok_Kind_is_plain T, T.b_Kind_is_plain⟩
  | count => exact ⟨T.cl_Count, _, _, _, T.me_Count_is_plain, ok_Kind_is_plain T, T.b_Kind_is_plain⟩
  | whole => exact ⟨T.cl_Whole, _, _, _, T.me_Whole_is_plain, ok_Kind_is_plain T, T.b_Kind_is_plain⟩
  | upto n => exact ⟨T.cl_Upto, _, _, _, T.me_Upto_is_plain, ok_Kind_is_plain T, T.b_Kind_is_plain⟩
  | text n => exact ⟨T.cl_Text, _, _, _, T.me_Text_is_plain, ok_Kind_is_plain T, T.b_Kind_is_plain⟩
  | form z => exact ⟨T.cl_Nested, _, _, _, T.me_Nested_is_plain, ok_Nested_is_plain T, T.b_Nested_is_plain⟩
  | list k => exact ⟨T.cl_List, _, _, _, T.me_List_is_plain, ok_List_is_plain T, T.b_List_is_plain⟩
theorem dShape (T : Tx K mg) (k : Kd) : Disp P w K mg base 1 "shape" k.cls (sp1 (.int (shapeK k))) := by
  cases k with
  | truth => exact ⟨T.cl_Truth, _, _, _, T.me_Truth_shape, ok_Kind_shape T, T.b_Kind_shape⟩
  | count => exact ⟨T.cl_Count, _, _, _, T.me_Count_shape, ok_Kind_shape T, T.b_Kind_shape⟩
  | whole => exact ⟨T.cl_Whole, _, _, _, T.me_Whole_shape, ok_Kind_shape T, T.b_Kind_shape⟩
  | upto n => exact ⟨T.cl_Upto, _, _, _, T.me_Upto_shape, ok_Kind_shape T, T.b_Kind_shape⟩
  | text n => exact ⟨T.cl_Text, _, _, _, T.me_Text_shape, ok_Text_shape T, T.b_Text_shape⟩
  | form z => exact ⟨T.cl_Nested, _, _, _, T.me_Nested_shape, ok_Nested_shape T, T.b_Nested_shape⟩
  | list k => exact ⟨T.cl_List, _, _, _, T.me_List_shape, ok_List_shape T, T.b_List_shape⟩
def sp_number_text : Sp := fun vs H Q _ => ∃ i : Int, vs = [.int i] ∧ 0 ≤ i ∧ i < 2 ^ 256 ∧ Q (.str (toString i)) H
theorem ok_number_text (T : Tx K mg) : FnOk P w K mg base CX0 1 35 (HL.fdOf K 35) ["number"] sp_number_text := by
  refine T.d_number_text.ok sc_number_text (fun vs H Q E h => ?_) (fun cdv A outer s H vs Q E hr h => ?_)
  · obtain ⟨i, rfl, _⟩ := h
    rfl
  · obtain ⟨i, rfl, h0, h1, q⟩ := h
    refine ⟨_, pss_one (ps_ret (pe_callTy call_str_int rfl T.y_str bt_str (pa_cons (pv 0) pa_nil))), ?_⟩
    exact ⟨_, rfl, i, rfl, log_small h0 h1, q⟩
/-- words -/
def spWords (k : Kd) : Sp := fun vs H Q _ => ∃ v, vs = [v] ∧ IsK H k v ∧ told H Q ((wordsK k).map V.str)
theorem ok_Kind_words (T : Tx K mg) {k : Kd} (hk : k = .truth ∨ k = .count ∨ k = .whole) : FnOk P w K mg base CX0 2 63 (HL.fdOf K 63) ["self"] (spWords k) := by
  refine T.d_Kind_words.ok sc_Kind_words (fun vs H Q E h => ?_) (fun cdv A outer s H vs Q E hr h => ?_)
  · obtain ⟨v, rfl, _⟩ := h
    rfl
  · obtain ⟨v, rfl, hv, q⟩ := h
    refine ⟨_, pss_one (ps_ret (pe_lst (pa_cons (pe_methD0 (k := 1) rfl rfl rfl rfl rfl (pv 0) (hr.mono (by decide)) pass0) pa_nil))), ?_⟩
    obtain ⟨a, dx, fs, rfl, ha, hf⟩ := hv.ins
    refine ⟨_, rfl, a, _, dx, fs, _, rfl, ha, hf _ (by decide) (by decide) (by decide), dWord T k, _, rfl, by show 1 ≤ sizeLine; decide, fun l hl => ?_⟩
    refine q l _ hl (sameU hl) ?_
    rcases hk with rfl | rfl | rfl <;> exact upd_same
theorem ok_Upto_words (T : Tx K mg) {n : Int} (hn : (Kd.upto n).ok) : FnOk P w K mg base CX0 2 239 (HL.fdOf K 239) ["self"] (spWords (.upto n)) := by
  have G : FnOk P w K mg base CX0 1 35 (HL.fdOf K 35) ["number"] sp_number_text := ok_number_text T
  refine T.d_Upto_words.ok sc_Upto_words (fun vs H Q E h => ?_) (fun cdv A outer s H vs Q E hr h => ?_)
  · obtain ⟨v, rfl, _⟩ := h
    rfl
  · obtain ⟨v, rfl, ⟨a, dx, rfl, ha⟩, q⟩ := h
    refine ⟨_, pss_one (ps_ret (pe_lst (pa_cons pe_str (pa_cons (pe_call G (hr.mono (by decide)) rfl T.m_number_text T.k_number_text T.b_number_text .nil pass0 (pa_cons (pe_fld (pv 0) rfl) pa_nil)) pa_nil)))), ?_⟩
    refine ⟨_, rfl, a, _, dx, _, _, rfl, ha, T.cl_Upto, T.o_Upto_most, rfl, n, rfl, Int.le_trans (by decide) hn.1, hn.2, by show 2 ≤ sizeLine; decide, fun l hl => ?_⟩
    exact q l _ hl (sameU hl) upd_same
theorem ok_Nested_words (T : Tx K mg) {z : Str} : FnOk P w K mg base CX0 2 405 (HL.fdOf K 405) ["self"] (spWords (.form z)) := by
  refine T.d_Nested_words.ok sc_Nested_words (fun vs H Q E h => ?_) (fun cdv A outer s H vs Q E hr h => ?_)
  · obtain ⟨v, rfl, _⟩ := h
    rfl
  · obtain ⟨v, rfl, ⟨a, dx, rfl, ha⟩, q⟩ := h
    refine ⟨_, pss_one (ps_ret (pe_lst (pa_cons pe_str (pa_cons (pe_fld (pv 0) rfl) pa_nil)))), ?_⟩
    refine ⟨_, rfl, a, _, dx, _, _, rfl, ha, T.cl_Nested, T.o_Nested_name, rfl, by show 2 ≤ sizeLine; decide, fun l hl => ?_⟩
    exact q l _ hl (sameU hl) upd_same
theorem ok_Text_words (T : Tx K mg) {n : Int} (hn : (Kd.text n).ok) : FnOk P w K mg base CX0 2 294 (HL.fdOf K 294) ["self"] (spWords (.text n)) := by
  have G : FnOk P w K mg base CX0 1 35 (HL.fdOf K 35) ["number"] sp_number_text := ok_number_text T
  obtain ⟨t, hM⟩ := T.u_MOST_SIGNS
  refine T.d_Text_words.ok sc_Text_words (fun vs H Q E h => ?_) (fun cdv A outer s H vs Q E hr h => ?_)
  · obtain ⟨v, rfl, _⟩ := h
    rfl
  · obtain ⟨v, rfl, ⟨a, dx, rfl, ha⟩, q⟩ := h
    refine ⟨_, pss_cons (ps_if (pt_cmpR op_eq (pe_fld (pv 0) rfl) (pgi hM) (nomark _)) (pss_one (ps_ret (pe_lst (pa_cons pe_str pa_nil)))) pss_nil)
      (pss_one (ps_ret (pe_lst (pa_cons pe_str (pa_cons (pe_call G (hr.mono (by decide)) rfl T.m_number_text T.k_number_text T.b_number_text .nil pass0 (pa_cons (pe_fld (pv 0) rfl) pa_nil)) pa_nil))))), ?_⟩
    refine ⟨_, rfl, a, _, dx, _, _, rfl, ha, T.cl_Text, T.o_Text_most, rfl, rfl, _, rfl, ite2 (fun h => ?_) (fun h => ?_)⟩
    · have e : n = 100 := V.int.inj (of_decide_eq_true h)
      refine ⟨by show 1 ≤ sizeLine; decide, fun l hl => q l _ hl (sameU hl) ?_⟩
      rw [upd_same]
      unfold wordsK
      rw [if_pos e]
      rfl
    · have e : ¬ n = 100 := fun z => h (decide_eq_true (congrArg V.int z))
      refine ⟨_, rfl, a, _, dx, _, _, rfl, ha, T.cl_Text, T.o_Text_most, rfl, n, rfl, Int.le_trans (by decide) hn.1, Int.lt_of_le_of_lt hn.2 (by decide), by show 2 ≤ sizeLine; decide, fun l hl => q l _ hl (sameU hl) ?_⟩
      rw [upd_same]
      unfold wordsK
      rw [if_neg e]
      rfl
end
end K7

namespace K7
open PySem L2
seal L2.PE L2.PS L2.PSs L2.PA L2.PT L2.PW L2.PG L2.PGs L2.PI L2.PO
theorem Disp.mono {P : Program} {w : World} {K : PySem.W.Frag} {mg : Str → Option Value} {base : Heap} {j k : Nat} {m : Str} {C : Addr} {sp : Sp} (d : Disp P w K mg base j m C sp) (h : j ≤ k) : Disp P w K mg base k m C sp :=
  ⟨d.c, let ⟨f, fd, ps, a, b, c⟩ := d.ex; ⟨f, fd, ps, a, b.mono h, c⟩⟩
theorem Disp.imp {P : Program} {w : World} {K : PySem.W.Frag} {mg : Str → Option Value} {base : Heap} {k : Nat} {m : Str} {C : Addr} {sp sp' : Sp} (d : Disp P w K mg base k m C sp) (h : ∀ vs H Q E, sp' vs H Q E → sp vs H Q E) : Disp P w K mg base k m C sp' :=
  ⟨d.c, let ⟨f, fd, ps, a, b, c⟩ := d.ex; ⟨f, fd, ps, a, b.imp h, c⟩⟩
section
variable {P : Program} {w : World} {K : PySem.W.Frag} {mg : Str → Option Value} {base : Heap}
theorem dWordsF (T : Tx K mg) {k : Kd} (hf : k.flat = true) (hk : k.ok) : Disp P w K mg base 2 "words" k.cls (spWords k) := by
  cases k with
  | truth => exact ⟨T.cl_Truth, _, _, _, T.me_Truth_words, ok_Kind_words T (.inl rfl), T.b_Kind_words⟩
  | count => exact ⟨T.cl_Count, _, _, _, T.me_Count_words, ok_Kind_words T (.inr (.inl rfl)), T.b_Kind_words⟩
  | whole => exact ⟨T.cl_Whole, _, _, _, T.me_Whole_words, ok_Kind_words T (.inr (.inr rfl)), T.b_Kind_words⟩
  | upto n => exact ⟨T.cl_Upto, _, _, _, T.me_Upto_words, ok_Upto_words T hk, T.b_Upto_words⟩
  | text n => exact ⟨T.cl_Text, _, _, _, T.me_Text_words, ok_Text_words T hk, T.b_Text_words⟩
  | form z => exact ⟨T.cl_Nested, _, _, _, T.me_Nested_words, ok_Nested_words T, T.b_Nested_words⟩
  | list k => cases hf
theorem words_few : ∀ k : Kd, k.flat = true → (wordsK k).length ≤ 2 := by
  intro k h
  cases k with
  | list k => cases h
  | text n => unfold wordsK; split <;> first | exact Nat.le_refl 2 | exact Nat.le_succ 1
  | _ => first | exact Nat.le_refl 2 | exact Nat.le_succ 1
theorem ok_List_words (T : Tx K mg) {k : Kd} (hf : k.flat = true) (hk : k.ok) : FnOk P w K mg base CX0 3 346 (HL.fdOf K 346) ["self"] (spWords (.list k)) := by
  refine T.d_List_words.ok sc_List_words (fun vs H Q E h => ?_) (fun cdv A outer s H vs Q E hr h => ?_)
  · obtain ⟨v, rfl, _⟩ := h
    rfl
  · obtain ⟨v, rfl, ⟨a, dx, u, rfl, ha, hu⟩, q⟩ := h
    refine ⟨_, pss_one (ps_ret (pe_op op_cat (pe_lst (pa_cons pe_str pa_nil)) (pe_methD0 (k := 2) rfl rfl rfl rfl rfl (pe_fld (pv 0) rfl) (hr.mono (by decide)) pass0))), ?_⟩
    refine ⟨by show 1 ≤ sizeLine; decide, fun l hl => ?_⟩
    have s1 : Same H (upd H l (.lst [.str "list"])) := sameU hl
    obtain ⟨b, bx, fs, rfl, hb, hfs⟩ := (hu.same s1).ins
    refine ⟨_, rfl, a, _, dx, _, _, rfl, s1 _ _ ha, T.cl_List, T.o_List_item, rfl, b, _, bx, fs, _, rfl, hb, hfs _ (by decide) (by decide) (by decide), dWordsF T hf hk, _, rfl, hu.same s1, fun l2 H2 h2 s2 e2 => ?_⟩
    refine ⟨l, l2, _, _, rfl, rfl, s2 _ _ upd_same, e2, ?_, fun p hp => ?_⟩
    · rw [List.length_map]
      have := words_few k hf
      exact Nat.le_trans (Nat.add_le_add_left this 1) (by decide)
    · have hp0 : H p = none := by
        cases z : H p with
        | none => rfl
        | some o => rw [s2 _ _ (s1 _ _ z)] at hp; cases hp
      exact q p _ hp0 ((s1.trans s2).trans (sameU hp)) upd_same
theorem dWords (T : Tx K mg) {k : Kd} (hk : k.ok) : Disp P w K mg base 3 "words" k.cls (spWords k) := by
  by_cases hf : k.flat = true
  · exact Disp.mono (dWordsF T hf hk) (by decide)
  · cases k with
    | list k => exact ⟨T.cl_List, _, _, _, T.me_List_words, ok_List_words T hk.1 hk.2, T.b_List_words⟩
    | _ => exact absurd rfl hf
/-- __init__ of one field -/
def spInit (C : Addr) (f : Str) : Sp := fun vs H Q _ => ∃ x dx v, vs = [.ref x, v] ∧ H x = some (.ins C dx []) ∧ Q .non (upd H x (.ins C dx [(f, v)]))
theorem ok_Upto_init (T : Tx K mg) : FnOk P w K mg base CX0 1 225 (HL.fdOf K 225) ["self", "most"] (spInit 263 "most") := by
  refine T.d_Upto_init.ok sc_Upto_init (fun vs H Q E h => ?_) (fun cdv A outer s H vs Q E hr h => ?_)
  · obtain ⟨x, dx, v, rfl, _⟩ := h
    rfl
  · obtain ⟨x, dx, v, rfl, hx, q⟩ := h
    exact ⟨_, pss_one (ps_fld (pv 0) (pv 1) rfl), ⟨_, rfl, _, rfl, x, _, dx, _, rfl, hx, T.cl_Upto, T.o_Upto_most, by decide, q⟩⟩
theorem ok_List_init (T : Tx K mg) : FnOk P w K mg base CX0 1 332 (HL.fdOf K 332) ["self", "item"] (spInit 375 "item") := by
  refine T.d_List_init.ok sc_List_init (fun vs H Q E h => ?_) (fun cdv A outer s H vs Q E hr h => ?_)
  · obtain ⟨x, dx, v, rfl, _⟩ := h
    rfl
  · obtain ⟨x, dx, v, rfl, hx, q⟩ := h
    exact ⟨_, pss_one (ps_fld (pv 0) (pv 1) rfl), ⟨_, rfl, _, rfl, x, _, dx, _, rfl, hx, T.cl_List, T.o_List_item, by decide, q⟩⟩
theorem ok_Nested_init (T : Tx K mg) : FnOk P w K mg base CX0 1 391 (HL.fdOf K 391) ["self", "name"] (spInit 429 "name") := by
  refine T.d_Nested_init.ok sc_Nested_init (fun vs H Q E h => ?_) (fun cdv A outer s H vs Q E hr h => ?_)
  · obtain ⟨x, dx, v, rfl, _⟩ := h
    rfl
  · obtain ⟨x, dx, v, rfl, hx, q⟩ := h
    exact ⟨_, pss_one (ps_fld (pv 0) (pv 1) rfl), ⟨_, rfl, _, rfl, x, _, dx, _, rfl, hx, T.cl_Nested, T.o_Nested_name, by decide, q⟩⟩
/-- width -/
def widthK (k : Kd) : Int := match k with
  | .truth => 1
  | .upto n => if n > 255 then 0 else (Builtin.Int.intBits n : Nat)
  | _ => 0
def spWidth (k : Kd) : Sp := fun vs H Q _ => ∃ v, vs = [v] ∧ IsK H k v ∧ Q (.int (widthK k)) H
theorem ok_Upto_width (T : Tx K mg) {n : Int} : FnOk P w K mg base CX0 1 246 (HL.fdOf K 246) ["self"] (spWidth (.upto n)) := by
  obtain ⟨t, hM⟩ := T.u_MOST_PACKED
  refine T.d_Upto_width.ok sc_Upto_width (fun vs H Q E h => ?_) (fun cdv A outer s H vs Q E hr h => ?_)
  · obtain ⟨v, rfl, _⟩ := h
    rfl
  · obtain ⟨v, rfl, ⟨a, dx, rfl, ha⟩, q⟩ := h
    refine ⟨_, pss_cons (ps_if (pt_cmpR op_gt (pe_fld (pv 0) rfl) (pgi hM) (nomark _)) (pss_one (ps_ret pe_int)) pss_nil)
      (pss_one (ps_ret (pe_bm0 PySem.F.plainAttrs_int PySem.F.slot_int_bit_length PySem.F.type_int_bit_length mt_bitlen (pe_fld (pv 0) rfl)))), ?_⟩
    refine ⟨_, rfl, a, _, dx, _, _, rfl, ha, T.cl_Upto, T.o_Upto_most, rfl, _, _, rfl, rfl, _, rfl, ite2 (fun h => ?_) (fun h => ?_)⟩
    · have e : n > 255 := of_decide_eq_true h
      rw [show widthK (.upto n) = 0 from if_pos e] at q
      exact q
    · have e : ¬ n > 255 := fun z => h (decide_eq_true z)
      rw [show widthK (.upto n) = (Builtin.Int.intBits n : Nat) from if_neg e] at q
      exact ⟨_, rfl, a, _, dx, _, _, rfl, ha, T.cl_Upto, T.o_Upto_most, rfl, rfl, n, rfl, rfl, q⟩
theorem dWidth (T : Tx K mg) (k : Kd) : Disp P w K mg base 1 "width" k.cls (spWidth k) := by
  cases k with
  | truth => exact Disp.imp ⟨T.cl_Truth, _, _, _, T.me_Truth_width, ok_Truth_width T, T.b_Truth_width⟩ fun vs H Q E ⟨v, e, _, q⟩ => ⟨v, e, q⟩
  | count => exact Disp.imp ⟨T.cl_Count, _, _, _, T.me_Count_width, ok_Kind_width T, T.b_Kind_width⟩ fun vs H Q E ⟨v, e, _, q⟩ => ⟨v, e, q⟩
  | whole => exact Disp.imp ⟨T.cl_Whole, _, _, _, T.me_Whole_width, ok_Kind_width T, T.b_Kind_width⟩ fun vs H Q E ⟨v, e, _, q⟩ => ⟨v, e, q⟩
  | upto n => exact ⟨T.cl_Upto, _, _, _, T.me_Upto_width, ok_Upto_width T, T.b_Upto_width⟩
  | text n => exact Disp.imp ⟨T.cl_Text, _, _, _, T.me_Text_width, ok_Kind_width T, T.b_Kind_width⟩ fun vs H Q E ⟨v, e, _, q⟩ => ⟨v, e, q⟩
  | form z => exact Disp.imp ⟨T.cl_Nested, _, _, _, T.me_Nested_width, ok_Kind_width T, T.b_Kind_width⟩ fun vs H Q E ⟨v, e, _, q⟩ => ⟨v, e, q⟩
  | list k => exact Disp.imp ⟨T.cl_List, _, _, _, T.me_List_width, ok_Kind_width T, T.b_Kind_width⟩ fun vs H Q E ⟨v, e, _, q⟩ => ⟨v, e, q⟩
/-- blank -/
def spBlank (k : Kd) : Sp := fun vs H Q _ => ∃ v, vs = [v] ∧ match k with
  | .list _ => told H Q []
  | .truth => Q (.bl false) H
  | .text _ => Q (.str "") H
  | .form _ => Q .non H
  | _ => Q (.int 0) H
theorem ok_List_blank (T : Tx K mg) {k : Kd} : FnOk P w K mg base CX0 1 372 (HL.fdOf K 372) ["self"] (spBlank (.list k)) := by
  refine T.d_List_blank.ok sc_List_blank (fun vs H Q E h => ?_) (fun cdv A outer s H vs Q E hr h => ?_)
  · obtain ⟨v, rfl, _⟩ := h
    rfl
  · obtain ⟨v, rfl, q⟩ := h
    exact ⟨_, pss_one (ps_ret (pe_lst pa_nil)), ⟨by show 0 ≤ sizeLine; decide, fun l hl => q l _ hl (sameU hl) upd_same⟩⟩
theorem dBlank (T : Tx K mg) (k : Kd) : Disp P w K mg base 1 "blank" k.cls (spBlank k) := by
  cases k with
  | truth => exact ⟨T.cl_Truth, _, _, _, T.me_Truth_blank, ok_Truth_blank T, T.b_Truth_blank⟩
  | count => exact ⟨T.cl_Count, _, _, _, T.me_Count_blank, ok_Count_blank T, T.b_Count_blank⟩
  | whole => exact ⟨T.cl_Whole, _, _, _, T.me_Whole_blank, ok_Whole_blank T, T.b_Whole_blank⟩
  | upto n => exact ⟨T.cl_Upto, _, _, _, T.me_Upto_blank, ok_Upto_blank T, T.b_Upto_blank⟩
  | text n => exact ⟨T.cl_Text, _, _, _, T.me_Text_blank, ok_Text_blank T, T.b_Text_blank⟩
  | form z => exact ⟨T.cl_Nested, _, _, _, T.me_Nested_blank, ok_Kind_blank T, T.b_Kind_blank⟩
  | list k => exact ⟨T.cl_List, _, _, _, T.me_List_blank, ok_List_blank T, T.b_List_blank⟩
end
end K7

namespace K7
open PySem L2
seal L2.PE L2.PS L2.PSs L2.PA L2.PT L2.PW L2.PG L2.PGs L2.PI L2.PO
def signOk (c : Nat) : Bool := (decide ((32 : Int) ≤ (c : Int)) && decide ((c : Int) ≤ 126)) && decide (¬ (c : Int) = 37)
abbrev MN : Int := 115792089237316195423570985008687907853269984665640564039457584007913129639935
abbrev MW : Int := 57896044618658097711785492504343953926634992332820282019728792003956564819967
def suitsK : Kd → Dt → Bool
  | .truth, d => isBoolD d
  | .count, d => amD d 0 MN
  | .whole, d => amD d (-MW - 1) MW
  | .upto n, d => amD d 0 n
  | .text n, .str z => !decide ((z.length : Int) > n) && z.cps.toList.all signOk
  | .text _, _ => false
  | .list k, .lst l => !decide ((l.length : Int) > 20) && l.all (suitsK k)
  | .list _, _ => false
  | .form _, _ => true
def spSuits (k : Kd) : Sp := fun vs H Q _ => ∃ v x d, vs = [v, x] ∧ IsK H k v ∧ Th H d x ∧ ∀ H', Same H H' → Q (.bl (suitsK k d)) H'
def sp_is_sign : Sp := fun vs H Q _ => ∃ c : Nat, vs = [.int c] ∧ Q (.bl (signOk c)) H
theorem ndSign : ((["sign"] : List Str) ++ ([] : List Str)).Nodup := by decide +kernel
theorem ndThing : ((["thing"] : List Str) ++ (["self"] : List Str)).Nodup := by decide +kernel
section
variable {P : Program} {w : World} {K : PySem.W.Frag} {mg : Str → Option Value} {base : Heap}
theorem ok_Truth_suits (T : Tx K mg) : FnOk P w K mg base CX0 1 133 (HL.fdOf K 133) ["self", "value"] (spSuits .truth) := by
  refine T.d_Truth_suits.ok sc_Truth_suits (fun vs H Q E h => ?_) (fun cdv A outer s H vs Q E hr h => ?_)
  · obtain ⟨v, x, d, rfl, _⟩ := h
    rfl
  · obtain ⟨v, x, d, rfl, hv, hx, q⟩ := h
    refine ⟨_, pss_one (ps_ret (pe_callB (call_isinstK K rfl) rfl T.y_isinstance bt_isinstance (pa_cons (pv 1) (pa_cons (pty T.y_bool bt_bool) pa_nil)))), ?_⟩
    exact ⟨_, rfl, x, .ty "bool", _, _, _, rfl, hx.ty, rfl, kitB T d, q H fun _ _ e => e⟩
theorem ok_Count_suits (T : Tx K mg) : FnOk P w K mg base CX0 3 166 (HL.fdOf K 166) ["self", "value"] (spSuits .count) := by
  have G : FnOk P w K mg base CX0 2 28 (HL.fdOf K 28) ["thing", "least", "most"] sp_is_among := ok_is_among T
  obtain ⟨t, hM⟩ := T.u_MOST_NUMBER
  refine T.d_Count_suits.ok sc_Count_suits (fun vs H Q E h => ?_) (fun cdv A outer s H vs Q E hr h => ?_)
  · obtain ⟨v, x, d, rfl, _⟩ := h
    rfl
  · obtain ⟨v, x, d, rfl, hv, hx, q⟩ := h
    refine ⟨_, pss_one (ps_ret (pe_call G (hr.mono (by decide)) rfl T.m_is_among T.k_is_among T.b_is_among .nil pass0 (pa_cons (pv 1) (pa_cons pe_int (pa_cons (pgi hM) pa_nil))))), ?_⟩
    exact ⟨_, rfl, x, d, _, _, rfl, hx, q H fun _ _ e => e⟩
theorem ok_Whole_suits (T : Tx K mg) : FnOk P w K mg base CX0 3 199 (HL.fdOf K 199) ["self", "value"] (spSuits .whole) := by
  have G : FnOk P w K mg base CX0 2 28 (HL.fdOf K 28) ["thing", "least", "most"] sp_is_among := ok_is_among T
  obtain ⟨t, hM⟩ := T.u_MOST_WHOLE
  refine T.d_Whole_suits.ok sc_Whole_suits (fun vs H Q E h => ?_) (fun cdv A outer s H vs Q E hr h => ?_)
  · obtain ⟨v, x, d, rfl, _⟩ := h
    rfl
  · obtain ⟨v, x, d, rfl, hv, hx, q⟩ := h
    refine ⟨_, pss_one (ps_ret (pe_call G (hr.mono (by decide)) rfl T.m_is_among T.k_is_among T.b_is_among .nil pass0 (pa_cons (pv 1) (pa_cons (pe_op op_sub (pe_un un_neg (pgi hM)) pe_int) (pa_cons (pgi hM) pa_nil))))), ?_⟩
    exact ⟨_, rfl, _, rfl, _, _, rfl, rfl, x, d, _, _, rfl, hx, q H fun _ _ e => e⟩
theorem ok_Upto_suits (T : Tx K mg) {n : Int} : FnOk P w K mg base CX0 3 253 (HL.fdOf K 253) ["self", "value"] (spSuits (.upto n)) := by
  have G : FnOk P w K mg base CX0 2 28 (HL.fdOf K 28) ["thing", "least", "most"] sp_is_among := ok_is_among T
  refine T.d_Upto_suits.ok sc_Upto_suits (fun vs H Q E h => ?_) (fun cdv A outer s H vs Q E hr h => ?_)
  · obtain ⟨v, x, d, rfl, _⟩ := h
    rfl
  · obtain ⟨v, x, d, rfl, ⟨a, dx, rfl, ha⟩, hx, q⟩ := h
    refine ⟨_, pss_one (ps_ret (pe_call G (hr.mono (by decide)) rfl T.m_is_among T.k_is_among T.b_is_among .nil pass0 (pa_cons (pv 1) (pa_cons pe_int (pa_cons (pe_fld (pv 0) rfl) pa_nil))))), ?_⟩
    exact ⟨_, rfl, _, rfl, a, _, dx, _, _, rfl, ha, T.cl_Upto, T.o_Upto_most, rfl, x, d, _, _, rfl, hx, q H fun _ _ e => e⟩
theorem ok_Nested_suits (T : Tx K mg) {z : Str} : FnOk P w K mg base CX0 1 426 (HL.fdOf K 426) ["self", "value"] (spSuits (.form z)) := by
  refine T.d_Nested_suits.ok sc_Nested_suits (fun vs H Q E h => ?_) (fun cdv A outer s H vs Q E hr h => ?_)
  · obtain ⟨v, x, d, rfl, _⟩ := h
    rfl
  · obtain ⟨v, x, d, rfl, hv, hx, q⟩ := h
    exact ⟨_, pss_one (ps_ret pe_bl), q H fun _ _ e => e⟩
theorem ok_is_sign (T : Tx K mg) : FnOk P w K mg base CX0 1 42 (HL.fdOf K 42) ["number"] sp_is_sign := by
  obtain ⟨t1, h1⟩ := T.u_LEAST_SIGN
  obtain ⟨t2, h2⟩ := T.u_MOST_SIGN
  obtain ⟨t3, h3⟩ := T.u_PERCENT_SIGN
  refine T.d_is_sign.ok sc_is_sign (fun vs H Q E h => ?_) (fun cdv A outer s H vs Q E hr h => ?_)
  · obtain ⟨c, rfl, _⟩ := h
    rfl
  · obtain ⟨c, rfl, q⟩ := h
    refine ⟨_, pss_one (ps_ret (pe_and (pe_chain op_le op_le (pgi h1) (pv 0) (pgi h2)) (pe_one (pe_cmpR op_ne (pv 0) (pgi h3) (nomark _))))), ?_⟩
    have e1 : signOk c = ((decide ((32 : Int) ≤ (c : Int)) && decide ((c : Int) ≤ 126)) && decide (¬ (c : Int) = 37)) := rfl
    refine ⟨_, rfl, _, _, rfl, rfl, _, rfl, ite2 (fun a => ?_) (fun a => ?_)⟩
    · rw [a, Bool.true_and] at e1
      refine ⟨_, _, rfl, rfl, _, rfl, ite2 (fun b => ?_) (fun b => ?_)⟩
      · rw [b, Bool.true_and] at e1
        refine ⟨_, rfl, rfl, ?_⟩
        rw [e1] at q
        have e2 : (!decide (V.int (c : Int) = V.int 37)) = decide (¬ (c : Int) = 37) := by
          by_cases z : (c : Int) = 37
          · simp [z]
          · have : ¬ V.int (c : Int) = V.int 37 := fun y => z (V.int.inj y)
            simp [z, this]
        rw [← e2] at q
        exact q
      · have b' : decide ((c : Int) ≤ 126) = false := by simpa using b
        rw [b', Bool.false_and] at e1
        rw [e1] at q
        exact q
    · have a' : decide ((32 : Int) ≤ (c : Int)) = false := by simpa using a
      rw [a', Bool.false_and, Bool.false_and] at e1
      rw [e1] at q
      exact ⟨_, rfl, iteF q⟩
end
end K7

namespace K7
open PySem L2
seal L2.PE L2.PS L2.PSs L2.PA L2.PT L2.PW L2.PG L2.PGs L2.PI L2.PO
section
variable {P : Program} {w : World} {K : PySem.W.Frag} {mg : Str → Option Value} {base : Heap}
theorem map_all {α β : Type} (l : List α) (f : α → β) (g : β → Bool) (h : α → Bool) (e : ∀ x ∈ l, g (f x) = h x) : (l.map f).all g = l.all h := by
  induction l with
  | nil => rfl
  | cons x l ih => rw [List.map_cons, List.all_cons, List.all_cons, e x (List.mem_cons_self ..), ih fun y hy => e y (List.mem_cons_of_mem _ hy)]
def blOf (f : V → Bool) : V → V := fun v => .bl (f v)
def signV : V → Bool
  | .str z => signOk (z.cps.getD 0 0)
  | _ => false
theorem sgV_signs (z : Str) : ((sgV z).map signV).all id = z.cps.toList.all signOk := by
  rw [sgV, List.map_map]
  exact map_all _ _ _ _ fun c _ => rfl
theorem ok_Text_suits (T : Tx K mg) {n : Int} : FnOk P w K mg base CX0 2 306 (HL.fdOf K 306) ["self", "value"] (spSuits (.text n)) := by
  have G : FnOk P w K mg base CX0 1 42 (HL.fdOf K 42) ["number"] sp_is_sign := ok_is_sign T
  refine T.d_Text_suits.ok sc_Text_suits (fun vs H Q E h => ?_) (fun cdv A outer s H vs Q E hr h => ?_)
  · obtain ⟨v, x, d, rfl, _⟩ := h
    rfl
  · obtain ⟨v, x, d, rfl, ⟨a, dx, rfl, ha⟩, hx, q⟩ := h
    refine ⟨_, pss_cons (ps_if (PW.pt (pw_or (pt_not (pt_val (pe_callB (call_isinstK K rfl) rfl T.y_isinstance bt_isinstance (pa_cons (pv 1) (pa_cons (pty T.y_str bt_str) pa_nil))))) (pw_or1 (pt_cmpR op_gt (pe_callB call_len_str (by rfl) T.y_len bt_len (pa_cons (pv 1) pa_nil)) (pe_fld (pv 0) rfl) (nomark _))))) (pss_one (ps_ret pe_bl)) pss_nil)
      (pss_one (ps_ret (pe_callB (call_all_bl rfl) rfl T.y_all bt_all (pa_cons (pe_comp (ts := ["sign"]) (xs := []) (js := []) rfl ⟨rfl, rfl, by decide +kernel, by decide +kernel, freeIn rfl⟩ .nil (by decide +kernel) (pi_str (pv 1))
          (fun C s₀ H₀ fp => pg_name (X := cxC _ _ _ C s₀ H₀ fp) (i := 0) ndSign rfl (Or.inl rfl) (Or.inr rfl))
          (fun C s₀ H₀ fp => pif_nil (X := cxC _ _ _ C s₀ H₀ fp))
          (fun C s₀ H₀ fp => pe_call (X := cxC _ _ _ C s₀ H₀ fp) G (hr.mono (by decide)) rfl T.m_is_sign T.k_is_sign T.b_is_sign .nil pass0 (pa_cons (pe_callB call_ord rfl T.y_ord bt_ord (pa_cons (pv 0) pa_nil)) pa_nil))) pa_nil)))), ?_⟩
    refine ⟨_, rfl, x, .ty "str", _, _, _, rfl, hx.ty, rfl, kitS T d, _, rfl, ?_⟩
    cases d with
    | str z =>
      obtain ⟨rfl, hz, _⟩ := hx
      refine iteF ⟨_, rfl, z, rfl, Nat.le_trans hz (by decide), _, rfl, a, _, dx, _, _, rfl, ha, T.cl_Text, T.o_Text_most, rfl, _, _, rfl, rfl, _, rfl, ite2 (fun h => ?_) (fun h => ?_)⟩
      · have e : suitsK (.text n) (.str z) = false := by
          show (!decide ((z.length : Int) > n) && _) = false
          rw [h]; rfl
        rw [e] at q
        exact q H fun _ _ e => e
      · have h' : decide ((z.length : Int) > n) = false := by simpa using h
        have e : suitsK (.text n) (.str z) = ((sgV z).map signV).all id := by
          show (!decide ((z.length : Int) > n) && _) = _
          rw [h', sgV_signs]; rfl
        rw [e] at q
        refine ⟨_, rfl, z, rfl, comp_grow (Wk.str z) (by rw [sgV_len]; exact hz) (blOf signV) (fun y hy H2 R s2 hR => ?_) (fun D H2 hD s2 e2 => ?_)⟩
        · obtain ⟨c, hc, rfl⟩ := List.mem_map.mp hy
          exact ⟨Sub.set rfl, _, rfl, _, rfl, rfl, c, rfl, hR H2 fun _ _ e => e⟩
        · refine ⟨D, (sgV z).map signV, rfl, ?_, q _ s2⟩
          rw [List.map_map]
          exact e2
    | _ => exact iteT (q H fun _ _ e => e)
end
end K7

namespace K7
open PySem L2
seal L2.PE L2.PS L2.PSs L2.PA L2.PT L2.PW L2.PG L2.PGs L2.PI L2.PO
section
variable {P : Program} {w : World} {K : PySem.W.Frag} {mg : Str → Option Value} {base : Heap}
theorem dSuitsF (T : Tx K mg) {k : Kd} (hf : k.flat = true) : Disp P w K mg base 3 "suits" k.cls (spSuits k) := by
  cases k with
  | truth => exact Disp.mono ⟨T.cl_Truth, _, _, _, T.me_Truth_suits, ok_Truth_suits T, T.b_Truth_suits⟩ (by decide)
  | count => exact ⟨T.cl_Count, _, _, _, T.me_Count_suits, ok_Count_suits T, T.b_Count_suits⟩
  | whole => exact ⟨T.cl_Whole, _, _, _, T.me_Whole_suits, ok_Whole_suits T, T.b_Whole_suits⟩
  | upto n => exact ⟨T.cl_Upto, _, _, _, T.me_Upto_suits, ok_Upto_suits T, T.b_Upto_suits⟩
  | text n => exact Disp.mono ⟨T.cl_Text, _, _, _, T.me_Text_suits, ok_Text_suits T, T.b_Text_suits⟩ (by decide)
  | form z => exact Disp.mono ⟨T.cl_Nested, _, _, _, T.me_Nested_suits, ok_Nested_suits T, T.b_Nested_suits⟩ (by decide)
  | list k => cases hf
theorem range_all {α : Type} (l : List α) (p : α → Bool) (f : Nat → Bool) (h : ∀ i d, l[i]? = some d → f i = p d) : ((List.range l.length).map f).all id = l.all p := by
  have e : (List.range l.length).map f = l.map p := by
    apply List.ext_getElem?
    intro i
    rw [List.getElem?_map, List.getElem?_map]
    by_cases hi : i < l.length
    · rw [List.getElem?_range hi, List.getElem?_eq_getElem hi]
      exact congrArg some (h i _ (List.getElem?_eq_getElem hi))
    · rw [List.getElem?_eq_none (by rw [List.length_range]; omega), List.getElem?_eq_none (by omega)]
      rfl
  rw [e, List.all_map]
  rfl
theorem ok_List_suits (T : Tx K mg) {k : Kd} (hf : k.flat = true) : FnOk P w K mg base CX0 4 365 (HL.fdOf K 365) ["self", "value"] (spSuits (.list k)) := by
  obtain ⟨t, hM⟩ := T.u_MOST_THINGS
  refine T.d_List_suits.ok sc_List_suits (fun vs H Q E h => ?_) (fun cdv A outer s H vs Q E hr h => ?_)
  · obtain ⟨v, x, d, rfl, _⟩ := h
    rfl
  · obtain ⟨v, x, d, rfl, ⟨a, dx, u, rfl, ha, hu⟩, hx, q⟩ := h
    refine ⟨_, pss_cons (ps_if (PW.pt (pw_or (pt_not (pt_val (pe_callB (call_isinstK K rfl) rfl T.y_isinstance bt_isinstance (pa_cons (pv 1) (pa_cons (pty T.y_list bt_list) pa_nil))))) (pw_or1 (pt_cmpR op_gt (pe_callB call_len_seq (by rfl) T.y_len bt_len (pa_cons (pv 1) pa_nil)) (pgi hM) (nomark _))))) (pss_one (ps_ret pe_bl)) pss_nil)
      (pss_one (ps_ret (pe_callB (call_all_bl rfl) rfl T.y_all bt_all (pa_cons (pe_comp (ts := ["thing"]) (xs := ["self"]) (js := [0]) rfl ⟨rfl, rfl, by decide +kernel, by decide +kernel, freeIn rfl⟩ (.cons rfl (.inl rfl) rfl .nil) (by decide +kernel) (pi_list (pv 1))
          (fun C s₀ H₀ fp => pg_name (X := cxC _ _ _ C s₀ H₀ fp) (i := 0) ndThing rfl (Or.inl rfl) (Or.inr rfl))
          (fun C s₀ H₀ fp => pif_nil (X := cxC _ _ _ C s₀ H₀ fp))
          (fun C s₀ H₀ fp => pe_methD (X := cxC _ _ _ C s₀ H₀ fp) (P := P) (w := w) (K := K) (mg := mg) (base := base) (k := 3) rfl rfl rfl rfl rfl (pe_fldK (X := cxC _ _ _ C s₀ H₀ fp) K rfl (pv 1) rfl) (hr.mono (by decide)) pass0 (pa_cons (pv 0) pa_nil))) pa_nil)))), ?_⟩
    refine ⟨_, rfl, x, .ty "list", _, _, _, rfl, hx.ty, rfl, kitL T d, _, rfl, ?_⟩
    cases d with
    | lst l =>
      obtain ⟨p, xs, rfl, hp, hxs, hl⟩ := hx
      have hlen := hxs.len
      refine iteF ⟨_, rfl, p, _, rfl, .inl (SqL.of hp), _, _, rfl, rfl, _, rfl, ?_⟩
      rw [hlen]
      refine ite2 (fun h => ?_) (fun h => ?_)
      · have e : suitsK (.list k) (.lst l) = false := by
          unfold suitsK
          rw [h]; rfl
        rw [e] at q
        exact q H fun _ _ e => e
      · have h' : decide ((l.length : Int) > 20) = false := by simpa using h
        have e : suitsK (.list k) (.lst l) = l.all (suitsK k) := by
          rw [suitsK]
          rw [h']; rfl
        rw [e] at q
        refine ⟨_, rfl, p, rfl, ⟨_, SqL.of hp⟩, comp_growI (Wk.list (SqL.of hp)) (by rw [hlen]; exact hl) (fun j => .bl (match l[j]? with | some d => suitsK k d | none => false)) (fun j y hy H2 R s2 hR => ?_) (fun D H2 hD s2 e2 => ?_)⟩
        · obtain ⟨d, hd, ht⟩ := hxs.at j y hy
          obtain ⟨b, bx, fs, rfl, hb, hfs⟩ := (hu.same s2).ins
          refine ⟨Sub.set rfl, _, rfl, a, _, dx, _, _, rfl, s2 _ _ ha, T.cl_List, T.o_List_item, rfl, b, _, bx, fs, _, rfl, hb, hfs _ (by decide) (by decide) (by decide), dSuitsF T hf, _, rfl, _, y, d, rfl, hu.same s2, Th.same s2 d y ht, fun H3 s3 => ?_⟩
          have := hR H3 s3
          rw [hd] at this
          exact this
        · refine ⟨D, (List.range xs.length).map fun j => (match l[j]? with | some d => suitsK k d | none => false), rfl, ?_, ?_⟩
          · rw [List.map_map]
            exact e2
          · rw [hlen, range_all l (suitsK k) _ (fun i d hd => by rw [hd])]
            exact q _ s2
    | _ => exact iteT (q H fun _ _ e => e)
theorem dSuits (T : Tx K mg) {k : Kd} (hk : k.ok) : Disp P w K mg base 4 "suits" k.cls (spSuits k) := by
  by_cases hf : k.flat = true
  · exact Disp.mono (dSuitsF T hf) (by decide)
  · cases k with
    | list k => exact ⟨T.cl_List, _, _, _, T.me_List_suits, ok_List_suits T hk.1, T.b_List_suits⟩
    | _ => exact absurd rfl hf
end
end K7

namespace K7
open PySem L2
seal L2.PE L2.PS L2.PSs L2.PA L2.PT L2.PW L2.PG L2.PGs L2.PI L2.PO
def sp_number (K : PySem.W.Frag) : Sp := fun vs H Q _ => ∃ (a : Addr) (ns : List Int) (k : Int), vs = [.ref a, .int k] ∧ SqL K H a (ns.map V.int) ∧ 0 ≤ k ∧ k ≤ 1000 ∧ ∀ r : Int, 0 ≤ r → r < 2147483629 → Q (.int r) H
def sp_mixed : Sp := fun vs H Q _ => ∃ (c k : Int), vs = [.int c, .int k] ∧ 0 ≤ k ∧ k ≤ 1000 ∧ ∀ r : Int, 0 ≤ r → r < 2147483399 → Q (.int r) H
theorem pos_mod (a : Int) {b : Int} (h : 0 < b) : 0 ≤ a % b ∧ a % b < b := ⟨Int.emod_nonneg _ (Int.ne_of_gt h), Int.emod_lt_of_pos _ h⟩
section
variable {P : Program} {w : World} {K : PySem.W.Frag} {mg : Str → Option Value} {base : Heap}
theorem ok_mixed (T : Tx K mg) : FnOk P w K mg base CX0 1 445 (HL.fdOf K 445) ["_law_number_here", "_law_k"] sp_mixed := by
  refine T.d_mixed.ok sc_mixed (fun vs H Q E h => ?_) (fun cdv A outer s H vs Q E hr h => ?_)
  · obtain ⟨c, k, rfl, _⟩ := h
    rfl
  · obtain ⟨c, k, rfl, h0, h1, q⟩ := h
    refine ⟨_, pss_one (ps_ret (pe_op op_mod (pe_op op_add (pe_op op_mul (pe_op op_mod (pv 0) pe_int) pe_int) (pe_op op_mul (pe_op op_mul (pe_op op_add (pv 1) pe_int) (pe_op op_add (pv 1) pe_int)) pe_int)) pe_int)), ?_⟩
    refine ⟨_, rfl, _, _, rfl, rfl, (by show (0 : Int) < 2147483629; decide), _, _, rfl, rfl, .inr ⟨by decide, by decide⟩, _, rfl, _, _, rfl, rfl, _, rfl, _, _, rfl, rfl, _, _, rfl, rfl, .inl ⟨by omega, by omega⟩, _, _, rfl, rfl, .inr ⟨by decide, by decide⟩, _, _, rfl, rfl, _, _, rfl, rfl, (by show (0 : Int) < 2147483399; decide), ?_⟩
    have z := pos_mod (c % 2147483629 * 40692 + (k + 5) * (k + 5) * 30269) (b := 2147483399) (by decide)
    exact q _ z.1 z.2
theorem ok_number (T : Tx K mg) : FnOk P w K mg base CX0 1 438 (HL.fdOf K 438) ["_law_script", "_law_k"] (sp_number K) := by
  refine T.d_number.ok sc_number (fun vs H Q E h => ?_) (fun cdv A outer s H vs Q E hr h => ?_)
  · obtain ⟨a, ns, k, rfl, _⟩ := h
    rfl
  · obtain ⟨a, ns, k, rfl, hS, h0, h1, q⟩ := h
    refine ⟨_, pss_cons (ps_set (i := 2) sc_number.nd rfl (Or.inl rfl) pe_int)
      (pss_cut (ps_if (pt_cmpR op_gt (pe_callB call_len_seq (by rfl) T.y_len bt_len (pa_cons (pv 0) pa_nil)) pe_int (nomark _))
        (pss_one (ps_set (i := 2) sc_number.nd rfl (Or.inl rfl) (pe_ix ix_list (pv 0) (pe_op op_mod (pv 1) (pe_callB call_len_seq (by rfl) T.y_len bt_len (pa_cons (pv 0) pa_nil))) (fun _ _ => rfl))))
        pss_nil)
      (pss_cons (ps_set (i := 3) sc_number.nd rfl (Or.inl rfl) (pe_op op_add (pv 1) pe_int))
      (pss_one (ps_ret (pe_op op_mod (pe_op op_mul (pe_op op_mod (pe_op op_add (pe_op op_mul (pe_op op_mod (pv 2) pe_int) pe_int) (pe_op op_mul (pe_op op_mul (pv 3) (pv 3)) pe_int)) pe_int) pe_int) pe_int))))), ?_⟩
    refine ⟨fun σ' H' => ∃ c : Int, σ' = [some (.ref a), some (.int k), some (.int c), none] ∧ H' = H, ?_, ?_⟩
    · refine ⟨_, rfl, a, _, rfl, .inl hS, _, _, rfl, rfl, _, rfl, ite2 (fun h => ?_) (fun h => ⟨1, rfl, rfl⟩)⟩
      have hp : (0 : Int) < ((ns.map V.int).length : Int) := of_decide_eq_true h
      have z := pos_mod k hp
      have hlt : (k % ((ns.map V.int).length : Int)).toNat < ns.length := by
        have := List.length_map (as := ns) V.int
        omega
      refine ⟨_, rfl, _, rfl, _, rfl, a, _, rfl, .inl hS, _, _, rfl, rfl, hp, a, _, _, .int (ns[(k % ((ns.map V.int).length : Int)).toNat]'hlt), rfl, rfl, hS, ?_, ⟨_, rfl, rfl⟩⟩
      have e2 : atI (ns.map V.int) (((k % ((ns.map V.int).length : Int)).toNat : Nat) : Int) = some (.int (ns[(k % ((ns.map V.int).length : Int)).toNat]'hlt)) := atI_nat (by
        rw [List.getElem?_map, List.getElem?_eq_getElem hlt]; rfl)
      rw [show (((k % ((ns.map V.int).length : Int)).toNat : Nat) : Int) = k % ((ns.map V.int).length : Int) from Int.toNat_of_nonneg z.1] at e2
      exact e2
    · rintro σ' H' ⟨c, rfl, rfl⟩
      refine ⟨_, rfl, _, _, rfl, rfl, ?_⟩
      have y := pos_mod c (b := 2147483629) (by decide)
      have y2 := pos_mod (c % 2147483629 * 48271 + (k + 3) * (k + 3) * 69621) (b := 2147483647) (by decide)
      refine ⟨_, rfl, _, _, rfl, rfl, (by show (0 : Int) < 2147483629; decide), _, _, rfl, rfl, .inr ⟨by decide, by decide⟩, _, rfl, _, rfl, _, _, rfl, rfl, .inl ⟨by omega, by omega⟩, _, _, rfl, rfl, .inr ⟨by decide, by decide⟩, _, _, rfl, rfl, _, _, rfl, rfl, (by show (0 : Int) < 2147483647; decide), _, _, rfl, rfl, .inr ⟨by decide, by decide⟩, _, _, rfl, rfl, (by show (0 : Int) < 2147483629; decide), ?_⟩
      have y3 := pos_mod ((c % 2147483629 * 48271 + (k + 3) * (k + 3) * 69621) % 2147483647 * 16807) (b := 2147483629) (by decide)
      exact q _ y3.1 y3.2
end
end K7

namespace K7
open PySem L2
seal L2.PE L2.PS L2.PSs L2.PA L2.PT L2.PW L2.PG L2.PGs L2.PI L2.PO
/-- a tuple of the law that tells a kind -/
def TK (H : Hp) : Kd → V → Prop
  | .upto n, v => ∃ t, v = .ref t ∧ H t = some (.tup [.str "upto", .int n])
  | .text n, v => ∃ t, v = .ref t ∧ H t = some (.tup [.str "text", .int n])
  | .form z, v => ∃ t, v = .ref t ∧ H t = some (.tup [.str "form", .str z])
  | .list k, v => ∃ t u, v = .ref t ∧ H t = some (.tup [.str "list", u]) ∧ TK H k u
  | .truth, v => ∃ t, v = .ref t ∧ H t = some (.tup [.str "truth"])
  | .count, v => ∃ t, v = .ref t ∧ H t = some (.tup [.str "count"])
  | .whole, v => ∃ t, v = .ref t ∧ H t = some (.tup [.str "whole"])
theorem TK.same {H H' : Hp} (s : Same H H') : ∀ {k : Kd} {v : V}, TK H k v → TK H' k v
  | .upto _, _, ⟨a, e, h⟩ => ⟨a, e, s _ _ h⟩
  | .text _, _, ⟨a, e, h⟩ => ⟨a, e, s _ _ h⟩
  | .form _, _, ⟨a, e, h⟩ => ⟨a, e, s _ _ h⟩
  | .list _, _, ⟨a, u, e, h, k⟩ => ⟨a, u, e, s _ _ h, k.same s⟩
  | .truth, _, ⟨a, e, h⟩ => ⟨a, e, s _ _ h⟩
  | .count, _, ⟨a, e, h⟩ => ⟨a, e, s _ _ h⟩
  | .whole, _, ⟨a, e, h⟩ => ⟨a, e, s _ _ h⟩
section
variable {P : Program} {w : World} {K : PySem.W.Frag} {mg : Str → Option Value} {base : Heap}
theorem ok_Text_init (T : Tx K mg) : FnOk P w K mg base CX0 1 280 (HL.fdOf K 280) ["self", "most"] (spInit 316 "most") := by
  obtain ⟨oc, od, sl, kV, doc, pm, an, cdv, ct, e, lk, hcd⟩ := HL.funD_of T.e_Text_init
  rw [e]
  refine fn_of lk hcd sc_Text_init (fun vs H Q E h => ?_) (fun A outer s H vs Q E hr h => ?_)
  · obtain ⟨x, dx, v, rfl, _⟩ := h
    rfl
  · obtain ⟨x, dx, v, rfl, hx, q⟩ := h
    exact ⟨_, PSs.nox (pss_one (ps_fld (pv 0) (pv 1) rfl)), ⟨_, rfl, _, rfl, x, _, dx, _, rfl, hx, T.cl_Text, T.o_Text_most, by decide, q⟩⟩
theorem b_Text_init2 (T : Tx K mg) : Binds K (HL.fdOf K 280) ["self", "most"] [] := by
  obtain ⟨oc, od, sl, kV, doc, pm, an, cdv, ct, e, lk, hcd⟩ := HL.funD_of T.e_Text_init
  obtain ⟨o, t, n, h1, h2⟩ := HL.seq_one T.dh_Text T.dl_Text
  rw [e]
  intro s us X hl
  rw [List.append_nil] at hl ⊢
  match us, hl with
  | [u, v], _ => exact BindsTo.of_defaults rfl (X _ _ h1) h2 rfl rfl
theorem b_Text_init1 (T : Tx K mg) : ∃ t, Binds K (HL.fdOf K 280) ["self", "most"] [.int 100 t] := by
  obtain ⟨oc, od, sl, kV, doc, pm, an, cdv, ct, e, lk, hcd⟩ := HL.funD_of T.e_Text_init
  obtain ⟨o, t, n, h1, h2⟩ := HL.seq_one T.dh_Text T.dl_Text
  refine ⟨t, ?_⟩
  rw [e]
  intro s us X hl
  have hl' : us.length = 1 := by rw [List.length_append] at hl; exact Nat.succ.inj hl
  match us, hl' with
  | [u], _ => exact BindsTo.of_defaults rfl (X _ _ h1) h2 rfl rfl
end
end K7

namespace K7
open PySem L2
seal L2.PE L2.PS L2.PSs L2.PA L2.PT L2.PW L2.PG L2.PGs L2.PI L2.PO
/-- what a made kind's promise is -/
def sp_made (k : Kd) : Sp := fun vs H Q _ => ∃ v, vs = [v] ∧ TK H k v ∧ ∀ u H', Same H H' → IsK H' k u → Q u H'
section
variable {P : Program} {w : World} {K : PySem.W.Frag} {mg : Str → Option Value} {base : Heap}
theorem fnFalse {k : Nat} {f : Addr} {fd : FuncData} {ps : List Str} : FnOk P w K mg base CX0 k f fd ps (fun _ _ _ _ => False) := ⟨fun _ _ _ _ h => h.elim, fun _ _ _ _ _ _ _ _ _ _ _ _ _ _ _ h => h.elim⟩
theorem at0 {x : V} {xs : List V} : atI (x :: xs) 0 = some x := by
  have h := atI_nat (xs := x :: xs) (j := 0) (v := x) rfl
  exact h
theorem at1 {x y : V} {xs : List V} : atI (x :: y :: xs) 1 = some y := by
  have h := atI_nat (xs := x :: y :: xs) (j := 1) (v := y) rfl
  exact h
theorem ok_made_step (T : Tx K mg) {r : Nat} {spI : Sp} (G : FnOk P w K mg base CX0 (r + 1) 471 (HL.fdOf K 471) ["_law_kind"] spI) {k : Kd} (hk : ∀ k', k = .list k' → ∀ vs H Q E, sp_made k' vs H Q E → spI vs H Q E) :
    FnOk P w K mg base CX0 (r + 3) 471 (HL.fdOf K 471) ["_law_kind"] (sp_made k) := by
  obtain ⟨t1, bT1⟩ := b_Text_init1 T
  have dv : Vals [V.int 100] [Value.int 100 t1] := .cons ⟨_, rfl⟩ .nil
  refine T.d_made_of.ok sc_made_of (fun vs H Q E h => ?_) (fun cdv A outer s H vs Q E hr h => ?_)
  · obtain ⟨v, rfl, _⟩ := h
    rfl
  · obtain ⟨v, rfl, hv, q⟩ := h
    have hr1 : Room (1 + 1) _ := hr.mono (by omega)
    refine ⟨_, pss_cons (ps_if (pt_cmpR op_eq (pe_ix ix_tup (pv 0) pe_int (fun _ _ => rfl)) pe_str (nomark _))
        (pss_one (ps_ret (pe_make ⟨T.mk_List, T.f_List_init, T.i_List_init, T.mp_List⟩ (ok_List_init T) hr1 rfl T.mc_List T.b_List_init .nil pass0 (pa_cons (pe_call G (hr.mono (by omega)) rfl T.m_made_of T.k_made_of T.b_made_of .nil pass0 (pa_cons (pe_ix ix_tup (pv 0) pe_int (fun _ _ => rfl)) pa_nil)) pa_nil)))) pss_nil)
      (pss_cons (ps_if (pt_cmpR op_eq (pe_ix ix_tup (pv 0) pe_int (fun _ _ => rfl)) pe_str (nomark _))
        (pss_one (ps_ret (pe_make ⟨T.mk_Nested, T.f_Nested_init, T.i_Nested_init, T.mp_Nested⟩ (ok_Nested_init T) hr1 rfl T.mc_Nested T.b_Nested_init .nil pass0 (pa_cons (pe_ix ix_tup (pv 0) pe_int (fun _ _ => rfl)) pa_nil)))) pss_nil)
      (pss_cons (ps_if (pt_cmpR op_eq (pe_ix ix_tup (pv 0) pe_int (fun _ _ => rfl)) pe_str (nomark _))
        (pss_one (ps_ret (pe_make ⟨T.mk_Upto, T.f_Upto_init, T.i_Upto_init, T.mp_Upto⟩ (ok_Upto_init T) hr1 rfl T.mc_Upto T.b_Upto_init .nil pass0 (pa_cons (pe_ix ix_tup (pv 0) pe_int (fun _ _ => rfl)) pa_nil)))) pss_nil)
      (pss_cons (ps_if (pt_cmpR op_eq (pe_ix ix_tup (pv 0) pe_int (fun _ _ => rfl)) pe_str (nomark _))
        (pss_one (ps_ret (pe_ifExp (pt_cmpR op_eq (pe_ix ix_tup (pv 0) pe_int (fun _ _ => rfl)) pe_int (nomark _)) (pe_make0 ⟨T.mk_Text, T.f_Text_init, T.i_Text_init, T.mp_Text⟩ (ok_Text_init T) hr1 rfl T.mc_Text bT1 dv pass0)
          (pe_make ⟨T.mk_Text, T.f_Text_init, T.i_Text_init, T.mp_Text⟩ (ok_Text_init T) hr1 rfl T.mc_Text (b_Text_init2 T) .nil pass0 (pa_cons (pe_ix ix_tup (pv 0) pe_int (fun _ _ => rfl)) pa_nil))))) pss_nil)
      (pss_cons (ps_if (pt_cmpR op_eq (pe_ix ix_tup (pv 0) pe_int (fun _ _ => rfl)) pe_str (nomark _)) (pss_one (ps_ret (pe_makeN T.mk_Truth T.f_Truth_init T.mp_Truth rfl T.mc_Truth))) pss_nil)
      (pss_one (ps_ret (pe_ifExp (pt_cmpR op_eq (pe_ix ix_tup (pv 0) pe_int (fun _ _ => rfl)) pe_str (nomark _)) (pe_makeN T.mk_Count T.f_Count_init T.mp_Count rfl T.mc_Count) (pe_makeN T.mk_Whole T.f_Whole_init T.mp_Whole rfl T.mc_Whole)))))))), ?_⟩
    have new : ∀ (C : Addr) (fs : List (Str × V)) (x dx : Addr), H x = none → H dx = none → dx ≠ x → Same H (upd (upd (upd H dx (.own x)) x (.ins C dx [])) x (.ins C dx fs)) := fun C fs x dx hx hdx hne => by
      rw [upd_upd]
      refine (sameU hdx).trans (sameU ?_)
      rw [upd_ne (Ne.symm hne)]; exact hx
    have new0 : ∀ (C : Addr) (x dx : Addr), H x = none → H dx = none → dx ≠ x → Same H (upd (upd H dx (.own x)) x (.ins C dx [])) := fun C x dx hx hdx hne => by
      refine (sameU hdx).trans (sameU ?_)
      rw [upd_ne (Ne.symm hne)]; exact hx
    cases k with
    | upto n =>
      obtain ⟨t, rfl, ht⟩ := hv
      refine ⟨_, rfl, t, _, _, _, rfl, rfl, SqT.of ht, at0, rfl, _, rfl, iteD (by decide +kernel) ?_⟩
      refine ⟨_, rfl, t, _, _, _, rfl, rfl, SqT.of ht, at0, rfl, _, rfl, iteD (by decide +kernel) ?_⟩
      refine ⟨_, rfl, t, _, _, _, rfl, rfl, SqT.of ht, at0, rfl, _, rfl, iteP rfl ?_⟩
      refine ⟨_, rfl, t, _, _, _, rfl, rfl, SqT.of ht, at1, fun x dx hx hdx hne => ⟨x, dx, _, rfl, upd_same, rfl, ?_⟩⟩
      exact q _ _ (new 263 _ x dx hx hdx hne) ⟨x, dx, rfl, upd_same⟩
    | form z =>
      obtain ⟨t, rfl, ht⟩ := hv
      refine ⟨_, rfl, t, _, _, _, rfl, rfl, SqT.of ht, at0, rfl, _, rfl, iteD (by decide +kernel) ?_⟩
      refine ⟨_, rfl, t, _, _, _, rfl, rfl, SqT.of ht, at0, rfl, _, rfl, iteP rfl ?_⟩
      refine ⟨_, rfl, t, _, _, _, rfl, rfl, SqT.of ht, at1, fun x dx hx hdx hne => ⟨x, dx, _, rfl, upd_same, rfl, ?_⟩⟩
      exact q _ _ (new 429 _ x dx hx hdx hne) ⟨x, dx, rfl, upd_same⟩
    | text n =>
      obtain ⟨t, rfl, ht⟩ := hv
      refine ⟨_, rfl, t, _, _, _, rfl, rfl, SqT.of ht, at0, rfl, _, rfl, iteD (by decide +kernel) ?_⟩
      refine ⟨_, rfl, t, _, _, _, rfl, rfl, SqT.of ht, at0, rfl, _, rfl, iteD (by decide +kernel) ?_⟩
      refine ⟨_, rfl, t, _, _, _, rfl, rfl, SqT.of ht, at0, rfl, _, rfl, iteD (by decide +kernel) ?_⟩
      refine ⟨_, rfl, t, _, _, _, rfl, rfl, SqT.of ht, at0, rfl, _, rfl, iteP rfl ?_⟩
      refine ⟨_, rfl, t, _, _, _, rfl, rfl, SqT.of ht, at1, rfl, _, rfl, ite2 (fun h => ?_) (fun h => ?_)⟩
      · obtain rfl : n = 100 := V.int.inj (of_decide_eq_true h)
        refine fun x dx hx hdx hne => ⟨x, dx, _, rfl, upd_same, rfl, ?_⟩
        exact q _ _ (new 316 _ x dx hx hdx hne) ⟨x, dx, rfl, upd_same⟩
      · refine ⟨_, rfl, t, _, _, _, rfl, rfl, SqT.of ht, at1, fun x dx hx hdx hne => ⟨x, dx, _, rfl, upd_same, rfl, ?_⟩⟩
        exact q _ _ (new 316 _ x dx hx hdx hne) ⟨x, dx, rfl, upd_same⟩
    | truth =>
      obtain ⟨t, rfl, ht⟩ := hv
      refine ⟨_, rfl, t, _, _, _, rfl, rfl, SqT.of ht, at0, rfl, _, rfl, iteD (by decide +kernel) ?_⟩
      refine ⟨_, rfl, t, _, _, _, rfl, rfl, SqT.of ht, at0, rfl, _, rfl, iteD (by decide +kernel) ?_⟩
      refine ⟨_, rfl, t, _, _, _, rfl, rfl, SqT.of ht, at0, rfl, _, rfl, iteD (by decide +kernel) ?_⟩
      refine ⟨_, rfl, t, _, _, _, rfl, rfl, SqT.of ht, at0, rfl, _, rfl, iteD (by decide +kernel) ?_⟩
      refine ⟨_, rfl, t, _, _, _, rfl, rfl, SqT.of ht, at0, rfl, _, rfl, iteP rfl ?_⟩
      exact fun x dx hx hdx hne => q _ _ (new0 143 x dx hx hdx hne) ⟨x, dx, rfl, upd_same⟩
    | count =>
      obtain ⟨t, rfl, ht⟩ := hv
      refine ⟨_, rfl, t, _, _, _, rfl, rfl, SqT.of ht, at0, rfl, _, rfl, iteD (by decide +kernel) ?_⟩
      refine ⟨_, rfl, t, _, _, _, rfl, rfl, SqT.of ht, at0, rfl, _, rfl, iteD (by decide +kernel) ?_⟩
      refine ⟨_, rfl, t, _, _, _, rfl, rfl, SqT.of ht, at0, rfl, _, rfl, iteD (by decide +kernel) ?_⟩
      refine ⟨_, rfl, t, _, _, _, rfl, rfl, SqT.of ht, at0, rfl, _, rfl, iteD (by decide +kernel) ?_⟩
      refine ⟨_, rfl, t, _, _, _, rfl, rfl, SqT.of ht, at0, rfl, _, rfl, iteD (by decide +kernel) ?_⟩
      refine ⟨_, rfl, t, _, _, _, rfl, rfl, SqT.of ht, at0, rfl, _, rfl, iteP rfl ?_⟩
      exact fun x dx hx hdx hne => q _ _ (new0 176 x dx hx hdx hne) ⟨x, dx, rfl, upd_same⟩
    | whole =>
      obtain ⟨t, rfl, ht⟩ := hv
      refine ⟨_, rfl, t, _, _, _, rfl, rfl, SqT.of ht, at0, rfl, _, rfl, iteD (by decide +kernel) ?_⟩
      refine ⟨_, rfl, t, _, _, _, rfl, rfl, SqT.of ht, at0, rfl, _, rfl, iteD (by decide +kernel) ?_⟩
      refine ⟨_, rfl, t, _, _, _, rfl, rfl, SqT.of ht, at0, rfl, _, rfl, iteD (by decide +kernel) ?_⟩
      refine ⟨_, rfl, t, _, _, _, rfl, rfl, SqT.of ht, at0, rfl, _, rfl, iteD (by decide +kernel) ?_⟩
      refine ⟨_, rfl, t, _, _, _, rfl, rfl, SqT.of ht, at0, rfl, _, rfl, iteD (by decide +kernel) ?_⟩
      refine ⟨_, rfl, t, _, _, _, rfl, rfl, SqT.of ht, at0, rfl, _, rfl, iteD (by decide +kernel) ?_⟩
      exact fun x dx hx hdx hne => q _ _ (new0 209 x dx hx hdx hne) ⟨x, dx, rfl, upd_same⟩
    | list k =>
      obtain ⟨t, u, rfl, ht, hu⟩ := hv
      refine ⟨_, rfl, t, _, _, _, rfl, rfl, SqT.of ht, at0, rfl, _, rfl, iteP rfl ?_⟩
      refine ⟨_, rfl, t, _, _, _, rfl, rfl, SqT.of ht, at1, hk _ rfl _ _ _ _ ⟨u, rfl, hu, fun u' H' s' hu' => ?_⟩⟩
      refine fun x dx hx hdx hne => ⟨x, dx, _, rfl, upd_same, rfl, ?_⟩
      have s2 : Same H' (upd (upd (upd H' dx (.own x)) x (.ins 375 dx [])) x (.ins 375 dx [("item", u')])) := by
        rw [upd_upd]
        refine (sameU hdx).trans (sameU ?_)
        rw [upd_ne (Ne.symm hne)]; exact hx
      exact q _ _ (s'.trans s2) ⟨x, dx, u', rfl, upd_same, hu'.same s2⟩
theorem ok_made_of (T : Tx K mg) {k : Kd} (hk : k.ok) : FnOk P w K mg base CX0 6 471 (HL.fdOf K 471) ["_law_kind"] (sp_made k) := by
  cases k with
  | list k =>
    have G : FnOk P w K mg base CX0 (0 + 3) 471 (HL.fdOf K 471) ["_law_kind"] (sp_made k) := ok_made_step T (r := 0) (fnFalse (k := 0 + 1)) (fun k' e => by rw [e] at hk; cases hk.1)
    exact (ok_made_step T (r := 2) G fun k' e vs H Q E h => by cases e; exact h).mono (by decide)
  | _ => exact (ok_made_step T (r := 0) (fnFalse (k := 0 + 1)) (fun k' e => by cases e)).mono (by decide)
end
end K7

namespace K7
open PySem L2
seal L2.PE L2.PS L2.PSs L2.PA L2.PT L2.PW L2.PG L2.PGs L2.PI L2.PO
def sp_width7 (k : Kd) : Sp := fun vs H Q _ => ∃ v, vs = [v] ∧ TK H k v ∧ Q (.int (widthK k)) H
theorem bits_half : ∀ m : Fin 256, 0 < m.val → Builtin.Int.intBits (m.val : Int) = Builtin.Int.intBits ((m.val / 2 : Nat) : Int) + 1 := by decide +kernel
theorem bits_zero : Builtin.Int.intBits 0 = 0 := by decide +kernel
theorem w_truth {k : Kd} (h : k.word = "truth") : k = .truth := by
  cases k with
  | truth => exact rfl
  | count => exact absurd (show ("count" : Str) = "truth" from h) (by decide +kernel)
  | whole => exact absurd (show ("whole" : Str) = "truth" from h) (by decide +kernel)
  | upto n => exact absurd (show ("upto" : Str) = "truth" from h) (by decide +kernel)
  | text n => exact absurd (show ("text" : Str) = "truth" from h) (by decide +kernel)
  | form z => exact absurd (show ("form" : Str) = "truth" from h) (by decide +kernel)
  | list j => exact absurd (show ("list" : Str) = "truth" from h) (by decide +kernel)
theorem w_whole {k : Kd} (h : k.word = "whole") : k = .whole := by
  cases k with
  | truth => exact absurd (show ("truth" : Str) = "whole" from h) (by decide +kernel)
  | count => exact absurd (show ("count" : Str) = "whole" from h) (by decide +kernel)
  | whole => exact rfl
  | upto n => exact absurd (show ("upto" : Str) = "whole" from h) (by decide +kernel)
  | text n => exact absurd (show ("text" : Str) = "whole" from h) (by decide +kernel)
  | form z => exact absurd (show ("form" : Str) = "whole" from h) (by decide +kernel)
  | list j => exact absurd (show ("list" : Str) = "whole" from h) (by decide +kernel)
theorem w_upto {k : Kd} (h : k.word = "upto") : ∃ n, k = .upto n := by
  cases k with
  | truth => exact absurd (show ("truth" : Str) = "upto" from h) (by decide +kernel)
  | count => exact absurd (show ("count" : Str) = "upto" from h) (by decide +kernel)
  | whole => exact absurd (show ("whole" : Str) = "upto" from h) (by decide +kernel)
  | upto n => exact ⟨_, rfl⟩
  | text n => exact absurd (show ("text" : Str) = "upto" from h) (by decide +kernel)
  | form z => exact absurd (show ("form" : Str) = "upto" from h) (by decide +kernel)
  | list j => exact absurd (show ("list" : Str) = "upto" from h) (by decide +kernel)
theorem w_text {k : Kd} (h : k.word = "text") : ∃ n, k = .text n := by
  cases k with
  | truth => exact absurd (show ("truth" : Str) = "text" from h) (by decide +kernel)
  | count => exact absurd (show ("count" : Str) = "text" from h) (by decide +kernel)
  | whole => exact absurd (show ("whole" : Str) = "text" from h) (by decide +kernel)
  | upto n => exact absurd (show ("upto" : Str) = "text" from h) (by decide +kernel)
  | text n => exact ⟨_, rfl⟩
  | form z => exact absurd (show ("form" : Str) = "text" from h) (by decide +kernel)
  | list j => exact absurd (show ("list" : Str) = "text" from h) (by decide +kernel)
theorem w_form {k : Kd} (h : k.word = "form") : ∃ z, k = .form z := by
  cases k with
  | truth => exact absurd (show ("truth" : Str) = "form" from h) (by decide +kernel)
  | count => exact absurd (show ("count" : Str) = "form" from h) (by decide +kernel)
  | whole => exact absurd (show ("whole" : Str) = "form" from h) (by decide +kernel)
  | upto n => exact absurd (show ("upto" : Str) = "form" from h) (by decide +kernel)
  | text n => exact absurd (show ("text" : Str) = "form" from h) (by decide +kernel)
  | form z => exact ⟨_, rfl⟩
  | list j => exact absurd (show ("list" : Str) = "form" from h) (by decide +kernel)
theorem w_list {k : Kd} (h : k.word = "list") : ∃ j, k = .list j := by
  cases k with
  | truth => exact absurd (show ("truth" : Str) = "list" from h) (by decide +kernel)
  | count => exact absurd (show ("count" : Str) = "list" from h) (by decide +kernel)
  | whole => exact absurd (show ("whole" : Str) = "list" from h) (by decide +kernel)
  | upto n => exact absurd (show ("upto" : Str) = "list" from h) (by decide +kernel)
  | text n => exact absurd (show ("text" : Str) = "list" from h) (by decide +kernel)
  | form z => exact absurd (show ("form" : Str) = "list" from h) (by decide +kernel)
  | list j => exact ⟨_, rfl⟩
/-- tests of a tuple's word -/
theorem TK.word {H : Hp} : ∀ {k : Kd} {v : V}, TK H k v → ∃ t xs, v = .ref t ∧ H t = some (.tup (.str k.word :: xs))
  | .upto _, _, ⟨a, e, h⟩ => ⟨a, _, e, h⟩
  | .text _, _, ⟨a, e, h⟩ => ⟨a, _, e, h⟩
  | .form _, _, ⟨a, e, h⟩ => ⟨a, _, e, h⟩
  | .list _, _, ⟨a, u, e, h, k⟩ => ⟨a, _, e, h⟩
  | .truth, _, ⟨a, e, h⟩ => ⟨a, _, e, h⟩
  | .count, _, ⟨a, e, h⟩ => ⟨a, _, e, h⟩
  | .whole, _, ⟨a, e, h⟩ => ⟨a, _, e, h⟩
section
variable {P : Program} {w : World} {K : PySem.W.Frag} {mg : Str → Option Value} {base : Heap}
theorem ok_width (T : Tx K mg) {k : Kd} (hk : k.ok) : FnOk P w K mg base CX0 1 483 (HL.fdOf K 483) ["_law_kind"] (sp_width7 k) := by
  refine T.d_width.ok sc_width (fun vs H Q E h => ?_) (fun cdv A outer s H vs Q E hr h => ?_)
  · obtain ⟨v, rfl, _⟩ := h
    rfl
  · obtain ⟨v, rfl, hv, q⟩ := h
    refine ⟨_, pss_cons (ps_if (pt_cmpR op_eq (pe_ix ix_tup (pv 0) pe_int (fun _ _ => rfl)) pe_str (nomark _)) (pss_one (ps_ret pe_int)) pss_nil)
      (pss_cons (ps_set (i := 1) sc_width.nd rfl (Or.inl rfl) pe_int)
      (pss_cut (ps_set (i := 2) sc_width.nd rfl (Or.inl rfl) (pe_ifExp (PW.pt (pw_and (pt_cmpR op_eq (pe_ix ix_tup (pv 0) pe_int (fun _ _ => rfl)) pe_str (nomark _)) (pw_and1 (pt_cmpR op_le (pe_ix ix_tup (pv 0) pe_int (fun _ _ => rfl)) pe_int (nomark _))))) (pe_ix ix_tup (pv 0) pe_int (fun _ _ => rfl)) pe_int))
      (pss_cons (ps_while PassesOwn.never (pt_cmpR op_gt (pv 2) pe_int (nomark _))
        (pss_cons (ps_set (i := 2) sc_width.nd rfl (Or.inl rfl) (pe_op op_fdiv (pv 2) pe_int))
          (pss_one (ps_set (i := 1) sc_width.nd rfl (Or.inl rfl) (pe_op op_add (pv 1) pe_int)))))
      (pss_one (ps_ret (pv 1)))))), ?_⟩
    obtain ⟨t, xs, rfl, ht⟩ := hv.word
    refine ⟨_, rfl, t, _, _, _, rfl, rfl, SqT.of ht, at0, rfl, _, rfl, ?_⟩
    by_cases h1 : k.word = "truth"
    · have e : widthK k = 1 := by rw [w_truth h1]; rfl
      rw [e] at q
      exact iteP (congrArg V.str h1) q
    refine iteD (fun z => h1 (V.str.inj z)) ?_
    refine ⟨fun σ' H' => ∃ m : Nat, m < 256 ∧ σ' = [some (.ref t), some (.int 0), some (.int m)] ∧ H = H' ∧ widthK k = (Builtin.Int.intBits (m : Int) : Nat), ?_, ?_⟩
    · refine ⟨_, rfl, t, _, _, _, rfl, rfl, SqT.of ht, at0, rfl, _, rfl, ?_⟩
      by_cases h2 : k.word = "upto"
      · obtain ⟨n, rfl⟩ := w_upto h2
        obtain ⟨t', e', ht'⟩ := hv
        obtain rfl : t = t' := V.ref.inj e'
        refine iteP rfl ⟨_, rfl, t, _, _, _, rfl, rfl, SqT.of ht', at1, _, _, rfl, rfl, _, rfl, ite2 (fun h => ?_) (fun h => ?_)⟩
        · have hn : n ≤ 255 := of_decide_eq_true h
          refine ⟨_, rfl, t, _, _, _, rfl, rfl, SqT.of ht', at1, n.toNat, ?_, ?_, rfl, ?_⟩
          · have := hk.1
            omega
          · have : ((n.toNat : Nat) : Int) = n := Int.toNat_of_nonneg (Int.le_trans (by decide) hk.1)
            rw [this]; rfl
          · have : ((n.toNat : Nat) : Int) = n := Int.toNat_of_nonneg (Int.le_trans (by decide) hk.1)
            rw [this]
            exact if_neg (by omega)
        · have hn : n > 255 := by
            have : ¬ n ≤ 255 := fun z => h (decide_eq_true z)
            omega
          exact ⟨0, by decide, rfl, rfl, by rw [show widthK (.upto n) = 0 from if_pos hn]; rfl⟩
      · refine iteD (fun z => h2 (V.str.inj z)) ?_
        refine ⟨0, by decide, rfl, rfl, ?_⟩
        cases k <;> first | rfl | exact absurd rfl h1 | exact absurd rfl h2
    · rintro σ' H' ⟨m, hm, rfl, rfl, hw⟩
      refine while_by (fun σ H' => ∃ (m : Nat) (i : Nat), m < 256 ∧ σ = [some (.ref t), some (.int i), some (.int m)] ∧ H = H' ∧ widthK k = ((i + Builtin.Int.intBits (m : Int) : Nat) : Int)) (fun σ H' => match σ with | [_, _, some (.int m)] => m.toNat | _ => 0) ⟨m, 0, hm, rfl, rfl, by rw [hw, Nat.zero_add]⟩ ?_ ?_
      · rintro σ H' ⟨m, i, hm, rfl, rfl, e⟩
        refine ⟨_, rfl, _, _, rfl, rfl, _, rfl, ite2 (fun h => ?_) (fun h => ?_)⟩
        · have hp : 0 < m := by have := of_decide_eq_true h; omega
          refine ⟨_, rfl, _, _, rfl, rfl, ⟨by decide, by decide⟩, ?_⟩
          refine ⟨_, rfl, _, _, rfl, rfl, ⟨⟨m / 2, i + 1, by omega, ?_, rfl, ?_⟩, ?_⟩⟩
          · have e1 : (m : Int) / 2 = ((m / 2 : Nat) : Int) := by omega
            show [some (V.ref t), some (V.int ((i : Int) + 1)), some (V.int ((m : Int) / 2))] = _
            rw [e1]; rfl
          · have eb : Builtin.Int.intBits (m : Int) = Builtin.Int.intBits ((m / 2 : Nat) : Int) + 1 := bits_half ⟨m, hm⟩ hp
            rw [e, eb]
            congr 1
            omega
          · show ((m : Int) / 2).toNat < (m : Int).toNat
            omega
        · have hz : m = 0 := by
            have : ¬ (m : Int) > 0 := fun z => h (decide_eq_true z)
            omega
          subst hz
          rw [e, show Builtin.Int.intBits ((0 : Nat) : Int) = 0 from bits_zero, Nat.add_zero] at q
          exact ⟨_, rfl, q⟩
      · rintro σ H Q Q' hQ ⟨x, e, i, j, h1, h2, c, e2, q⟩
        exact ⟨x, e, i, j, h1, h2, c, e2, hQ _ _ q⟩
end
end K7

namespace K7
open PySem L2
seal L2.PE L2.PS L2.PSs L2.PA L2.PT L2.PW L2.PG L2.PGs L2.PI L2.PO
def sp_held (k : Kd) : Sp := fun vs H Q _ => ∃ v u, vs = [v, u] ∧ IsK H k v ∧ TK H k u ∧ ∀ H', Same H H' → Q (.bl true) H'
theorem in_ut (k : Kd) : inV (.str k.word) [.str "upto", .str "text"] = (match k with | .upto _ => true | .text _ => true | _ => false) := by
  cases k with
  | truth => exact (by decide +kernel : inV (.str "truth") [.str "upto", .str "text"] = false)
  | count => exact (by decide +kernel : inV (.str "count") [.str "upto", .str "text"] = false)
  | whole => exact (by decide +kernel : inV (.str "whole") [.str "upto", .str "text"] = false)
  | upto n => exact (by decide +kernel : inV (.str "upto") [.str "upto", .str "text"] = true)
  | text n => exact (by decide +kernel : inV (.str "text") [.str "upto", .str "text"] = true)
  | form z => exact (by decide +kernel : inV (.str "form") [.str "upto", .str "text"] = false)
  | list j => exact (by decide +kernel : inV (.str "list") [.str "upto", .str "text"] = false)
theorem flat_ut : [V.str "upto", .str "text"].all flatV = true := by decide +kernel
section
variable {P : Program} {w : World} {K : PySem.W.Frag} {mg : Str → Option Value} {base : Heap}
theorem ok_held_step (T : Tx K mg) {r : Nat} {spI : Sp} (G : FnOk P w K mg base CX0 (r + 1) 507 (HL.fdOf K 507) ["_law_one", "_law_kind"] spI) {k : Kd} (hk : ∀ k', k = .list k' → ∀ vs H Q E, sp_held k' vs H Q E → spI vs H Q E) :
    FnOk P w K mg base CX0 (r + 3) 507 (HL.fdOf K 507) ["_law_one", "_law_kind"] (sp_held k) := by
  refine T.d_held.ok sc_held (fun vs H Q E h => ?_) (fun cdv A outer s H vs Q E hr h => ?_)
  · obtain ⟨v, u, rfl, _⟩ := h
    rfl
  · obtain ⟨v, u, rfl, hv, hu, q⟩ := h
    refine ⟨_, pss_cons (ps_if (pt_cmpR op_eq (pe_ix ix_tup (pv 1) pe_int (fun _ _ => rfl)) pe_str (nomark _))
        (pss_one (ps_ret (pe_and (pe_call G (hr.mono (by omega)) rfl T.m_held T.k_held T.b_held .nil pass0 (pa_cons (pe_fld (pv 0) rfl) (pa_cons (pe_ix ix_tup (pv 1) pe_int (fun _ _ => rfl)) pa_nil))) (pe_one (pe_callB (call_isinstK K rfl) rfl T.y_isinstance bt_isinstance (pa_cons (pv 0) (pa_cons (pcl T.mc_List) pa_nil)))))))
        pss_nil)
      (pss_cons (ps_if (pt_cmpR op_in_seq (pe_ix ix_tup (pv 1) pe_int (fun _ _ => rfl)) (pe_tup (pa_cons pe_str (pa_cons pe_str pa_nil))) rfl)
        (pss_one (ps_ret (pe_cmpR op_eq (pe_fld (pv 0) rfl) (pe_ix ix_tup (pv 1) pe_int (fun _ _ => rfl)) (nomark _))))
        pss_nil)
      (pss_one (ps_ret (pe_or (pe_cmpR op_ne (pe_ix ix_tup (pv 1) pe_int (fun _ _ => rfl)) pe_str (nomark _)) (pe_one (pe_cmpR op_eq (pe_fld (pv 0) rfl) (pe_ix ix_tup (pv 1) pe_int (fun _ _ => rfl)) (nomark _))))))), ?_⟩
    obtain ⟨t, xs, rfl, ht⟩ := hu.word
    refine ⟨_, rfl, t, _, _, _, rfl, rfl, SqT.of ht, at0, rfl, _, rfl, ?_⟩
    by_cases h1 : k.word = "list"
    · obtain ⟨j, rfl⟩ := w_list h1
      obtain ⟨t', x', e', ht', hx'⟩ := hu
      obtain rfl : t = t' := V.ref.inj e'
      obtain ⟨a, dx, y, rfl, ha, hy⟩ := hv
      refine iteP rfl ?_
      refine ⟨_, rfl, a, _, dx, _, _, rfl, ha, T.cl_List, T.o_List_item, rfl, _, rfl, t, _, _, _, rfl, rfl, SqT.of ht', at1, hk _ rfl _ _ _ _ ⟨y, x', rfl, hy, hx', fun H' s' => ⟨_, rfl, iteT ?_⟩⟩⟩
      exact ⟨_, rfl, .ref a, .ref 375, _, _, _, rfl, T.ty_List (s' _ _ ha), rfl, T.q_List_List, q H' s'⟩
    refine iteD (fun z => h1 (V.str.inj z)) ?_
    refine ⟨_, rfl, t, _, _, _, rfl, rfl, SqT.of ht, at0, by show 2 ≤ sizeLine; decide, fun p hp => ?_⟩
    have s1 : Same H (upd H p (.tup [.str "upto", .str "text"])) := sameU hp
    refine ⟨p, _, rfl, .inr (SqT.of upd_same), rfl, flat_ut, _, rfl, ?_⟩
    rw [in_ut k]
    cases k with
    | list j => exact absurd rfl h1
    | upto n =>
      obtain ⟨t', e', ht'⟩ := hu
      obtain rfl : t = t' := V.ref.inj e'
      obtain ⟨a, dx, rfl, ha⟩ := hv
      refine iteT ⟨_, rfl, a, _, dx, _, _, rfl, s1 _ _ ha, T.cl_Upto, T.o_Upto_most, rfl, _, rfl, t, _, _, _, rfl, rfl, SqT.of (s1 _ _ ht'), at1, rfl, ?_⟩
      rw [decide_eq_true rfl]
      exact q _ s1
    | text n =>
      obtain ⟨t', e', ht'⟩ := hu
      obtain rfl : t = t' := V.ref.inj e'
      obtain ⟨a, dx, rfl, ha⟩ := hv
      refine iteT ⟨_, rfl, a, _, dx, _, _, rfl, s1 _ _ ha, T.cl_Text, T.o_Text_most, rfl, _, rfl, t, _, _, _, rfl, rfl, SqT.of (s1 _ _ ht'), at1, rfl, ?_⟩
      rw [decide_eq_true rfl]
      exact q _ s1
    | form z =>
      obtain ⟨t', e', ht'⟩ := hu
      obtain rfl : t = t' := V.ref.inj e'
      obtain ⟨a, dx, rfl, ha⟩ := hv
      refine iteF ⟨_, rfl, t, _, _, _, rfl, rfl, SqT.of (s1 _ _ ht'), at0, rfl, _, rfl, ?_⟩
      rw [show (!decide (V.str "form" = V.str "form")) = false by rw [decide_eq_true rfl]; rfl]
      refine iteF ⟨_, rfl, a, _, dx, _, _, rfl, s1 _ _ ha, T.cl_Nested, T.o_Nested_name, rfl, _, rfl, t, _, _, _, rfl, rfl, SqT.of (s1 _ _ ht'), at1, rfl, ?_⟩
      rw [decide_eq_true rfl]
      exact q _ s1
    | truth =>
      refine iteF ⟨_, rfl, t, _, _, _, rfl, rfl, SqT.of (s1 _ _ ht), at0, rfl, _, rfl, ?_⟩
      exact iteT (q _ s1)
    | count =>
      refine iteF ⟨_, rfl, t, _, _, _, rfl, rfl, SqT.of (s1 _ _ ht), at0, rfl, _, rfl, ?_⟩
      exact iteT (q _ s1)
    | whole =>
      refine iteF ⟨_, rfl, t, _, _, _, rfl, rfl, SqT.of (s1 _ _ ht), at0, rfl, _, rfl, ?_⟩
      exact iteT (q _ s1)
theorem ok_held (T : Tx K mg) {k : Kd} (hk : k.ok) : FnOk P w K mg base CX0 6 507 (HL.fdOf K 507) ["_law_one", "_law_kind"] (sp_held k) := by
  cases k with
  | list k =>
    have G : FnOk P w K mg base CX0 (0 + 3) 507 (HL.fdOf K 507) ["_law_one", "_law_kind"] (sp_held k) := ok_held_step T (r := 0) (fnFalse (k := 0 + 1)) (fun k' e => by rw [e] at hk; cases hk.1)
    exact (ok_held_step T (r := 2) G fun k' e vs H Q E h => by cases e; exact h).mono (by decide)
  | _ => exact (ok_held_step T (r := 0) (fnFalse (k := 0 + 1)) (fun k' e => by cases e)).mono (by decide)
end
end K7

namespace K7
open PySem L2
seal L2.PE L2.PS L2.PSs L2.PA L2.PT L2.PW L2.PG L2.PGs L2.PI L2.PO
theorem Wk.tup {K : PySem.W.Frag} {H1 : Hp} {l : Addr} {xs : List V} (h : SqT K H1 l xs) (hs : ∀ H, Same H1 H → SqT K H l xs) : Wk (Itt K l) H1 xs where
  go := fun H i s hi => ⟨_, xs[i], hs H s, List.getElem?_eq_getElem hi⟩
  stop := fun H i s hi => ⟨_, hs H s, by omega⟩
  yld := fun H i x H' s hi y => ⟨y.1, y.2 _ (hs H s)⟩
/-- the texts of a tuple's other parts -/
def Prt (ys : List V) (zs : List Str) : Prop := ys.length = zs.length ∧ ∀ (j : Nat) y, ys[j]? = some y → (∃ i : Int, y = .int i ∧ 0 ≤ i ∧ i < 2 ^ 256 ∧ zs[j]? = some (toString i)) ∨ ∃ z, y = .str z ∧ zs[j]? = some z
theorem range_strs (zs : List Str) : (List.range zs.length).map (fun j => V.str (zs.getD j "")) = zs.map V.str := by
  apply List.ext_getElem?
  intro i
  rw [List.getElem?_map, List.getElem?_map]
  by_cases hi : i < zs.length
  · rw [List.getElem?_range hi, List.getElem?_eq_getElem hi]
    simp [List.getD, hi]
  · rw [List.getElem?_eq_none (by rw [List.length_range]; omega), List.getElem?_eq_none (by omega)]
    rfl
def sp_lwords (k : Kd) : Sp := fun vs H Q _ => ∃ v, vs = [v] ∧ TK H k v ∧ told H Q ((wordsK k).map V.str)
theorem ndPart : ((["_law_part"] : List Str) ++ ([] : List Str)).Nodup := by decide +kernel
theorem cut1 (x : V) (xs : List V) : cutV (x :: xs) (some 1) none = xs := by
  unfold cutV HT.sIx
  simp
section
variable {P : Program} {w : World} {K : PySem.W.Frag} {mg : Str → Option Value} {base : Heap}
theorem ok_words_step (T : Tx K mg) {r : Nat} {spI : Sp} (G : FnOk P w K mg base CX0 (r + 1) 476 (HL.fdOf K 476) ["_law_kind"] spI) {k : Kd} (hko : k.ok) (hk : ∀ k', k = .list k' → ∀ vs H Q E, sp_lwords k' vs H Q E → spI vs H Q E) :
    FnOk P w K mg base CX0 (r + 3) 476 (HL.fdOf K 476) ["_law_kind"] (sp_lwords k) := by
  refine T.d_words.ok sc_words (fun vs H Q E h => ?_) (fun cdv A outer s H vs Q E hr h => ?_)
  · obtain ⟨v, rfl, _⟩ := h
    rfl
  · obtain ⟨v, rfl, hv, q⟩ := h
    refine ⟨_, pss_cons (ps_if (pt_cmpR op_eq (pe_ix ix_tup (pv 0) pe_int (fun _ _ => rfl)) pe_str (nomark _))
        (pss_one (ps_ret (pe_op op_cat (pe_lst (pa_cons pe_str pa_nil)) (pe_call G (hr.mono (by omega)) rfl T.m_words T.k_words T.b_words .nil pass0 (pa_cons (pe_ix ix_tup (pv 0) pe_int (fun _ _ => rfl)) pa_nil)))))
        pss_nil)
      (pss_cut (ps_if (PW.pt (pw_and (pt_cmpR op_eq (pe_ix ix_tup (pv 0) pe_int (fun _ _ => rfl)) pe_str (nomark _)) (pw_and1 (pt_cmpR op_eq (pe_ix ix_tup (pv 0) pe_int (fun _ _ => rfl)) pe_int (nomark _)))))
        (pss_one (ps_ret (pe_lst (pa_cons pe_str pa_nil))))
        pss_nil)
      (pss_one (ps_ret (pe_op op_cat (pe_lst (pa_cons (pe_ix ix_tup (pv 0) pe_int (fun _ _ => rfl)) pa_nil)) (pe_comp (ts := ["_law_part"]) (xs := []) (js := []) rfl ⟨rfl, rfl, by decide +kernel, by decide +kernel, freeIn rfl⟩ .nil (by decide +kernel) (pi_tup (pe_slice sl_tup (pv 0) (po_some pe_int) po_none))
          (fun C s₀ H₀ fp => pg_name (X := cxC _ _ _ C s₀ H₀ fp) (i := 0) ndPart rfl (Or.inl rfl) (Or.inr rfl))
          (fun C s₀ H₀ fp => pif_nil (X := cxC _ _ _ C s₀ H₀ fp))
          (fun C s₀ H₀ fp => pe_callTy (X := cxC _ _ _ C s₀ H₀ fp) (CallR.or call_str_int call_str_str) rfl T.y_str bt_str (pa_cons (pv 0) pa_nil))))))), ?_⟩
    obtain ⟨t, ys, rfl, ht⟩ := hv.word
    refine ⟨_, rfl, t, _, _, _, rfl, rfl, SqT.of ht, at0, rfl, _, rfl, ?_⟩
    by_cases h1 : k.word = "list"
    · obtain ⟨j, rfl⟩ := w_list h1
      obtain ⟨t', x', e', ht', hx'⟩ := hv
      obtain rfl : t = t' := V.ref.inj e'
      refine iteP rfl ⟨by show 1 ≤ sizeLine; decide, fun l hl => ?_⟩
      have s1 : Same H (upd H l (.lst [.str "list"])) := sameU hl
      refine ⟨_, rfl, t, _, _, _, rfl, rfl, SqT.of (s1 _ _ ht'), at1, hk _ rfl _ _ _ _ ⟨x', rfl, hx'.same s1, fun l2 H2 h2 s2 e2 => ?_⟩⟩
      refine ⟨l, l2, _, _, rfl, rfl, s2 _ _ upd_same, e2, ?_, fun p hp => ?_⟩
      · rw [List.length_map]
        have := words_few j hko.1
        exact Nat.le_trans (Nat.add_le_add_left this 1) (by decide)
      · have hp0 : H p = none := by
          cases z : H p with
          | none => rfl
          | some o => rw [s2 _ _ (s1 _ _ z)] at hp; cases hp
        exact q p _ hp0 ((s1.trans s2).trans (sameU hp)) upd_same
    refine iteD (fun z => h1 (V.str.inj z)) ?_
    refine ⟨fun σ' H' => σ' = [some (.ref t)] ∧ H = H' ∧ ∃ zs : List Str, zs.length ≤ 2 ∧ Prt ys zs ∧ wordsK k = k.word :: zs, ?_, ?_⟩
    · refine ⟨_, rfl, t, _, _, _, rfl, rfl, SqT.of ht, at0, rfl, _, rfl, ?_⟩
      by_cases h2 : k.word = "text"
      · obtain ⟨n, rfl⟩ := w_text h2
        obtain ⟨t', e', ht'⟩ := hv
        obtain rfl : t = t' := V.ref.inj e'
        rw [ht] at ht'
        obtain rfl : ys = [.int n] := by cases ht'; rfl
        refine iteP rfl ⟨_, rfl, t, _, _, _, rfl, rfl, SqT.of ht, at1, rfl, _, rfl, ite2 (fun h => ?_) (fun h => ?_)⟩
        · have e : n = 100 := V.int.inj (of_decide_eq_true h)
          refine ⟨by show 1 ≤ sizeLine; decide, fun l hl => q l _ hl (sameU hl) ?_⟩
          rw [upd_same]
          unfold wordsK
          rw [if_pos e]
          rfl
        · have e : ¬ n = 100 := fun z => h (decide_eq_true (congrArg V.int z))
          refine ⟨rfl, rfl, [toString n], Nat.le_succ 1, ⟨rfl, fun j y hy => ?_⟩, ?_⟩
          · match j, hy with
            | 0, hy => cases hy; exact .inl ⟨n, rfl, Int.le_trans (by decide) hko.1, Int.lt_of_le_of_lt hko.2 (by decide), rfl⟩
            | j + 1, hy => simp at hy
          · unfold wordsK
            rw [if_neg e]
            rfl
      · refine iteD (fun z => h2 (V.str.inj z)) ⟨rfl, rfl, ?_⟩
        cases k with
        | list j => exact absurd rfl h1
        | text n => exact absurd rfl h2
        | upto n =>
          obtain ⟨t', e', ht'⟩ := hv
          obtain rfl : t = t' := V.ref.inj e'
          rw [ht] at ht'
          obtain rfl : ys = [.int n] := by cases ht'; rfl
          refine ⟨[toString n], Nat.le_succ 1, ⟨rfl, fun j y hy => ?_⟩, rfl⟩
          match j, hy with
          | 0, hy => cases hy; exact .inl ⟨n, rfl, Int.le_trans (by decide) hko.1, hko.2, rfl⟩
          | j + 1, hy => simp at hy
        | form z =>
          obtain ⟨t', e', ht'⟩ := hv
          obtain rfl : t = t' := V.ref.inj e'
          rw [ht] at ht'
          obtain rfl : ys = [.str z] := by cases ht'; rfl
          refine ⟨[z], Nat.le_succ 1, ⟨rfl, fun j y hy => ?_⟩, rfl⟩
          match j, hy with
          | 0, hy => cases hy; exact .inr ⟨z, rfl, rfl⟩
          | j + 1, hy => simp at hy
        | truth =>
          obtain ⟨t', e', ht'⟩ := hv
          obtain rfl : t = t' := V.ref.inj e'
          rw [ht] at ht'
          obtain rfl : ys = [] := by cases ht'; rfl
          exact ⟨[], by decide, ⟨rfl, fun j y hy => by simp at hy⟩, rfl⟩
        | count =>
          obtain ⟨t', e', ht'⟩ := hv
          obtain rfl : t = t' := V.ref.inj e'
          rw [ht] at ht'
          obtain rfl : ys = [] := by cases ht'; rfl
          exact ⟨[], by decide, ⟨rfl, fun j y hy => by simp at hy⟩, rfl⟩
        | whole =>
          obtain ⟨t', e', ht'⟩ := hv
          obtain rfl : t = t' := V.ref.inj e'
          rw [ht] at ht'
          obtain rfl : ys = [] := by cases ht'; rfl
          exact ⟨[], by decide, ⟨rfl, fun j y hy => by simp at hy⟩, rfl⟩
    · rintro σ' H' ⟨rfl, rfl, zs, hz, hP, hw⟩
      refine ⟨_, rfl, t, _, _, _, rfl, rfl, SqT.of ht, at0, by show 1 ≤ sizeLine; decide, fun l hl => ?_⟩
      have s1 : Same H (upd H l (.lst [.str k.word])) := sameU hl
      refine ⟨_, rfl, _, rfl, t, _, rfl, SqT.of (s1 _ _ ht), ?_, fun p hp => ?_⟩
      · intro z
        have z1 := z.1
        unfold HT.sIx at z1
        simp at z1
      rw [cut1]
      have s2 := s1.trans (sameU (u := .tup ys) hp)
      refine ⟨p, rfl, ⟨_, SqT.of upd_same⟩, comp_growI (Wk.tup (SqT.of upd_same) fun H3 s3 => SqT.of (s3 _ _ upd_same)) (by rw [hP.1]; exact Nat.le_trans hz (by decide)) (fun j => .str (zs.getD j "")) (fun j y hy H3 R s3 hR => ?_) (fun D H3 hD s3 e3 => ?_)⟩
      · rcases hP.2 j y hy with ⟨i, rfl, h0, hi, hj⟩ | ⟨z, rfl, hj⟩
        · refine ⟨Sub.set rfl, _, rfl, .inl ⟨i, rfl, log_small h0 hi, ?_⟩⟩
          have := hR H3 fun _ _ e => e
          rw [show zs.getD j "" = toString i by simp [List.getD, hj]] at this
          exact this
        · refine ⟨Sub.set rfl, _, rfl, .inr ⟨z, rfl, ?_⟩⟩
          have := hR H3 fun _ _ e => e
          rw [show zs.getD j "" = z by simp [List.getD, hj]] at this
          exact this
      · rw [hP.1, range_strs] at e3
        refine ⟨l, D, _, _, rfl, rfl, s3 _ _ (sameU (u := .tup ys) hp _ _ upd_same), e3, ?_, fun p2 hp2 => ?_⟩
        · rw [List.length_map]
          exact Nat.le_trans (Nat.add_le_add_left hz 1) (by decide)
        · have hp0 : H p2 = none := by
            cases z : H p2 with
            | none => rfl
            | some o => rw [s3 _ _ (s2 _ _ z)] at hp2; cases hp2
          refine q p2 _ hp0 ((s2.trans s3).trans (sameU hp2)) ?_
          rw [upd_same, hw]
          rfl
theorem ok_words (T : Tx K mg) {k : Kd} (hk : k.ok) : FnOk P w K mg base CX0 6 476 (HL.fdOf K 476) ["_law_kind"] (sp_lwords k) := by
  cases k with
  | list k =>
    have G : FnOk P w K mg base CX0 (0 + 3) 476 (HL.fdOf K 476) ["_law_kind"] (sp_lwords k) := ok_words_step T (r := 0) (fnFalse (k := 0 + 1)) hk.2 (fun k' e => by rw [e] at hk; cases hk.1)
    exact (ok_words_step T (r := 2) G hk fun k' e vs H Q E h => by cases e; exact h).mono (by decide)
  | _ => exact (ok_words_step T (r := 0) (fnFalse (k := 0 + 1)) hk (fun k' e => by cases e)).mono (by decide)
end
end K7

namespace K7
open PySem L2
seal L2.PE L2.PS L2.PSs L2.PA L2.PT L2.PW L2.PG L2.PGs L2.PI L2.PO
abbrev HF : Int := 57896044618658097711785492504343953926634992332820282019728792003956564819968
theorem half_eq : ((2 : Int) ^ 64) ^ 3 * 2 ^ 63 = HF := by decide +kernel
def sp_lsuits (k : Kd) : Sp := fun vs H Q _ => ∃ v x d, vs = [v, x] ∧ TK H k v ∧ Th H d x ∧ ∀ H', Same H H' → Q (.bl (suitsK k d)) H'
theorem ndSign2 : ((["_law_sign"] : List Str) ++ ([] : List Str)).Nodup := by decide +kernel
theorem ndThing2 : ((["_law_thing"] : List Str) ++ (["_law_kind"] : List Str)).Nodup := by decide +kernel
/-- a sign that the law lets not by -/
def badSign : V → Bool
  | .str z => decide (((z.cps.getD 0 0 : Nat) : Int) < 32) || decide (((z.cps.getD 0 0 : Nat) : Int) > 126)
  | _ => false
theorem badSign_of (c : Nat) (h : c ≠ 37) : badSign (.str ⟨#[c]⟩) = !signOk c := by
  show (decide ((c : Int) < 32) || decide ((c : Int) > 126)) = _
  unfold signOk
  by_cases h1 : (c : Int) < 32
  · have : ¬ (32 : Int) ≤ c := by omega
    simp [h1, this]
  · by_cases h2 : (c : Int) > 126
    · have : ¬ (c : Int) ≤ 126 := by omega
      simp [h2, this]
    · have e1 : (32 : Int) ≤ c := by omega
      have e2 : (c : Int) ≤ 126 := by omega
      have e3 : ¬ (c : Int) = 37 := by omega
      simp [h1, h2, e1, e2, e3]
theorem filter_empty {α : Type} (l : List α) (p q : α → Bool) (h : ∀ x ∈ l, p x = !q x) : (l.filter p).isEmpty = l.all q := by
  induction l with
  | nil => rfl
  | cons x l ih =>
    rw [List.all_cons, ← ih fun y hy => h y (List.mem_cons_of_mem _ hy), List.filter_cons, h x (List.mem_cons_self ..)]
    cases q x <;> rfl
theorem signs_empty (z : Str) (h : 37 ∉ z.cps.toList) : ((sgV z).filter badSign).isEmpty = z.cps.toList.all signOk := by
  rw [sgV, List.filter_map, List.isEmpty_map]
  exact filter_empty _ _ _ fun c hc => badSign_of c fun e => h (e ▸ hc)
theorem range_empty {α : Type} (l : List α) (q : α → Bool) (p : Nat → Bool) (h : ∀ i d, l[i]? = some d → p i = !q d) : ((List.range l.length).filter p).isEmpty = l.all q := by
  rw [filter_empty (List.range l.length) p (fun i => !p i) fun i _ => (Bool.not_not _).symm]
  have := range_all l q (fun i => !p i) fun i d hd => by rw [h i d hd, Bool.not_not]
  rw [← this, List.all_map]
  rfl
theorem ix_tupK {X : Cx} (K : PySem.W.Frag) (hK : X.K = K) : IxR X (rIxT K) := by
  subst hK
  exact ix_tup
section
variable {P : Program} {w : World} {K : PySem.W.Frag} {mg : Str → Option Value} {base : Heap}
theorem ok_suits_step (T : Tx K mg) {r : Nat} {spI : Sp} (G : FnOk P w K mg base CX0 (r + 1) 488 (HL.fdOf K 488) ["_law_kind", "_law_value"] spI) {k : Kd} (hk : ∀ k', k = .list k' → ∀ vs H Q E, sp_lsuits k' vs H Q E → spI vs H Q E) :
    FnOk P w K mg base CX0 (r + 3) 488 (HL.fdOf K 488) ["_law_kind", "_law_value"] (sp_lsuits k) := by
  refine T.d_suits.ok sc_suits (fun vs H Q E h => ?_) (fun cdv A outer s H vs Q E hr h => ?_)
  · obtain ⟨v, x, d, rfl, _⟩ := h
    rfl
  · obtain ⟨v, x, d, rfl, hv, hx, q⟩ := h
    have hu := hr.units
    refine ⟨_, pss_cons (ps_if (pt_cmpR op_eq (pe_ix ix_tup (pv 0) pe_int (fun _ _ => rfl)) pe_str (nomark _)) (pss_one (ps_ret pe_bl)) pss_nil)
      (pss_cons (ps_if (pt_cmpR op_eq (pe_ix ix_tup (pv 0) pe_int (fun _ _ => rfl)) pe_str (nomark _))
        (pss_one (ps_ret (pe_callB (call_isinstK K rfl) rfl T.y_isinstance bt_isinstance (pa_cons (pv 1) (pa_cons (pty T.y_bool bt_bool) pa_nil))))) pss_nil)
      (pss_cons (ps_if (pt_cmpR op_eq (pe_ix ix_tup (pv 0) pe_int (fun _ _ => rfl)) pe_str (nomark _))
        (pss_cons (ps_if (PW.pt (pw_or (pt_not (pt_val (pe_callB (call_isinstK K rfl) rfl T.y_isinstance bt_isinstance (pa_cons (pv 1) (pa_cons (pty T.y_str bt_str) pa_nil))))) (pw_or1 (pt_cmpR op_gt (pe_callB call_len_str (by rfl) T.y_len bt_len (pa_cons (pv 1) pa_nil)) (pe_ix ix_tup (pv 0) pe_int (fun _ _ => rfl)) (nomark _)))))
            (pss_one (ps_ret pe_bl)) pss_nil)
          (pss_one (ps_ret (pe_cmpR (op_eqNil hu) (pe_comp (ts := ["_law_sign"]) (xs := []) (js := []) rfl ⟨rfl, rfl, by decide +kernel, by decide +kernel, freeIn rfl⟩ .nil (by decide +kernel) (pi_str (pv 1))
          (fun C s₀ H₀ fp => pg_name (X := cxC _ _ _ C s₀ H₀ fp) (i := 0) ndSign2 rfl (Or.inl rfl) (Or.inr rfl))
          (fun C s₀ H₀ fp => pif_one (X := cxC _ _ _ C s₀ H₀ fp) (PW.pt (pw_or (pt_cmpR op_lt (pe_callB call_ord rfl T.y_ord bt_ord (pa_cons (pv 0) pa_nil)) pe_int (nomark _)) (pw_or1 (pt_cmpR op_gt (pe_callB call_ord rfl T.y_ord bt_ord (pa_cons (pv 0) pa_nil)) pe_int (nomark _))))))
          (fun C s₀ H₀ fp => pv (X := cxC _ _ _ C s₀ H₀ fp) 0)) (pe_lst pa_nil) (nomark _)))))
        pss_nil)
      (pss_cons (ps_if (pt_cmpR op_eq (pe_ix ix_tup (pv 0) pe_int (fun _ _ => rfl)) pe_str (nomark _))
        (pss_cons (ps_if (PW.pt (pw_or (pt_not (pt_val (pe_callB (call_isinstK K rfl) rfl T.y_isinstance bt_isinstance (pa_cons (pv 1) (pa_cons (pty T.y_list bt_list) pa_nil))))) (pw_or1 (pt_cmpR op_gt (pe_callB call_len_seq (by rfl) T.y_len bt_len (pa_cons (pv 1) pa_nil)) pe_int (nomark _)))))
            (pss_one (ps_ret pe_bl)) pss_nil)
          (pss_one (ps_ret (pe_cmpR (op_eqNil hu) (pe_comp (ts := ["_law_thing"]) (xs := ["_law_kind"]) (js := [0]) rfl ⟨rfl, rfl, by decide +kernel, by decide +kernel, freeIn rfl⟩ (.cons rfl (.inl rfl) rfl .nil) (by decide +kernel) (pi_list (pv 1))
          (fun C s₀ H₀ fp => pg_name (X := cxC _ _ _ C s₀ H₀ fp) (i := 0) ndThing2 rfl (Or.inl rfl) (Or.inr rfl))
          (fun C s₀ H₀ fp => pif_one (X := cxC _ _ _ C s₀ H₀ fp) (pt_not (pt_val (pe_call (X := cxC _ _ _ C s₀ H₀ fp) G (hr.mono (by omega)) rfl T.m_suits T.k_suits T.b_suits .nil pass0 (pa_cons (pe_ix (ix_tupK (X := cxC _ _ _ C s₀ H₀ fp) K rfl) (pv 1) pe_int (fun _ _ => rfl)) (pa_cons (pv 0) pa_nil))))))
          (fun C s₀ H₀ fp => pv (X := cxC _ _ _ C s₀ H₀ fp) 0)) (pe_lst pa_nil) (nomark _)))))
        pss_nil)
      (pss_cons (ps_if (PW.pt (pw_or (pt_not (pt_val (pe_callB (call_isinstK K rfl) rfl T.y_isinstance bt_isinstance (pa_cons (pv 1) (pa_cons (pty T.y_int bt_int) pa_nil))))) (pw_or1 (pt_val (pe_callB (call_isinstK K rfl) rfl T.y_isinstance bt_isinstance (pa_cons (pv 1) (pa_cons (pty T.y_bool bt_bool) pa_nil)))))))
        (pss_one (ps_ret pe_bl)) pss_nil)
      (pss_cut (ps_set (i := 2) sc_suits.nd rfl (Or.inl rfl) (pe_op op_mul (pe_op op_powB (pe_op op_powB pe_int pe_int) pe_int) (pe_op op_powB pe_int pe_int)))
      (pss_cons (ps_if (pt_cmpR op_eq (pe_ix ix_tup (pv 0) pe_int (fun _ _ => rfl)) pe_str (nomark _))
        (pss_one (ps_ret (pe_chain op_le op_lt (pe_un un_neg (pv 2)) (pv 1) (pv 2)))) pss_nil)
      (pss_one (ps_ret (pe_chain op_le op_le pe_int (pv 1) (pe_ifExp (pt_cmpR op_eq (pe_ix ix_tup (pv 0) pe_int (fun _ _ => rfl)) pe_str (nomark _)) (pe_ix ix_tup (pv 0) pe_int (fun _ _ => rfl)) (pe_op op_sub (pe_op op_mul pe_int (pv 2)) pe_int))))))))))), ?_⟩
    obtain ⟨t, ys, rfl, ht⟩ := hv.word
    have q0 := q H fun _ _ e => e
    refine ⟨_, rfl, t, _, _, _, rfl, rfl, SqT.of ht, at0, rfl, _, rfl, ?_⟩
    by_cases h1 : k.word = "form"
    · obtain ⟨z, rfl⟩ := w_form h1
      exact iteP rfl q0
    refine iteD (fun z => h1 (V.str.inj z)) ⟨_, rfl, t, _, _, _, rfl, rfl, SqT.of ht, at0, rfl, _, rfl, ?_⟩
    by_cases h2 : k.word = "truth"
    · obtain rfl := w_truth h2
      exact iteP rfl ⟨_, rfl, x, .ty "bool", _, _, _, rfl, hx.ty, rfl, kitB T d, q0⟩
    refine iteD (fun z => h2 (V.str.inj z)) ⟨_, rfl, t, _, _, _, rfl, rfl, SqT.of ht, at0, rfl, _, rfl, ?_⟩
    by_cases h3 : k.word = "text"
    · obtain ⟨n, rfl⟩ := w_text h3
      obtain ⟨t', e', ht'⟩ := hv
      obtain rfl : t = t' := V.ref.inj e'
      refine iteP rfl ⟨_, rfl, x, .ty "str", _, _, _, rfl, hx.ty, rfl, kitS T d, _, rfl, ?_⟩
      cases d with
      | str z =>
        obtain ⟨rfl, hz, hp⟩ := hx
        refine iteF ⟨_, rfl, z, rfl, Nat.le_trans hz (by decide), _, rfl, t, _, _, _, rfl, rfl, SqT.of ht', at1, _, _, rfl, rfl, _, rfl, ite2 (fun h => ?_) (fun h => ?_)⟩
        · have e : suitsK (.text n) (.str z) = false := by
            show (!decide ((z.length : Int) > n) && _) = false
            rw [h]; rfl
          rw [e] at q0
          exact q0
        · have h' : decide ((z.length : Int) > n) = false := by simpa using h
          have e : suitsK (.text n) (.str z) = ((sgV z).filter badSign).isEmpty := by
            show (!decide ((z.length : Int) > n) && _) = _
            rw [h', signs_empty z hp]; rfl
          rw [e] at q
          refine ⟨_, rfl, z, rfl, comp_gen (Wk.str z) (by rw [sgV_len]; exact hz) badSign id (fun y hy H2 R s2 hT hF => ?_) (fun D H2 hD s2 e2 => ?_)⟩
          · obtain ⟨c, hc, rfl⟩ := List.mem_map.mp hy
            refine ⟨Sub.set rfl, _, rfl, _, rfl, rfl, _, _, rfl, rfl, _, rfl, ?_⟩
            have eb : badSign (.str ⟨#[c]⟩) = (decide ((c : Int) < 32) || decide ((c : Int) > 126)) := rfl
            by_cases a : (c : Int) < 32
            · refine iteP a (iteT ?_)
              exact ⟨_, rfl, hT H2 (fun _ _ e => e) (by rw [eb, decide_eq_true a]; rfl)⟩
            · refine iteD a ⟨_, rfl, _, rfl, rfl, _, _, rfl, rfl, _, rfl, ?_⟩
              by_cases b : (c : Int) > 126
              · rw [show decide (((⟨#[c]⟩ : Str).cps.getD 0 0 : Nat) > (126 : Int)) = true from decide_eq_true b]
                exact iteT ⟨_, rfl, hT H2 (fun _ _ e => e) (by rw [eb, decide_eq_true b, Bool.or_true])⟩
              · rw [show decide (((⟨#[c]⟩ : Str).cps.getD 0 0 : Nat) > (126 : Int)) = false from decide_eq_false b]
                exact iteF (hF H2 (fun _ _ e => e) (by rw [eb, decide_eq_false a, decide_eq_false b]; rfl))
          · refine ⟨by show 0 ≤ sizeLine; decide, fun l hl => ?_⟩
            refine ⟨D, l, _, rfl, rfl, keepH e2 hl, upd_same, ?_⟩
            rw [List.isEmpty_map]
            exact q _ (s2.trans (sameU hl))
      | _ => exact iteT q0
    refine iteD (fun z => h3 (V.str.inj z)) ⟨_, rfl, t, _, _, _, rfl, rfl, SqT.of ht, at0, rfl, _, rfl, ?_⟩
    by_cases h4 : k.word = "list"
    · obtain ⟨j, rfl⟩ := w_list h4
      obtain ⟨t', u, e', ht', hu'⟩ := hv
      obtain rfl : t = t' := V.ref.inj e'
      refine iteP rfl ⟨_, rfl, x, .ty "list", _, _, _, rfl, hx.ty, rfl, kitL T d, _, rfl, ?_⟩
      cases d with
      | lst l =>
        obtain ⟨p, xs, rfl, hp, hxs, hl⟩ := hx
        have hlen := hxs.len
        refine iteF ⟨_, rfl, p, _, rfl, .inl (SqL.of hp), _, _, rfl, rfl, _, rfl, ?_⟩
        rw [hlen]
        refine ite2 (fun h => ?_) (fun h => ?_)
        · have e : suitsK (.list j) (.lst l) = false := by
            unfold suitsK
            rw [h]; rfl
          rw [e] at q0
          exact q0
        · have h' : decide ((l.length : Int) > 20) = false := by simpa using h
          have e : suitsK (.list j) (.lst l) = l.all (suitsK j) := by
            rw [suitsK]
            rw [h']; rfl
          rw [e] at q
          refine ⟨_, rfl, p, rfl, ⟨_, SqL.of hp⟩, comp_genI (Wk.list (SqL.of hp)) (by rw [hlen]; exact hl) (fun i => !(match l[i]? with | some d => suitsK j d | none => false)) (fun i => xs.getD i .non) (fun i y hy H2 R s2 hT hF => ?_) (fun D H2 hD s2 e2 => ?_)⟩
          · obtain ⟨d, hd, ht2⟩ := hxs.at i y hy
            refine ⟨Sub.set rfl, _, rfl, t, _, _, _, rfl, rfl, SqT.of (s2 _ _ ht'), at1, _, rfl, hk _ rfl _ _ _ _ ⟨u, y, d, rfl, hu'.same s2, Th.same s2 d y ht2, fun H3 s3 => ⟨_, rfl, ?_⟩⟩⟩
            simp only [hd] at hT hF
            cases es : suitsK j d with
            | true => exact iteF (hF H3 s3 (by rw [es]; rfl))
            | false =>
              refine iteT ⟨_, rfl, ?_⟩
              have := hT H3 s3 (by rw [es]; rfl)
              rw [show xs.getD i .non = y by simp [List.getD, hy]] at this
              exact this
          · refine ⟨by show 0 ≤ sizeLine; decide, fun l2 hl2 => ?_⟩
            refine ⟨D, l2, _, rfl, rfl, keepH e2 hl2, upd_same, ?_⟩
            rw [List.isEmpty_map, hlen, range_empty l (suitsK j) _ fun i d hd => by rw [hd]]
            exact q _ (s2.trans (sameU hl2))
      | _ => exact iteT q0
    refine iteD (fun z => h4 (V.str.inj z)) ⟨_, rfl, x, .ty "int", _, _, _, rfl, hx.ty, rfl, kitI T d, _, rfl, ?_⟩
    have key : (∀ i, d ≠ .int i) → suitsK k d = false := by
      intro hd
      cases k with
      | truth => exact absurd rfl h2
      | form z => exact absurd rfl h1
      | text n => exact absurd rfl h3
      | list j => exact absurd rfl h4
      | _ => cases d <;> first | rfl | exact absurd rfl (hd _)
    cases d with
    | int i =>
      obtain rfl : x = V.int i := hx
      refine iteF ⟨_, rfl, .int i, .ty "bool", _, _, _, rfl, .int i, rfl, kitB T (.int i), _, rfl, iteF ?_⟩
      refine ⟨fun σ' H' => σ' = [some (.ref t), some (.int i), some (.int HF)] ∧ H = H', ?_, ?_⟩
      · refine ⟨_, _, rfl, rfl, ⟨by decide, by decide +kernel⟩, _, _, rfl, rfl, ⟨by decide, by decide +kernel⟩, _, _, rfl, rfl, ⟨by decide, by decide +kernel⟩, _, _, rfl, rfl, .inr ⟨by decide +kernel, by decide +kernel⟩, ?_, rfl⟩
        show [some (V.ref t), some (V.int i), some (V.int (((2 : Int) ^ 64) ^ 3 * 2 ^ 63))] = _
        rw [half_eq]
      rintro σ' H' ⟨rfl, rfl⟩
      refine ⟨_, rfl, t, _, _, _, rfl, rfl, SqT.of ht, at0, rfl, _, rfl, ?_⟩
      by_cases h5 : k.word = "whole"
      · obtain rfl := w_whole h5
        have e : suitsK .whole (.int i) = (decide (-HF ≤ i) && decide (i < HF)) := by
          show (decide (-MW - 1 ≤ i) && decide (i ≤ MW)) = _
          have a1 : (-MW - 1 ≤ i) = (-HF ≤ i) := by rw [show -MW - 1 = -HF by decide]
          have a2 : (i ≤ MW) = (i < HF) := by rw [show HF = MW + 1 by decide]; exact propext Int.lt_add_one_iff.symm
          simp only [a1, a2]
        rw [e] at q0
        refine iteP rfl ⟨_, rfl, _, rfl, _, rfl, _, _, rfl, rfl, _, rfl, ite2 (fun a => ?_) (fun a => ?_)⟩
        · rw [a, Bool.true_and] at q0
          exact ⟨_, rfl, _, _, rfl, rfl, q0⟩
        · have a' : decide (-HF ≤ i) = false := by simpa using a
          rw [a', Bool.false_and] at q0
          exact q0
      refine iteD (fun z => h5 (V.str.inj z)) ⟨_, rfl, _, _, rfl, rfl, _, rfl, ?_⟩
      have key2 : ∃ m : Int, suitsK k (.int i) = (decide (0 ≤ i) && decide (i ≤ m)) ∧ ((k.word = "upto" ∧ H t = some (.tup [.str "upto", .int m])) ∨ (k.word ≠ "upto" ∧ m = 2 * HF - 1)) := by
        cases k with
        | truth => exact absurd rfl h2
        | form z => exact absurd rfl h1
        | text n => exact absurd rfl h3
        | list j => exact absurd rfl h4
        | whole => exact absurd rfl h5
        | upto n =>
          obtain ⟨t', e', ht'⟩ := hv
          obtain rfl : t = t' := V.ref.inj e'
          exact ⟨n, rfl, .inl ⟨rfl, ht'⟩⟩
        | count => exact ⟨MN, rfl, .inr ⟨(by decide +kernel : ¬ ("count" : Str) = "upto"), by decide⟩⟩
      obtain ⟨m, em, hm⟩ := key2
      rw [em] at q0
      refine ite2 (fun a => ?_) (fun a => ?_)
      · rw [a, Bool.true_and] at q0
        refine ⟨_, rfl, t, _, _, _, rfl, rfl, SqT.of ht, at0, rfl, _, rfl, ?_⟩
        rcases hm with ⟨hw, hH⟩ | ⟨hw, rfl⟩
        · refine iteP (congrArg V.str hw) ⟨_, rfl, t, _, _, _, rfl, rfl, SqT.of hH, at1, _, _, rfl, rfl, q0⟩
        · refine iteD (fun z => hw (V.str.inj z)) ⟨_, rfl, _, _, rfl, rfl, .inl ⟨by decide, by decide⟩, _, _, rfl, rfl, _, _, rfl, rfl, q0⟩
      · have a' : decide ((0 : Int) ≤ i) = false := by simpa using a
        rw [a', Bool.false_and] at q0
        exact q0
    | bl b =>
      rw [key fun i => by intro z; cases z] at q0
      exact iteF ⟨_, rfl, x, .ty "bool", _, _, _, rfl, hx.ty, rfl, kitB T (.bl b), _, rfl, iteT q0⟩
    | non => rw [key fun i => by intro z; cases z] at q0; exact iteT q0
    | str z => rw [key fun i => by intro z; cases z] at q0; exact iteT q0
    | lst l => rw [key fun i => by intro z; cases z] at q0; exact iteT q0
    | tup => rw [key fun i => by intro z; cases z] at q0; exact iteT q0
    | dct => rw [key fun i => by intro z; cases z] at q0; exact iteT q0
theorem ok_suits (T : Tx K mg) {k : Kd} (hk : k.ok) : FnOk P w K mg base CX0 6 488 (HL.fdOf K 488) ["_law_kind", "_law_value"] (sp_lsuits k) := by
  cases k with
  | list k =>
    have G : FnOk P w K mg base CX0 (0 + 3) 488 (HL.fdOf K 488) ["_law_kind", "_law_value"] (sp_lsuits k) := ok_suits_step T (r := 0) (fnFalse (k := 0 + 1)) (fun k' e => by rw [e] at hk; cases hk.1)
    exact (ok_suits_step T (r := 2) G fun k' e vs H Q E h => by cases e; exact h).mono (by decide)
  | _ => exact (ok_suits_step T (r := 0) (fnFalse (k := 0 + 1)) (fun k' e => by cases e)).mono (by decide)
end
end K7

namespace K7
open PySem L2
seal L2.PE L2.PS L2.PSs L2.PA L2.PT L2.PW L2.PG L2.PGs L2.PI L2.PO
def sp_bound : Sp := fun vs H Q _ => ∃ n : Int, vs = [.int n] ∧ 0 ≤ n ∧ n < 2147483648 ∧ ∀ (r : Int) (H' : Hp), Same H H' → 0 ≤ r → r < 2 ^ 256 → Q (.int r) H'
abbrev TOP : Int := 115792089237316195423570985008687907853269984665640564039457584007913129639935
theorem top_eq : ((2 : Int) ^ 64) ^ 4 - 1 = TOP := by decide +kernel
def boundL (n : Int) : List Int := [1, 2, 3, 127, 128, 254, 255, 256, 1000, TOP, 1 + n / 11 % 300, n]
theorem boundL_ok {n : Int} (h0 : 0 ≤ n) (h1 : n < 2147483648) : ∀ r ∈ boundL n, 0 ≤ r ∧ r < 2 ^ 256 := by
  have z := pos_mod (n / 11) (b := 300) (by decide)
  have e1 : 0 ≤ 1 + n / 11 % 300 ∧ 1 + n / 11 % 300 < 2 ^ 256 := ⟨by omega, Int.lt_of_lt_of_le (b := 302) (by omega) (by decide)⟩
  have e2 : 0 ≤ n ∧ n < 2 ^ 256 := ⟨h0, Int.lt_of_lt_of_le h1 (by decide)⟩
  intro r hr
  simp only [boundL, List.mem_cons, List.not_mem_nil, or_false] at hr
  rcases hr with rfl | rfl | rfl | rfl | rfl | rfl | rfl | rfl | rfl | rfl | rfl | rfl
  all_goals first | exact e2 | exact e1 | decide
section
variable {P : Program} {w : World} {K : PySem.W.Frag} {mg : Str → Option Value} {base : Heap}
theorem ok_bound (T : Tx K mg) : FnOk P w K mg base CX0 1 457 (HL.fdOf K 457) ["_law_number_here"] sp_bound := by
  refine T.d_bound.ok sc_bound (fun vs H Q E h => ?_) (fun cdv A outer s H vs Q E hr h => ?_)
  · obtain ⟨n, rfl, _⟩ := h
    rfl
  · obtain ⟨n, rfl, h0, h1, q⟩ := h
    refine ⟨_, pss_cut (ps_set (i := 1) sc_bound.nd rfl (Or.inl rfl) (pe_op op_sub (pe_op op_powB (pe_op op_powB pe_int pe_int) pe_int) pe_int))
      (pss_cons (ps_set (i := 2) sc_bound.nd rfl (Or.inl rfl) (pe_lst (pa_cons pe_int (pa_cons pe_int (pa_cons pe_int (pa_cons pe_int (pa_cons pe_int (pa_cons pe_int (pa_cons pe_int (pa_cons pe_int (pa_cons pe_int (pa_cons (pv 1) (pa_cons (pe_op op_add pe_int (pe_op op_mod (pe_op op_fdiv (pv 0) pe_int) pe_int)) (pa_cons (pv 0) pa_nil))))))))))))))
      (pss_one (ps_ret (pe_ix ix_list (pv 2) (pe_op op_mod (pv 0) pe_int) (fun _ _ => rfl))))), ?_⟩
    refine ⟨fun σ' H' => σ' = [some (.int n), some (.int TOP), none] ∧ H = H', ?_, ?_⟩
    · refine ⟨_, _, rfl, rfl, ⟨by decide, by decide +kernel⟩, _, _, rfl, rfl, ⟨by decide, by decide +kernel⟩, _, _, rfl, rfl, ?_, rfl⟩
      show [some (V.int n), some (V.int (((2 : Int) ^ 64) ^ 4 - 1)), none] = _
      rw [top_eq]
    rintro σ' H' ⟨rfl, rfl⟩
    refine ⟨_, rfl, _, rfl, _, _, rfl, rfl, ⟨by decide, by decide⟩, _, _, rfl, rfl, (by show (0 : Int) < 300; decide), _, _, rfl, rfl, _, rfl, by show 12 ≤ sizeLine; decide, fun l hl => ?_⟩
    have z := pos_mod n (b := 12) (by decide)
    have hlt : (n % 12).toNat < (boundL n).length := by show _ < 12; omega
    have eat : atI ((boundL n).map V.int) (n % 12) = some (.int ((boundL n)[(n % 12).toNat]'hlt)) := by
      have e2 : atI ((boundL n).map V.int) (((n % 12).toNat : Nat) : Int) = some (.int ((boundL n)[(n % 12).toNat]'hlt)) := atI_nat (by rw [List.getElem?_map, List.getElem?_eq_getElem hlt]; rfl)
      rw [Int.toNat_of_nonneg z.1] at e2
      exact e2
    have b := boundL_ok h0 h1 _ (List.getElem_mem hlt)
    refine ⟨_, rfl, _, rfl, _, _, rfl, rfl, (by show (0 : Int) < 12; decide), l, (boundL n).map V.int, _, _, rfl, rfl, SqL.of upd_same, eat, ?_⟩
    exact q _ _ (sameU hl) b.1 b.2
end
end K7

namespace K7
open PySem L2
seal L2.PE L2.PS L2.PSs L2.PA L2.PT L2.PW L2.PG L2.PGs L2.PI L2.PO
def sp_names : Sp := fun vs H Q _ => ∃ n : Int, vs = [.int n, .int 1] ∧ 0 ≤ n ∧ n < 2147483648 ∧ ∀ (z : Str) (l : Addr) (H' : Hp), PyData.strOk z = true → H l = none → Same H H' → H' l = some (.lst [.str z]) → Q (.ref l) H'
def sp_drawn : Sp := fun vs H Q _ => ∃ n : Int, vs = [.int n] ∧ 0 ≤ n ∧ n < 2147483648 ∧ ∀ (k : Kd) (v : V) (H' : Hp), k.ok → Same H H' → TK H' k v → Q v H'
/-- a list of flat kinds -/
def KL (H : Hp) (vs : List V) : Prop := ∀ v ∈ vs, ∃ k : Kd, k.flat = true ∧ k.ok ∧ TK H k v
theorem KL.same {H H' : Hp} {vs : List V} (s : Same H H') (h : KL H vs) : KL H' vs := fun v hv => let ⟨k, a, b, c⟩ := h v hv; ⟨k, a, b, c.same s⟩
theorem KL.nil {H : Hp} : KL H [] := fun v hv => by cases hv
theorem KL.cons {H : Hp} {v : V} {vs : List V} {k : Kd} (h : TK H k v) (hf : k.flat = true) (ho : k.ok) (hs : KL H vs) : KL H (v :: vs) := fun u hu => by
  rcases List.mem_cons.mp hu with rfl | hu
  · exact ⟨k, hf, ho, h⟩
  · exact hs u hu
theorem KL.app {H : Hp} {vs us : List V} (h : KL H vs) (g : KL H us) : KL H (vs ++ us) := fun u hu => by
  rcases List.mem_append.mp hu with hu | hu
  · exact h u hu
  · exact g u hu
section
variable {P : Program} {w : World} {K : PySem.W.Frag} {mg : Str → Option Value} {base : Heap}
theorem ok_drawn (T : Tx K mg) (GN : FnOk P w K mg base CX0 1 450 (HL.fdOf K 450) ["_law_number_here", "_law_many"] sp_names) : FnOk P w K mg base CX0 2 464 (HL.fdOf K 464) ["_law_number_here"] sp_drawn := by
  have GB : FnOk P w K mg base CX0 1 457 (HL.fdOf K 457) ["_law_number_here"] sp_bound := ok_bound T
  refine T.d_drawn.ok sc_drawn (fun vs H Q E h => ?_) (fun cdv A outer s H vs Q E hr h => ?_)
  · obtain ⟨n, rfl, _⟩ := h
    rfl
  · obtain ⟨n, rfl, h0, h1, q⟩ := h
    have n7 : 0 ≤ n / 7 ∧ n / 7 < 2147483648 := by constructor <;> omega
    refine ⟨_, pss_cut (ps_set (i := 1) sc_drawn.nd rfl (Or.inl rfl) (pe_lst (pa_cons (pe_tup (pa_cons pe_str pa_nil)) (pa_cons (pe_tup (pa_cons pe_str pa_nil)) (pa_cons (pe_tup (pa_cons pe_str pa_nil)) (pa_cons (pe_tup (pa_cons pe_str (pa_cons (pe_callB (call_max2 rfl) rfl T.y_max bt_max (pa_cons pe_int (pa_cons (pe_call GB (hr.mono (by decide)) rfl T.m_bound T.k_bound T.b_bound .nil pass0 (pa_cons (pe_op op_fdiv (pv 0) pe_int) pa_nil)) pa_nil))) pa_nil))) pa_nil))))))
      (pss_cut (ps_set (i := 1) sc_drawn.nd rfl (Or.inl rfl) (pe_op op_cat (pv 1) (pe_lst (pa_cons (pe_tup (pa_cons pe_str (pa_cons (pe_op op_add pe_int (pe_op op_mod (pe_op op_fdiv (pv 0) pe_int) pe_int)) pa_nil))) (pa_cons (pe_tup (pa_cons pe_str (pa_cons pe_int pa_nil))) (pa_cons (pe_tup (pa_cons pe_str (pa_cons (pe_ix ix_list (pe_call GN (hr.mono (by decide)) rfl T.m_names T.k_names T.b_names .nil pass0 (pa_cons (pe_op op_fdiv (pv 0) pe_int) (pa_cons pe_int pa_nil))) pe_int (fun _ _ => rfl)) pa_nil))) pa_nil))))))
      (pss_cons (ps_if (pt_cmpR op_eq (pe_op op_mod (pe_op op_fdiv (pv 0) pe_int) pe_int) pe_int (nomark _))
        (pss_one (ps_ret (pe_tup (pa_cons pe_str (pa_cons (pe_ix ix_list (pv 1) (pe_op op_mod (pv 0) pe_int) (fun _ _ => rfl)) pa_nil))))) pss_nil)
      (pss_one (ps_ret (pe_ix ix_list (pv 1) (pe_op op_mod (pv 0) pe_int) (fun _ _ => rfl)))))), ?_⟩
    refine ⟨fun σ' H' => ∃ l vs, σ' = [some (.int n), some (.ref l)] ∧ Same H H' ∧ H' l = some (.lst vs) ∧ vs.length = 4 ∧ KL H' vs, ?_, ?_⟩
    · refine ⟨by show 1 ≤ sizeLine; decide, fun t1 g1 => ⟨by show 1 ≤ sizeLine; decide, fun t2 g2 => ⟨by show 1 ≤ sizeLine; decide, fun t3 g3 => ?_⟩⟩⟩
      have s1 : Same H (upd H t1 (.tup [.str "truth"])) := sameU g1
      have s2 := sameU (u := .tup [.str "count"]) g2
      have s3 := sameU (u := .tup [.str "whole"]) g3
      refine ⟨_, rfl, _, _, rfl, rfl, ⟨by decide, by decide⟩, n / 7, rfl, n7.1, n7.2, fun r H4 s4 r0 r1 => ?_⟩
      refine ⟨1, r, rfl, by show 2 ≤ sizeLine; decide, fun t4 g4 => ⟨by show 4 ≤ sizeLine; decide, fun l gl => ?_⟩⟩
      have s5 := sameU (u := .tup [.str "upto", .int (if r > 1 then r else 1)]) g4
      have s6 := sameU (u := .lst [.ref t1, .ref t2, .ref t3, .ref t4]) gl
      refine ⟨l, _, rfl, ((((s1.trans s2).trans s3).trans s4).trans s5).trans s6, upd_same, rfl, ?_⟩
      refine KL.cons (k := .truth) ⟨t1, rfl, s6 _ _ (s5 _ _ (s4 _ _ (s3 _ _ (s2 _ _ upd_same))))⟩ rfl trivial ?_
      refine KL.cons (k := .count) ⟨t2, rfl, s6 _ _ (s5 _ _ (s4 _ _ (s3 _ _ upd_same)))⟩ rfl trivial ?_
      refine KL.cons (k := .whole) ⟨t3, rfl, s6 _ _ (s5 _ _ (s4 _ _ upd_same))⟩ rfl trivial ?_
      refine KL.cons (k := .upto (if r > 1 then r else 1)) ⟨t4, rfl, s6 _ _ upd_same⟩ rfl ?_ KL.nil
      by_cases hr1 : r > 1
      · rw [if_pos hr1]; exact ⟨by omega, r1⟩
      · rw [if_neg hr1]; exact ⟨by decide, by decide⟩
    rintro σ' H' ⟨l, vs, rfl, s0, hl, hlen, hK⟩
    refine ⟨fun σ' H2 => ∃ l vs, σ' = [some (.int n), some (.ref l)] ∧ Same H H2 ∧ H2 l = some (.lst vs) ∧ vs.length = 7 ∧ KL H2 vs, ?_, ?_⟩
    · have z := pos_mod (n / 7) (b := 100) (by decide)
      refine ⟨_, rfl, _, rfl, _, _, rfl, rfl, ⟨by decide, by decide⟩, _, _, rfl, rfl, (by show (0 : Int) < 100; decide), _, _, rfl, rfl, by show 2 ≤ sizeLine; decide, fun t5 g5 => ⟨by show 2 ≤ sizeLine; decide, fun t6 g6 => ?_⟩⟩
      have s5 := sameU (u := .tup [.str "text", .int (1 + n / 7 % 100)]) g5
      have s6 := sameU (u := .tup [.str "text", .int 100]) g6
      refine ⟨_, rfl, _, _, rfl, rfl, ⟨by decide, by decide⟩, n / 7, rfl, n7.1, n7.2, fun z7 m H7 hz7 hm s7 e7 => ?_⟩
      refine ⟨m, _, _, _, rfl, rfl, SqL.of e7, at0, by show 2 ≤ sizeLine; decide, fun t7 g7 => ⟨by show 3 ≤ sizeLine; decide, fun l2 gl2 => ?_⟩⟩
      have s8 := sameU (u := .tup [.str "form", .str z7]) g7
      have s9 := sameU (u := .lst [.ref t5, .ref t6, .ref t7]) gl2
      refine ⟨l, l2, _, _, rfl, rfl, s9 _ _ (s8 _ _ (s7 _ _ (s6 _ _ (s5 _ _ hl)))), upd_same, by rw [hlen]; show 7 ≤ sizeLine; decide, fun l3 gl3 => ?_⟩
      have s10 := sameU (u := .lst (vs ++ [.ref t5, .ref t6, .ref t7])) gl3
      have sAll := (((((s5.trans s6).trans s7).trans s8).trans s9).trans s10)
      refine ⟨l3, _, rfl, s0.trans sAll, upd_same, by rw [List.length_append, hlen]; rfl, KL.app (hK.same sAll) ?_⟩
      refine KL.cons (k := .text (1 + n / 7 % 100)) ⟨t5, rfl, s10 _ _ (s9 _ _ (s8 _ _ (s7 _ _ (s6 _ _ upd_same))))⟩ rfl ⟨by omega, by omega⟩ ?_
      refine KL.cons (k := .text 100) ⟨t6, rfl, s10 _ _ (s9 _ _ (s8 _ _ (s7 _ _ upd_same)))⟩ rfl ⟨by decide, by decide⟩ ?_
      exact KL.cons (k := .form z7) ⟨t7, rfl, s10 _ _ (s9 _ _ upd_same)⟩ rfl hz7 KL.nil
    rintro σ' H2 ⟨l, vs, rfl, s0, hl, hlen, hK⟩
    have z := pos_mod n (b := 7) (by decide)
    have hlt : (n % 7).toNat < vs.length := by rw [hlen]; omega
    have eat : atI vs (n % 7) = some (vs[(n % 7).toNat]'hlt) := by
      have e2 : atI vs (((n % 7).toNat : Nat) : Int) = some (vs[(n % 7).toNat]'hlt) := atI_nat (List.getElem?_eq_getElem hlt)
      rw [Int.toNat_of_nonneg z.1] at e2
      exact e2
    obtain ⟨k, kf, ko, kt⟩ := hK _ (List.getElem_mem hlt)
    refine ⟨_, rfl, _, _, rfl, rfl, ⟨by decide, by decide⟩, _, _, rfl, rfl, (by show (0 : Int) < 3; decide), rfl, _, rfl, ite2 (fun _ => ?_) (fun _ => ?_)⟩
    · refine ⟨_, rfl, _, rfl, _, _, rfl, rfl, (by show (0 : Int) < 7; decide), l, _, _, _, rfl, rfl, SqL.of hl, eat, by show 2 ≤ sizeLine; decide, fun t ht => ?_⟩
      exact q (.list k) _ _ ⟨kf, ko⟩ (s0.trans (sameU ht)) ⟨t, _, rfl, upd_same, kt.same (sameU ht)⟩
    · refine ⟨_, rfl, _, rfl, _, _, rfl, rfl, (by show (0 : Int) < 7; decide), l, _, _, _, rfl, rfl, SqL.of hl, eat, ?_⟩
      exact q k _ _ ko s0 kt
end
end K7

namespace K7
open PySem L2
seal L2.PE L2.PS L2.PSs L2.PA L2.PT L2.PW L2.PG L2.PGs L2.PI L2.PO
theorem Wk.rng {H1 : Hp} (lo : Int) (n : Nat) : Wk (Itr lo n) H1 ((List.range n).map fun i : Nat => V.int (lo + (i : Int))) where
  go := fun H i s hi => by rw [List.length_map, List.length_range] at hi; exact hi
  stop := fun H i s hi => by rw [List.length_map, List.length_range] at hi; exact Nat.le_of_eq hi.symm
  yld := fun H i x H' s hi y => by
    rw [List.length_map, List.length_range] at hi
    exact ⟨y.1, by rw [List.getElem?_map, List.getElem?_range hi, y.2]; rfl⟩
theorem rng_at {lo : Int} {n j : Nat} {x : V} (h : ((List.range n).map fun i : Nat => V.int (lo + (i : Int)))[j]? = some x) : x = .int (lo + j) ∧ j < n := by
  rw [List.getElem?_map] at h
  by_cases hj : j < n
  · rw [List.getElem?_range hj] at h
    exact ⟨(Option.some.inj h).symm, hj⟩
  · rw [List.getElem?_eq_none (by rw [List.length_range]; omega)] at h
    cases h
/-- texts that Lean's data may hold -/
theorem sok_iff {z : Str} : PyData.strOk z = true ↔ ∀ c ∈ z.cps.toList, c < 0x110000 := by
  unfold PyData.strOk
  rw [Array.all_eq_true_iff_forall_mem]
  exact ⟨fun h c hc => of_decide_eq_true (h c (Array.mem_toList_iff.mp hc)), fun h c hc => decide_eq_true (h c (Array.mem_toList_iff.mpr hc))⟩
theorem sok_app {x y : Str} (hx : PyData.strOk x = true) (hy : PyData.strOk y = true) : PyData.strOk (x ++ y) = true := by
  rw [sok_iff] at hx hy ⊢
  intro c hc
  rw [show (x ++ y).cps.toList = x.cps.toList ++ y.cps.toList from Array.toList_append] at hc
  rcases List.mem_append.mp hc with h | h
  · exact hx c h
  · exact hy c h
theorem sok_slice {x : Str} (hx : PyData.strOk x = true) (l u : Option Int) : PyData.strOk (Txt.slice x l u) = true := by
  unfold Txt.slice
  split
  · exact hx
  · rw [sok_iff] at hx ⊢
    intro c hc
    obtain ⟨i, _, hi⟩ := List.mem_filterMap.mp hc
    exact hx c (Array.mem_toList_iff.mpr (Array.mem_of_getElem? hi))
theorem sok_join : ∀ l : List Str, (∀ a ∈ l, PyData.strOk a = true) → PyData.strOk (Txt.join (Str.ofString "") l) = true := by
  intro l h
  show PyData.strOk (Builtin.Str.glued (Str.ofString "") l) = true
  rw [StrLaws.glued_eq_join]
  have e : PyData.strOk (Str.ofString "") = true := by decide +kernel
  induction l with
  | nil => decide +kernel
  | cons a r ih =>
    cases r with
    | nil => exact h a (List.mem_cons_self ..)
    | cons b r => exact sok_app (sok_app (h a (List.mem_cons_self ..)) e) (ih fun x hx => h x (List.mem_cons_of_mem _ hx))
theorem sok_one {c : Nat} (h : c < 0x110000) : PyData.strOk ⟨#[c]⟩ = true := by
  rw [sok_iff]
  intro d hd
  rw [List.mem_singleton.mp hd]
  exact h
abbrev LET : Str := "abcdefghijklmnopqrstuvwxyz"
theorem let_len : LET.length = 26 := by decide +kernel
theorem let_len2 : LET.cps.toList.length = 26 := by decide +kernel
def letC (i : Int) : Nat := LET.cps.toList.getD (i % 26).toNat 0
theorem getD_lt {N : Nat} (h0 : 0 < N) : ∀ (l : List Nat) (j : Nat), (∀ c ∈ l, c < N) → l.getD j 0 < N
  | [], _, _ => by simpa using h0
  | c :: l, 0, h => h c (List.mem_cons_self ..)
  | c :: l, j + 1, h => by
    have := getD_lt h0 l j fun d hd => h d (List.mem_cons_of_mem _ hd)
    simpa using this
theorem letC_lt (i : Int) : letC i < 0x110000 := getD_lt (by decide) _ _ (by decide +kernel)
theorem let_at (i : Int) : atI LET.cps.toList (i % 26) = some (letC i) := by
  have z := pos_mod i (b := 26) (by decide)
  have hlt : (i % 26).toNat < LET.cps.toList.length := by rw [let_len2]; omega
  have e2 : atI LET.cps.toList (((i % 26).toNat : Nat) : Int) = some (letC i) := atI_nat (by unfold letC; simp [List.getD, List.getElem?_eq_getElem hlt])
  rw [Int.toNat_of_nonneg z.1] at e2
  exact e2
theorem ndJ3 : ((["_law_j"] : List Str) ++ (["_law_letters", "_law_number_here", "_law_step"] : List Str)).Nodup := by decide +kernel
theorem ndK1 : ((["_law_k"] : List Str) ++ (["_law_base"] : List Str)).Nodup := by decide +kernel
theorem ndK2 : ((["_law_k"] : List Str) ++ (["_law_letters", "_law_number_here"] : List Str)).Nodup := by decide +kernel
theorem ndS2 : ((["_law_sign"] : List Str) ++ (["_law_border", "_law_at"] : List Str)).Nodup := by decide +kernel
section
variable {P : Program} {w : World} {K : PySem.W.Frag} {mg : Str → Option Value} {base : Heap}
theorem ok_names (T : Tx K mg) : FnOk P w K mg base CX0 1 450 (HL.fdOf K 450) ["_law_number_here", "_law_many"] sp_names := by
  refine T.d_names.ok sc_names (fun vs H Q E h => ?_) (fun cdv A outer s H vs Q E hr h => ?_)
  · obtain ⟨n, rfl, _⟩ := h
    rfl
  · obtain ⟨n, rfl, h0, h1, q⟩ := h
    refine ⟨_, pss_cons (ps_set (i := 2) sc_names.nd rfl (Or.inr rfl) pe_str)
      (pss_cons (ps_set (i := 3) sc_names.nd rfl (Or.inr rfl) (pe_op op_add pe_int (pe_op op_mod (pv 0) pe_int)))
      (pss_cut (ps_set (i := 4) sc_names.nd rfl (Or.inr rfl) (pe_bm PySem.F.plainAttrs_str PySem.F.slot_str_join PySem.F.type_str_join mt_join pe_str (pa_cons (pe_comp (ts := ["_law_j"]) (xs := ["_law_letters", "_law_number_here", "_law_step"]) (js := [2, 0, 3]) rfl ⟨rfl, rfl, by decide +kernel, by decide +kernel, freeIn rfl⟩ (.cons rfl (.inl rfl) rfl (.cons rfl (.inl rfl) rfl (.cons rfl (.inl rfl) rfl .nil))) (by decide +kernel) (pi_range1 rfl T.y_range (pa_cons pe_int pa_nil))
          (fun C s₀ H₀ fp => pg_name (X := cxC _ _ _ C s₀ H₀ fp) (i := 0) ndJ3 rfl (Or.inl rfl) (Or.inr rfl))
          (fun C s₀ H₀ fp => pif_nil (X := cxC _ _ _ C s₀ H₀ fp))
          (fun C s₀ H₀ fp => pe_ix (X := cxC _ _ _ C s₀ H₀ fp) ix_str (pv 1) (pe_op op_mod (pe_op op_add (pe_op op_fdiv (pv 2) pe_int) (pe_op op_mul (pv 3) (pv 0))) pe_int) (fun _ _ => rfl))) pa_nil)))
      (pss_cons (ps_if (pt_cmpR op_eq (pe_op op_mod (pe_op op_fdiv (pv 0) pe_int) pe_int) pe_int (nomark _))
        (pss_one (ps_ret (pe_comp (ts := ["_law_k"]) (xs := ["_law_base"]) (js := [4]) rfl ⟨rfl, rfl, by decide +kernel, by decide +kernel, freeIn rfl⟩ (.cons rfl (.inl rfl) rfl .nil) (by decide +kernel) (pi_range1 rfl T.y_range (pa_cons (pv 1) pa_nil))
          (fun C s₀ H₀ fp => pg_name (X := cxC _ _ _ C s₀ H₀ fp) (i := 0) ndK1 rfl (Or.inl rfl) (Or.inr rfl))
          (fun C s₀ H₀ fp => pif_nil (X := cxC _ _ _ C s₀ H₀ fp))
          (fun C s₀ H₀ fp => pe_slice (X := cxC _ _ _ C s₀ H₀ fp) sl_str (pv 1) po_none (po_some (pe_op op_add (pv 0) pe_int))))))
        pss_nil)
      (pss_cut (ps_set (i := 5) sc_names.nd rfl (Or.inr rfl) (pe_slice sl_str (pv 4) po_none (po_some (pe_op op_mod (pv 0) pe_int))))
      (pss_cut (ps_set (i := 6) sc_names.nd rfl (Or.inr rfl) (pe_op op_mod (pe_op op_fdiv (pv 0) pe_int) (pe_op op_add (pe_callB call_len_str (by rfl) T.y_len bt_len (pa_cons (pv 5) pa_nil)) pe_int)))
      (pss_cut (ps_setComp (i := 7) (ts := ["_law_k"]) (xs := ["_law_letters", "_law_number_here"]) (js := [2, 0]) rfl ⟨rfl, rfl, by decide +kernel, by decide +kernel, freeIn rfl⟩ (.cons rfl (.inl rfl) rfl (.cons rfl (.inl rfl) rfl .nil)) (by decide +kernel) (pi_range1 rfl T.y_range (pa_cons (pv 1) pa_nil))
          (fun C s₀ H₀ fp => pg_name (X := cxC _ _ _ C s₀ H₀ fp) (i := 0) ndK2 rfl (Or.inl rfl) (Or.inr rfl))
          (fun C s₀ H₀ fp => pif_nil (X := cxC _ _ _ C s₀ H₀ fp))
          (fun C s₀ H₀ fp => pe_ix (X := cxC _ _ _ C s₀ H₀ fp) ix_str (pv 1) (pe_op op_mod (pe_op op_add (pe_op op_fdiv (pv 2) pe_int) (pe_op op_mul pe_int (pv 0))) pe_int) (fun _ _ => rfl))
          sc_names.nd rfl (Or.inl rfl) rfl)
      (pss_one (ps_ret (pe_comp (ts := ["_law_sign"]) (xs := ["_law_border", "_law_at"]) (js := [5, 6]) rfl ⟨rfl, rfl, by decide +kernel, by decide +kernel, freeIn rfl⟩ (.cons rfl (.inl rfl) rfl (.cons rfl (.inl rfl) rfl .nil)) (by decide +kernel) (pi_list (pv 7))
          (fun C s₀ H₀ fp => pg_name (X := cxC _ _ _ C s₀ H₀ fp) (i := 0) ndS2 rfl (Or.inl rfl) (Or.inr rfl))
          (fun C s₀ H₀ fp => pif_nil (X := cxC _ _ _ C s₀ H₀ fp))
          (fun C s₀ H₀ fp => pe_op (X := cxC _ _ _ C s₀ H₀ fp) op_add_str (pe_op op_add_str (pe_slice sl_str (pv 1) po_none (po_some (pv 2))) (pv 0)) (pe_slice sl_str (pv 1) (po_some (pv 2)) po_none))))))))))), ?_⟩
    refine ⟨_, rfl, _, _, rfl, rfl, (by show (0 : Int) < 5; decide), _, _, rfl, rfl, ?_⟩
    have z5 := pos_mod n (b := 5) (by decide)
    refine ⟨fun σ' H' => ∃ b : Str, PyData.strOk b = true ∧ b.length = 12 ∧ σ' = [some (.int n), some (.int 1), some (.str LET), some (.int (3 + n % 5)), some (.str b), none, none, none] ∧ Same H H', ?_, ?_⟩
    · refine ⟨rfl, 12, rfl, by decide, by decide, comp_growI (Wk.rng 0 12) (by decide) (fun j => .str ⟨#[letC (n / 7 + (3 + n % 5) * (0 + (j : Int)))]⟩) (fun j x hx H2 R s2 hR => ?_) (fun D H2 hD s2 e2 => ?_)⟩
      · obtain ⟨rfl, hj⟩ := rng_at hx
        refine ⟨Sub.set rfl, _, rfl, _, rfl, _, _, rfl, rfl, ⟨by decide, by decide⟩, _, rfl, _, rfl, _, _, rfl, rfl, .inl ⟨by omega, by omega⟩, _, _, rfl, rfl, _, _, rfl, rfl, (by show (0 : Int) < 26; decide), LET, _, _, rfl, rfl, by rw [let_len]; decide, let_at _, ?_⟩
        exact hR H2 fun _ _ e => e
      · have e3 : H2 D = some (.lst (((List.range 12).map fun j : Nat => (⟨#[letC (n / 7 + (3 + n % 5) * (0 + (j : Int)))]⟩ : Str)).map V.str)) := by
          rw [List.map_map]; exact e2
        refine ⟨"", D, _, rfl, rfl, SqL.of e3, ?_, ?_⟩
        · rw [List.map_map]
          show (((List.range 12).map fun _ => 1).sum + _) ≤ _
          rw [List.length_map, List.length_range]
          decide
        · refine ⟨_, sok_join _ fun a ha => by obtain ⟨j, _, rfl⟩ := List.mem_map.mp ha; exact sok_one (letC_lt _), ?_, rfl, s2⟩
          rw [PySem.W.KT.join_ones _ fun a ha => by obtain ⟨j, _, rfl⟩ := List.mem_map.mp ha; rfl]
          rw [List.length_map, List.length_range]
    rintro σ' H' ⟨b, hbo, hb, rfl, s0⟩
    have hbs : b.length ≤ sizeLine := by rw [hb]; decide
    refine ⟨_, rfl, _, _, rfl, rfl, ⟨by decide, by decide⟩, _, _, rfl, rfl, (by show (0 : Int) < 3; decide), rfl, _, rfl, ite2 (fun _ => ?_) (fun _ => ?_)⟩
    · refine ⟨_, rfl, 1, rfl, by decide, by decide, comp_growI (Wk.rng 0 1) (by decide) (fun j => .str (Txt.slice b none (some (0 + (j : Int) + 1)))) (fun j x hx H2 R s2 hR => ?_) (fun D H2 hD s2 e2 => ?_)⟩
      · obtain ⟨rfl, hj⟩ := rng_at hx
        exact ⟨Sub.set rfl, _, rfl, _, rfl, _, _, rfl, rfl, _, rfl, b, rfl, hbs, hR H2 fun _ _ e => e⟩
      · exact q _ D _ (sok_slice hbo _ _) (s0.free hD) (s0.trans s2) e2
    refine ⟨fun σ' H2 => ∃ b2 : Str, PyData.strOk b2 = true ∧ b2.length ≤ 12 ∧ σ' = [some (.int n), some (.int 1), some (.str LET), some (.int (3 + n % 5)), some (.str b), some (.str b2), none, none] ∧ H' = H2, ?_, ?_⟩
    · refine ⟨_, rfl, _, rfl, _, _, rfl, rfl, (by show (0 : Int) < 8; decide), _, rfl, b, rfl, hbs, _, sok_slice hbo _ _, ?_, rfl, rfl⟩
      exact Nat.le_trans (Txt.slice_le _ _ _) (Nat.le_of_eq hb)
    rintro σ' H2 ⟨b2, hb2o, hb2, rfl, rfl⟩
    have hb2s : b2.length ≤ sizeLine := Nat.le_trans hb2 (by decide)
    refine ⟨fun σ' H2 => ∃ a : Int, σ' = [some (.int n), some (.int 1), some (.str LET), some (.int (3 + n % 5)), some (.str b), some (.str b2), some (.int a), none] ∧ H' = H2, ?_, ?_⟩
    · refine ⟨_, rfl, _, _, rfl, rfl, ⟨by decide, by decide⟩, _, rfl, b2, rfl, hb2s, _, _, rfl, rfl, _, _, rfl, rfl, ?_, _, rfl, rfl⟩
      show (0 : Int) < (b2.length : Int) + 1
      omega
    rintro σ' H2 ⟨a, rfl, rfl⟩
    refine ⟨fun σ' H2 => ∃ (l : Addr) (c : Nat), c < 0x110000 ∧ σ' = [some (.int n), some (.int 1), some (.str LET), some (.int (3 + n % 5)), some (.str b), some (.str b2), some (.int a), some (.ref l)] ∧ Same H' H2 ∧ H2 l = some (.lst [.str ⟨#[c]⟩]), ?_, ?_⟩
    · refine ⟨_, rfl, 1, rfl, by decide, by decide, comp_growI (Wk.rng 0 1) (by decide) (fun j => .str ⟨#[letC (n / 2000 + 5 * (0 + (j : Int)))]⟩) (fun j x hx H2 R s2 hR => ?_) (fun D H2 hD s2 e2 => ?_)⟩
      · obtain ⟨rfl, hj⟩ := rng_at hx
        refine ⟨Sub.set rfl, _, rfl, _, rfl, _, _, rfl, rfl, ⟨by decide, by decide⟩, _, rfl, _, _, rfl, rfl, .inl ⟨by decide, by decide⟩, _, _, rfl, rfl, _, _, rfl, rfl, (by show (0 : Int) < 26; decide), LET, _, _, rfl, rfl, by rw [let_len]; decide, let_at _, ?_⟩
        exact hR H2 fun _ _ e => e
      · exact ⟨D, _, letC_lt _, rfl, s2, e2⟩
    rintro σ' H2 ⟨l, c, hc, rfl, s2, hl⟩
    refine ⟨_, rfl, l, rfl, ⟨_, SqL.of hl⟩, comp_growI (Wk.list (SqL.of hl)) (Nat.le_trans (Nat.le_refl 1) (by decide)) (fun _ => .str ((Txt.slice b2 none (some a) ++ ⟨#[c]⟩) ++ Txt.slice b2 (some a) none)) (fun j x hx H3 R s3 hR => ?_) (fun D H3 hD s3 e3 => ?_)⟩
    · obtain rfl : x = .str ⟨#[c]⟩ := by
        match j, hx with
        | 0, hx => exact (Option.some.inj hx).symm
        | j + 1, hx => simp at hx
      have l1 := Txt.slice_le b2 none (some a)
      have l2 := Txt.slice_le b2 (some a) none
      refine ⟨Sub.set rfl, _, rfl, _, rfl, _, rfl, b2, rfl, hb2s, _, rfl, _, _, rfl, rfl, ?_, _, rfl, _, rfl, _, rfl, b2, rfl, hb2s, _, _, rfl, rfl, ?_, hR H3 fun _ _ e => e⟩
      · show _ + 1 ≤ sizeLine
        exact Nat.le_trans (Nat.succ_le_succ (Nat.le_trans l1 hb2)) (by decide)
      · rw [Str.length_append]
        show _ + 1 + _ ≤ sizeLine
        exact Nat.le_trans (Nat.add_le_add (Nat.succ_le_succ (Nat.le_trans l1 hb2)) (Nat.le_trans l2 hb2)) (by decide)
    · exact q _ D _ (sok_app (sok_app (sok_slice hb2o _ _) (sok_one hc)) (sok_slice hb2o _ _)) (s0.free (s2.free hD)) ((s0.trans s2).trans s3) e3
end
end K7

namespace K7
open PySem L2
seal L2.PE L2.PS L2.PSs L2.PA L2.PT L2.PW L2.PG L2.PGs L2.PI L2.PO
/-- what is there in H' and not in H -/
def mns (H H' : Hp) : Hp := fun a => match H a with | some _ => none | none => H' a
def dl (D : Addr) (H : Hp) : Hp := fun a => if a = D then none else H a
theorem mns_some {H H' : Hp} {a : Addr} {o : HO} (e : mns H H' a = some o) : H a = none ∧ H' a = some o := by
  unfold mns at e
  cases z : H a with
  | some u => rw [z] at e; cases e
  | none => rw [z] at e; exact ⟨rfl, e⟩
theorem mns_at {H H' : Hp} {a : Addr} {o : HO} (h : H a = none) (e : H' a = some o) : mns H H' a = some o := by
  unfold mns
  rw [h]
  exact e
theorem mns_in {H H' : Hp} : Same (mns H H') H' := fun _ _ e => (mns_some e).2
theorem mns_grow {H H' H2 : Hp} (s : Same H' H2) : Same (mns H H') (mns H H2) := fun _ _ e => mns_at (mns_some e).1 (s _ _ (mns_some e).2)
theorem mns_mono {H H1 H' : Hp} (s : Same H H1) : Same (mns H1 H') (mns H H') := fun _ _ e => mns_at (s.free (mns_some e).1) (mns_some e).2
theorem dl_in {D : Addr} {H : Hp} : Same (dl D H) H := fun a o e => by
  unfold dl at e
  by_cases z : a = D
  · rw [if_pos z] at e; cases e
  · rw [if_neg z] at e; exact e
theorem dl_at {D a : Addr} {H : Hp} {o : HO} (h : a ≠ D) (e : H a = some o) : dl D H a = some o := by
  unfold dl
  rw [if_neg h]
  exact e
theorem dl_grow {D : Addr} {H H' : Hp} (s : Same H H') : Same (dl D H) (dl D H') := fun a o e => by
  by_cases z : a = D
  · unfold dl at e; rw [if_pos z] at e; cases e
  · exact dl_at z (s _ _ (dl_in _ _ e))
theorem dl_put {D : Addr} {H1 H : Hp} {u : HO} : Same (dl D (mns H1 H)) (dl D (mns H1 (upd H D u))) := fun a o e => by
  by_cases z : a = D
  · unfold dl at e; rw [if_pos z] at e; cases e
  · have m := mns_some (dl_in _ _ e)
    exact dl_at z (mns_at m.1 (by rw [upd_ne z]; exact m.2))
theorem Ths.app {H : Hp} : ∀ {ds : List Dt} {ys : List V} {d : Dt} {y : V}, Ths H ds ys → Th H d y → Ths H (ds ++ [d]) (ys ++ [y])
  | [], _, d, y, h, k => by rw [show _ = [] from h]; exact ⟨y, [], rfl, k, rfl⟩
  | e :: ds, _, d, y, ⟨x, zs, e0, h, k⟩, g => by rw [e0]; exact ⟨x, zs ++ [y], rfl, h, Ths.app k g⟩
section
variable {J : It} {H1 : Hp} {xs : List V} {σ0 : L2.St} {g : TG} {te : TE} {Q : VK}
/-- a comprehension of things, each new -/
theorem comp_things (W : Wk J H1 xs) (hz : xs.length ≤ 1000)
    (hs : ∀ (j : Nat) (x : V), xs[j]? = some x → ∀ (H : Hp) (R : VK), Same H1 H → (∀ y d H', Same H H' → Th (mns H H') d y → R y H') → g x σ0 H fun σ2 H2 => Sub σ0 σ2 ∧ te σ2 H2 R)
    (hd : ∀ D H' ys ds, H1 D = none → Same H1 H' → H' D = some (.lst ys) → Ths (dl D (mns H1 H')) ds ys → ds.length = xs.length → Q (.ref D) H') : CompW J H1 σ0 g tTrue te Q := by
  intro D hD
  refine ⟨fun i m ys H => m = xs.length - i ∧ i ≤ xs.length ∧ Same H1 H ∧ H D = some (.lst ys) ∧ ∃ ds, Ths (dl D (mns H1 H)) ds ys ∧ ds.length = i, ⟨xs.length, by simp, Nat.zero_le _, sameU hD, upd_same, [], rfl, rfl⟩, ?_⟩
  rintro i m ys H ⟨rfl, hi, sm, hDy, ds, hds, hl⟩
  refine ⟨hDy, ?_⟩
  by_cases hlt : i < xs.length
  · refine .inr ⟨W.go H i sm hlt, fun x H' y => ?_⟩
    obtain ⟨e, hx⟩ := W.yld H i x H' sm hlt y
    subst e
    refine hs i x hx H' _ sm fun y d H4 s4 hy => ?_
    have e1 : Same (mns H' H4) (dl D (mns H1 H4)) := fun a o e => by
      have m := mns_some e
      exact dl_at (fun z => by rw [z, hDy] at m; cases m.1) (mns_at (sm.free m.1) m.2)
    have key : Ths (dl D (mns H1 H4)) (ds ++ [d]) (ys ++ [y]) := Ths.app (Ths.same (dl_grow (mns_grow s4)) _ _ hds) (Th.same e1 d y hy)
    refine ⟨s4 _ _ hDy, small1000 (by rw [hds.len, hl]; omega), xs.length - (i + 1), by omega, rfl, hlt, (sm.trans s4).put hD, upd_same, ds ++ [d], Ths.same dl_put _ _ key, by rw [List.length_append, hl]; rfl⟩
  · have e : i = xs.length := by omega
    subst e
    exact .inl ⟨W.stop H _ sm rfl, hd D H ys ds hD sm hDy hds hl⟩
end
end K7

namespace K7
open PySem L2
seal L2.PE L2.PS L2.PSs L2.PA L2.PT L2.PW L2.PG L2.PGs L2.PI L2.PO
def sp_asked (k : Kd) : Sp := fun vs H Q _ => ∃ v n, vs = [v, .int n] ∧ TK H k v ∧ 0 ≤ n ∧ n < 2147483648 ∧ ∀ x d H', Same H H' → Th (mns H H') d x → Q x H'
theorem ndJ2 : ((["_law_j"] : List Str) ++ (["_law_kind", "_law_number_here"] : List Str)).Nodup := by decide +kernel
/-- values that are things, all new -/
def TL (H H' : Hp) (vs : List V) : Prop := ∀ v ∈ vs, ∃ d, Th (mns H H') d v
theorem TL.same {H H' H2 : Hp} {vs : List V} (s : Same H' H2) (h : TL H H' vs) : TL H H2 vs := fun v hv => let ⟨d, a⟩ := h v hv; ⟨d, Th.same (mns_grow s) d v a⟩
def manyL : List Int := [0, 1, 2, 20, 21, 3]
theorem Ths.rep {H : Hp} {d : Dt} {y : V} (h : Th H d y) : ∀ n : Nat, Ths H (List.replicate n d) (List.replicate n [y]).flatten
  | 0 => rfl
  | n + 1 => ⟨y, _, by rw [List.replicate_succ, List.flatten_cons]; rfl, h, Ths.rep h n⟩
theorem Ths.cat {H : Hp} : ∀ {ds es : List Dt} {ys zs : List V}, Ths H ds ys → Ths H es zs → Ths H (ds ++ es) (ys ++ zs)
  | [], es, _, zs, h, k => by rw [show _ = [] from h]; exact k
  | e :: ds, es, _, zs, ⟨x, us, e0, h, k⟩, g => by rw [e0]; exact ⟨x, us ++ zs, rfl, h, Ths.cat k g⟩
end K7

namespace K7
open PySem L2
seal L2.PE L2.PS L2.PSs L2.PA L2.PT L2.PW L2.PG L2.PGs L2.PI L2.PO
theorem str_a : ("a" : Str) = ⟨#[97]⟩ := by decide +kernel
theorem mul_a {n : Int} (h : n ≤ 200) : (Txt.mul "a" n).length ≤ 200 ∧ 37 ∉ (Txt.mul "a" n).cps.toList := by
  rw [str_a]
  have e := PyProof.Rows.mul_one_list 97 n
  constructor
  · show (Txt.mul ⟨#[97]⟩ n).cps.size ≤ 200
    rw [← Array.length_toList, e, List.length_replicate]
    omega
  · rw [e]
    intro z
    have := List.eq_of_mem_replicate z
    cases this
theorem str_app_list (x y : Str) : (x ++ y).cps.toList = x.cps.toList ++ y.cps.toList := by
  show (x.cps ++ y.cps).toList = _
  rw [Array.toList_append]
theorem tab_list : ("\t" : Str).cps.toList = [9] := by decide +kernel
section
variable {P : Program} {w : World} {K : PySem.W.Frag} {mg : Str → Option Value} {base : Heap}
theorem ok_asked_step (T : Tx K mg) {r : Nat} {spI : Sp} (G : FnOk P w K mg base CX0 (r + 1) 493 (HL.fdOf K 493) ["_law_kind", "_law_number_here"] spI) {k : Kd} (hko : k.ok) (hk : ∀ k', k = .list k' → ∀ vs H Q E, sp_asked k' vs H Q E → spI vs H Q E) :
    FnOk P w K mg base CX0 (r + 3) 493 (HL.fdOf K 493) ["_law_kind", "_law_number_here"] (sp_asked k) := by
  refine T.d_asked_of.ok sc_asked_of (fun vs H Q E h => ?_) (fun cdv A outer s H vs Q E hr h => ?_)
  · obtain ⟨v, n, rfl, _⟩ := h
    rfl
  · obtain ⟨v, n, rfl, hv, h0, h1, q⟩ := h
    refine ⟨_, pss_cut (ps_set (i := 2) sc_asked_of.nd rfl (Or.inl rfl) (pe_op op_mul (pe_op op_powB (pe_op op_powB pe_int pe_int) pe_int) (pe_op op_powB pe_int pe_int)))
      (pss_cut (ps_if (PW.pt (pw_and (pt_cmpR op_eq (pe_ix ix_tup (pv 0) pe_int (fun _ _ => rfl)) pe_str (nomark _)) (pw_and1 (pt_cmpR op_gt (pe_op op_mod (pv 1) pe_int) pe_int (nomark _)))))
        (pss_cut (ps_set (i := 3) sc_asked_of.nd rfl (Or.inl rfl) (pe_ix ix_list (pe_lst (pa_cons pe_int (pa_cons pe_int (pa_cons pe_int (pa_cons pe_int (pa_cons pe_int (pa_cons pe_int pa_nil))))))) (pe_op op_mod (pe_op op_fdiv (pv 1) pe_int) pe_int) (fun _ _ => rfl)))
          (pss_cut (ps_setComp (i := 4) (ts := ["_law_j"]) (xs := ["_law_kind", "_law_number_here"]) (js := [0, 1]) rfl ⟨rfl, rfl, by decide +kernel, by decide +kernel, freeIn rfl⟩ (.cons rfl (.inl rfl) rfl (.cons rfl (.inl rfl) rfl .nil)) (by decide +kernel) (pi_range1 rfl T.y_range (pa_cons (pv 3) pa_nil))
          (fun C s₀ H₀ fp => pg_name (X := cxC _ _ _ C s₀ H₀ fp) (i := 0) ndJ2 rfl (Or.inl rfl) (Or.inr rfl))
          (fun C s₀ H₀ fp => pif_nil (X := cxC _ _ _ C s₀ H₀ fp))
          (fun C s₀ H₀ fp => pe_call (X := cxC _ _ _ C s₀ H₀ fp) G (hr.mono (by omega)) rfl T.m_asked_of T.k_asked_of T.b_asked_of .nil pass0 (pa_cons (pe_ix (ix_tupK (X := cxC _ _ _ C s₀ H₀ fp) K rfl) (pv 1) pe_int (fun _ _ => rfl)) (pa_cons (pe_op op_add (pe_op op_mul pe_int (pe_op op_fdiv (pv 2) pe_int)) pe_int) pa_nil)))
          sc_asked_of.nd rfl (Or.inl rfl) rfl)
          (pss_one (ps_ret (pe_op op_cat (pv 4) (pe_op op_rep (pe_lst (pa_cons (pe_call G (hr.mono (by omega)) rfl T.m_asked_of T.k_asked_of T.b_asked_of .nil pass0 (pa_cons (pe_ix ix_tup (pv 0) pe_int (fun _ _ => rfl)) (pa_cons (pe_op op_fdiv (pv 1) pe_int) pa_nil))) pa_nil)) (pe_callTy call_int1 rfl T.y_int bt_int (pa_cons (pe_cmpR op_lt (pv 3) pe_int (nomark _)) pa_nil))))))))
        pss_nil)
      (pss_cut (ps_set (i := 5) sc_asked_of.nd rfl (Or.inl rfl) (pe_ifExp (pt_cmpR op_eq (pe_ix ix_tup (pv 0) pe_int (fun _ _ => rfl)) pe_str (nomark _)) (pe_lst (pa_cons pe_int (pa_cons pe_int (pa_cons pe_int (pa_cons pe_int (pa_cons pe_int (pa_cons (pe_ix ix_tup (pv 0) pe_int (fun _ _ => rfl)) (pa_cons (pe_op op_add (pe_ix ix_tup (pv 0) pe_int (fun _ _ => rfl)) pe_int) (pa_cons (pe_op op_sub (pe_ix ix_tup (pv 0) pe_int (fun _ _ => rfl)) pe_int) pa_nil))))))))) (pe_lst (pa_cons pe_int pa_nil))))
      (pss_cut (ps_set (i := 6) sc_asked_of.nd rfl (Or.inl rfl) (pe_op op_smul pe_str (pe_ix ix_list (pv 5) (pe_op op_mod (pe_op op_fdiv (pv 1) pe_int) (pe_callB call_len_seq (by rfl) T.y_len bt_len (pa_cons (pv 5) pa_nil))) (fun _ _ => rfl))))
      (pss_cut (ps_set (i := 7) sc_asked_of.nd rfl (Or.inl rfl) (pe_ifExp (pt_cmpR op_eq (pe_ix ix_tup (pv 0) pe_int (fun _ _ => rfl)) pe_str (nomark _)) (pe_ix ix_tup (pv 0) pe_int (fun _ _ => rfl)) (pe_op op_sub (pe_op op_mul pe_int (pv 2)) pe_int)))
      (pss_cut (ps_set (i := 8) sc_asked_of.nd rfl (Or.inl rfl) (pe_lst (pa_cons pe_non (pa_cons pe_str (pa_cons (pe_lst pa_nil) (pa_cons pe_dnewK (pa_cons pe_str (pa_cons (pe_tup (pa_cons pe_str pa_nil)) (pa_cons (pe_op op_add_str (pv 6) pe_str) (pa_cons pe_str (pa_cons (pv 6) (pa_cons pe_bl (pa_cons pe_bl (pa_cons (pe_lst (pa_cons (pe_lst pa_nil) pa_nil)) (pa_cons pe_int (pa_cons pe_int pa_nil))))))))))))))))
      (pss_cut (ps_set (i := 9) sc_asked_of.nd rfl (Or.inl rfl) (pe_lst (pa_cons (pv 7) (pa_cons (pe_op op_add (pv 7) pe_int) (pa_cons (pe_un un_neg pe_int) (pa_cons (pe_op op_sub (pv 2) pe_int) (pa_cons (pv 2) (pa_cons (pe_un un_neg (pv 2)) (pa_cons (pe_op op_sub (pe_un un_neg (pv 2)) pe_int) (pa_cons pe_int (pa_cons pe_int (pa_cons (pv 1) (pa_cons pe_bl (pa_cons (pv 6) (pa_cons (pv 6) (pa_cons (pv 6) pa_nil))))))))))))))))
      (pss_one (ps_ret (pe_ix ix_list (pe_ix ix_list (pe_lst (pa_cons (pv 8) (pa_cons (pv 9) (pa_cons (pv 9) pa_nil)))) (pe_op op_mod (pv 1) pe_int) (fun _ _ => rfl)) (pe_op op_mod (pe_op op_fdiv (pv 1) pe_int) pe_int) (fun _ _ => rfl)))))))))), ?_⟩
    obtain ⟨t, ys, rfl, ht⟩ := hv.word
    refine ⟨fun σ' H' => σ' = [some (.ref t), some (.int n), some (.int HF), none, none, none, none, none, none, none] ∧ H = H', ?_, ?_⟩
    · refine ⟨_, _, rfl, rfl, ⟨by decide, by decide +kernel⟩, _, _, rfl, rfl, ⟨by decide, by decide +kernel⟩, _, _, rfl, rfl, ⟨by decide, by decide +kernel⟩, _, _, rfl, rfl, .inr ⟨by decide +kernel, by decide +kernel⟩, ?_, rfl⟩
      show [some (V.ref t), some (V.int n), some (V.int (((2 : Int) ^ 64) ^ 3 * 2 ^ 63)), none, none, none, none, none, none, none] = _
      rw [half_eq]
    rintro σ' H' ⟨rfl, rfl⟩
    refine ⟨fun σ' H' => σ' = [some (.ref t), some (.int n), some (.int HF), none, none, none, none, none, none, none] ∧ H = H', ?_, ?_⟩
    · refine ⟨_, rfl, t, _, _, _, rfl, rfl, SqT.of ht, at0, rfl, _, rfl, ?_⟩
      by_cases hw : k.word = "list"
      · obtain ⟨j, rfl⟩ := w_list hw
        obtain ⟨t', u, e', ht', hu⟩ := hv
        obtain rfl : t = t' := V.ref.inj e'
        refine iteP rfl ⟨_, rfl, _, _, rfl, rfl, (by show (0 : Int) < 4; decide), _, _, rfl, rfl, _, rfl, ite2 (fun _ => ?_) (fun _ => ⟨rfl, rfl⟩)⟩
        refine ⟨fun σ' H' => ∃ m : Nat, m ≤ 21 ∧ σ' = [some (.ref t), some (.int n), some (.int HF), some (.int m), none, none, none, none, none, none] ∧ Same H H', ?_, ?_⟩
        · refine ⟨by show 6 ≤ sizeLine; decide, fun l hl => ?_⟩
          have z := pos_mod (n / 4) (b := 6) (by decide)
          have hlt : (n / 4 % 6).toNat < manyL.length := by show _ < 6; omega
          have eat : atI (manyL.map V.int) (n / 4 % 6) = some (.int (manyL[(n / 4 % 6).toNat]'hlt)) := by
            have e2 : atI (manyL.map V.int) (((n / 4 % 6).toNat : Nat) : Int) = some (.int (manyL[(n / 4 % 6).toNat]'hlt)) := atI_nat (by rw [List.getElem?_map, List.getElem?_eq_getElem hlt]; rfl)
            rw [Int.toNat_of_nonneg z.1] at e2
            exact e2
          have hm : ∀ r ∈ manyL, 0 ≤ r ∧ r ≤ 21 := by decide
          have b := hm _ (List.getElem_mem hlt)
          refine ⟨_, rfl, _, _, rfl, rfl, ⟨by decide, by decide⟩, _, _, rfl, rfl, (by show (0 : Int) < 6; decide), l, manyL.map V.int, _, _, rfl, rfl, SqL.of upd_same, eat, (manyL[(n / 4 % 6).toNat]'hlt).toNat, by omega, ?_, sameU hl⟩
          rw [Int.toNat_of_nonneg b.1]
          rfl
        rintro σ' H' ⟨m, hm, rfl, s1⟩
        have n24 : 0 ≤ n / 24 ∧ n / 24 < 2147483648 := by constructor <;> omega
        have n24b : 0 ≤ 4 * (n / 24) + 1 ∧ 4 * (n / 24) + 1 < 2147483648 := by constructor <;> omega
        refine ⟨fun σ' H2 => ∃ D ys ds, σ' = [some (.ref t), some (.int n), some (.int HF), some (.int m), some (.ref D), none, none, none, none, none] ∧ Same H H2 ∧ H2 D = some (.lst ys) ∧ H D = none ∧ Ths (dl D (mns H H2)) ds ys ∧ ds.length ≤ 21, ?_, ?_⟩
        · refine ⟨_, rfl, m, rfl, by omega, by omega, ?_⟩
          rw [Int.toNat_natCast]
          refine comp_things (Wk.rng 0 m) (by rw [List.length_map, List.length_range]; omega) (fun i x hx H2 R s2 hR => ?_) (fun D H2 ys ds hD s2 hDy hds hl => ?_)
          · refine ⟨Sub.set rfl, _, rfl, t, _, _, _, rfl, rfl, SqT.of (s2 _ _ (s1 _ _ ht')), at1, _, rfl, _, _, rfl, rfl, ⟨by decide, by decide⟩, _, _, rfl, rfl, .inl ⟨by decide, by decide⟩, _, _, rfl, rfl, hk _ rfl _ _ _ _ ⟨u, _, rfl, hu.same (s1.trans s2), n24b.1, n24b.2, fun y d H3 s3 hy => hR y d H3 s3 hy⟩⟩
          · refine ⟨D, ys, ds, rfl, s1.trans s2, hDy, s1.free hD, Ths.same (dl_grow (mns_mono s1)) _ _ hds, ?_⟩
            rw [hl, List.length_map, List.length_range]
            exact hm
        rintro σ' H2 ⟨D, ys, ds, rfl, s2, hDy, hD0, hds, hdl⟩
        refine ⟨_, rfl, _, rfl, t, _, _, _, rfl, rfl, SqT.of (s2 _ _ ht'), at1, _, rfl, _, _, rfl, rfl, ⟨by decide, by decide⟩, hk _ rfl _ _ _ _ ⟨u, _, rfl, hu.same s2, n24.1, n24.2, fun y d H3 s3 hy => ?_⟩⟩
        refine ⟨by show 1 ≤ sizeLine; decide, fun l1 hl1 => ?_⟩
        have s4 := sameU (u := .lst [y]) hl1
        refine ⟨_, rfl, _, _, rfl, rfl, .inr ⟨_, rfl, ?_⟩⟩
        have hkk : ∀ b : Bool, (0 : Int) ≤ (if b then 1 else 0) ∧ (if b then (1 : Int) else 0) ≤ 1 := by decide
        have kk := hkk (decide ((m : Int) < 20))
        refine ⟨l1, _, _, rfl, rfl, upd_same, Int.le_trans (by decide) kk.1, Int.lt_of_le_of_lt kk.2 (by decide), ?_, fun l2 hl2 => ?_⟩
        · show 1 * _ ≤ sizeLine
          rw [Nat.one_mul]
          exact Nat.le_trans (m := 1) (by omega) (by decide)
        have s5 := sameU (u := .lst (List.replicate (if decide ((m : Int) < 20) then (1 : Int) else 0).toNat [y]).flatten) hl2
        have sD := (s3.trans s4).trans s5
        have hrl : (List.replicate (if decide ((m : Int) < 20) then (1 : Int) else 0).toNat [y]).flatten.length ≤ 1 := by
          rw [len_rep]
          show _ * 1 ≤ 1
          rw [Nat.mul_one]
          omega
        refine ⟨D, l2, _, _, rfl, rfl, sD _ _ hDy, upd_same, ?_, fun l3 hl3 => ?_⟩
        · have := hds.len
          exact Nat.le_trans (Nat.add_le_add (Nat.le_trans (Nat.le_of_eq this) hdl) hrl) (by decide)
        have s6 := sameU (u := .lst (ys ++ (List.replicate (if decide ((m : Int) < 20) then (1 : Int) else 0).toNat [y]).flatten)) hl3
        have sE := sD.trans s6
        have h30 : H l3 = none := (s2.trans sD).free hl3
        refine q (.ref l3) (.lst (ds ++ List.replicate (if decide ((m : Int) < 20) then (1 : Int) else 0).toNat d)) _ (s2.trans sE) ⟨l3, _, rfl, mns_at h30 upd_same, Ths.cat (Ths.same (fun _ _ e => mns_grow sE _ _ (dl_in _ _ e)) _ _ hds) (Ths.rep (Th.same (fun _ _ e => mns_grow ((s4.trans s5).trans s6) _ _ (mns_mono s2 _ _ e)) d y hy) _), ?_⟩
        rw [List.length_append, List.length_replicate]
        omega
      · exact iteD (fun z => hw (V.str.inj z)) ⟨rfl, rfl⟩
    rintro σ' H' ⟨rfl, rfl⟩
    refine ⟨fun σ' H' => ∃ (l : Addr) (L : List Int), σ' = [some (.ref t), some (.int n), some (.int HF), none, none, some (.ref l), none, none, none, none] ∧ Same H H' ∧ H' l = some (.lst (L.map V.int)) ∧ 0 < L.length ∧ ∀ z ∈ L, -1 ≤ z ∧ z ≤ 101, ?_, ?_⟩
    · refine ⟨_, rfl, t, _, _, _, rfl, rfl, SqT.of ht, at0, rfl, _, rfl, ?_⟩
      by_cases hw : k.word = "text"
      · obtain ⟨m, rfl⟩ := w_text hw
        obtain ⟨t', e', ht'⟩ := hv
        obtain rfl : t = t' := V.ref.inj e'
        refine iteP rfl ⟨_, rfl, t, _, _, _, rfl, rfl, SqT.of ht', at1, _, rfl, t, _, _, _, rfl, rfl, SqT.of ht', at1, _, _, rfl, rfl, _, rfl, t, _, _, _, rfl, rfl, SqT.of ht', at1, _, _, rfl, rfl, by show 8 ≤ sizeLine; decide, fun l hl => ?_⟩
        refine ⟨l, [0, 1, 99, 100, 101, m, m + 1, m - 1], rfl, sameU hl, upd_same, Nat.succ_pos _, fun z hz => ?_⟩
        have a1 := hko.1
        have a2 := hko.2
        simp only [List.mem_cons, List.not_mem_nil, or_false] at hz
        omega
      · refine iteD (fun z => hw (V.str.inj z)) ⟨by show 1 ≤ sizeLine; decide, fun l hl => ?_⟩
        exact ⟨l, [0], rfl, sameU hl, upd_same, by decide, by decide⟩
    rintro σ' H5 ⟨l, L, rfl, s5, hl5, hL0, hLb⟩
    refine ⟨fun σ' H' => ∃ z : Str, σ' = [some (.ref t), some (.int n), some (.int HF), none, none, some (.ref l), some (.str z), none, none, none] ∧ H5 = H' ∧ z.length ≤ 200 ∧ 37 ∉ z.cps.toList, ?_, ?_⟩
    · have hp : (0 : Int) < ((L.map V.int).length : Int) := by rw [List.length_map]; omega
      have z := pos_mod (n / 10) hp
      have hlt : (n / 10 % ((L.map V.int).length : Int)).toNat < L.length := by
        have := List.length_map (as := L) V.int
        omega
      have eat : atI (L.map V.int) (n / 10 % ((L.map V.int).length : Int)) = some (.int (L[(n / 10 % ((L.map V.int).length : Int)).toNat]'hlt)) := by
        have e2 : atI (L.map V.int) (((n / 10 % ((L.map V.int).length : Int)).toNat : Nat) : Int) = some (.int (L[(n / 10 % ((L.map V.int).length : Int)).toNat]'hlt)) := atI_nat (by rw [List.getElem?_map, List.getElem?_eq_getElem hlt]; rfl)
        rw [Int.toNat_of_nonneg z.1] at e2
        exact e2
      have b := hLb _ (List.getElem_mem hlt)
      have mz := mul_a (n := L[(n / 10 % ((L.map V.int).length : Int)).toNat]'hlt) (by omega)
      exact ⟨_, rfl, _, rfl, _, _, rfl, rfl, ⟨by decide, by decide⟩, _, rfl, l, _, rfl, .inl (SqL.of hl5), _, _, rfl, rfl, hp, l, _, _, _, rfl, rfl, SqL.of hl5, eat, "a", _, rfl, rfl, by decide +kernel, by omega, by omega, _, rfl, rfl, mz.1, mz.2⟩
    rintro σ' H6 ⟨z, rfl, rfl, hz1, hz2⟩
    refine ⟨fun σ' H' => ∃ mo : Int, σ' = [some (.ref t), some (.int n), some (.int HF), none, none, some (.ref l), some (.str z), some (.int mo), none, none] ∧ H5 = H', ?_, ?_⟩
    · refine ⟨_, rfl, t, _, _, _, rfl, rfl, SqT.of (s5 _ _ ht), at0, rfl, _, rfl, ?_⟩
      by_cases hw : k.word = "upto"
      · obtain ⟨m, rfl⟩ := w_upto hw
        obtain ⟨t', e', ht'⟩ := hv
        obtain rfl : t = t' := V.ref.inj e'
        exact iteP rfl ⟨_, rfl, t, _, _, _, rfl, rfl, SqT.of (s5 _ _ ht'), at1, m, rfl, rfl⟩
      · exact iteD (fun z => hw (V.str.inj z)) ⟨_, rfl, _, _, rfl, rfl, .inl ⟨by decide, by decide⟩, _, _, rfl, rfl, _, rfl, rfl⟩
    rintro σ' H7 ⟨mo, rfl, rfl⟩
    have tz : ∀ G : Hp, Th G (.str z) (.str z) := fun G => ⟨rfl, Nat.le_trans hz1 (by decide), hz2⟩
    refine ⟨fun σ' H' => ∃ (lo : Addr) (vs : List V), σ' = [some (.ref t), some (.int n), some (.int HF), none, none, some (.ref l), some (.str z), some (.int mo), some (.ref lo), none] ∧ Same H H' ∧ H' lo = some (.lst vs) ∧ vs.length = 14 ∧ TL H H' vs, ?_, ?_⟩
    · have ltab : (z ++ ("\t" : Str)).length ≤ 201 := by
        show (z ++ ("\t" : Str)).cps.size ≤ 201
        rw [← Array.length_toList, str_app_list, tab_list, List.length_append, Array.length_toList]
        exact Nat.succ_le_succ hz1
      have ptab : 37 ∉ (z ++ ("\t" : Str)).cps.toList := by
        rw [str_app_list, tab_list]
        intro h
        rcases List.mem_append.mp h with h | h
        · exact hz2 h
        · cases List.mem_singleton.mp h
      refine ⟨by show 0 ≤ sizeLine; decide, fun a ha => fun dd hdd => ⟨by show 1 ≤ sizeLine; decide, fun tp htp => ⟨_, rfl, _, _, rfl, rfl, ?_, _, rfl, by show 0 ≤ sizeLine; decide, fun b hb => ⟨by show 1 ≤ sizeLine; decide, fun c hc => ⟨by show 14 ≤ sizeLine; decide, fun lo hlo => ?_⟩⟩⟩⟩⟩
      · show z.length + 1 ≤ sizeLine
        exact Nat.le_trans (Nat.succ_le_succ hz1) (by decide)
      have r1 := sameU (u := .lst []) ha
      have r2 := sameU (u := .dK []) hdd
      have r3 := sameU (u := .tup [.str "a"]) htp
      have r4 := sameU (u := .lst []) hb
      have r5 := sameU (u := .lst [.ref b]) hc
      have r6 := fun u => sameU (u := u) hlo
      have fa : H a = none := s5.free ha
      have fd : H dd = none := (s5.trans r1).free hdd
      have ft : H tp = none := ((s5.trans r1).trans r2).free htp
      have fb : H b = none := (((s5.trans r1).trans r2).trans r3).free hb
      have fc : H c = none := ((((s5.trans r1).trans r2).trans r3).trans r4).free hc
      refine ⟨lo, _, rfl, (((((s5.trans r1).trans r2).trans r3).trans r4).trans r5).trans (r6 _), upd_same, rfl, fun v hv => ?_⟩
      simp only [List.mem_cons, List.not_mem_nil, or_false] at hv
      rcases hv with rfl | rfl | rfl | rfl | rfl | rfl | rfl | rfl | rfl | rfl | rfl | rfl | rfl | rfl
      · exact ⟨.non, rfl⟩
      · exact ⟨.str "", rfl, by decide +kernel, by decide +kernel⟩
      · exact ⟨.lst [], a, [], rfl, mns_at fa (r6 _ _ _ (r5 _ _ (r4 _ _ (r3 _ _ (r2 _ _ upd_same))))), rfl, by decide⟩
      · exact ⟨.dct, dd, rfl, mns_at fd (r6 _ _ _ (r5 _ _ (r4 _ _ (r3 _ _ upd_same))))⟩
      · exact ⟨.str "1", rfl, by decide +kernel, by decide +kernel⟩
      · exact ⟨.tup, tp, _, rfl, mns_at ft (r6 _ _ _ (r5 _ _ (r4 _ _ upd_same)))⟩
      · exact ⟨.str (z ++ ("\t" : Str)), rfl, Nat.le_trans ltab (by decide), ptab⟩
      · exact ⟨.str "\n", rfl, by decide +kernel, by decide +kernel⟩
      · exact ⟨.str z, tz _⟩
      · exact ⟨.bl true, rfl⟩
      · exact ⟨.bl false, rfl⟩
      · exact ⟨.lst [.lst []], c, [.ref b], rfl, mns_at fc (r6 _ _ _ upd_same), ⟨_, [], rfl, ⟨b, [], rfl, mns_at fb (r6 _ _ _ (r5 _ _ upd_same)), rfl, by decide⟩, rfl⟩, by decide⟩
      · exact ⟨.int 0, rfl⟩
      · exact ⟨.int 1, rfl⟩
    rintro σ' H8 ⟨lo, vs, rfl, s8, hlo, hvl, hT⟩
    refine ⟨fun σ' H' => ∃ (le : Addr) (us : List V), σ' = [some (.ref t), some (.int n), some (.int HF), none, none, some (.ref l), some (.str z), some (.int mo), some (.ref lo), some (.ref le)] ∧ Same H8 H' ∧ H' le = some (.lst us) ∧ us.length = 14 ∧ TL H H' us, ?_, ?_⟩
    · refine ⟨_, rfl, _, rfl, _, _, rfl, rfl, _, rfl, _, rfl, _, _, rfl, rfl, _, rfl, _, rfl, _, rfl, _, rfl, _, rfl, _, _, rfl, rfl, _, rfl, _, rfl, _, rfl, _, rfl, by show 14 ≤ sizeLine; decide, fun le hle => ?_⟩
      refine ⟨le, _, rfl, sameU hle, upd_same, rfl, fun v hv => ?_⟩
      simp only [List.mem_cons, List.not_mem_nil, or_false] at hv
      rcases hv with rfl | rfl | rfl | rfl | rfl | rfl | rfl | rfl | rfl | rfl | rfl | rfl | rfl | rfl
      all_goals first | exact ⟨.int _, rfl⟩ | exact ⟨.bl _, rfl⟩ | exact ⟨.str z, tz _⟩
    rintro σ' H9 ⟨le, us, rfl, s9, hle, hul, hU⟩
    have z3 := pos_mod n (b := 3) (by decide)
    have z14 := pos_mod (n / 3) (b := 14) (by decide)
    have fin : ∀ (a : Addr) (ws : List V), H9 a = some (.lst ws) → ws.length = 14 → TL H H9 ws → ∀ l3, H9 l3 = none → ∃ v, atI ws (n / 3 % 14) = some v ∧ Q v (upd H9 l3 (.lst [.ref lo, .ref le, .ref le])) := fun a ws ha hw hTL l3 hl3 => by
      have hlt : (n / 3 % 14).toNat < ws.length := by rw [hw]; omega
      have eat : atI ws (n / 3 % 14) = some (ws[(n / 3 % 14).toNat]'hlt) := by
        have e2 : atI ws (((n / 3 % 14).toNat : Nat) : Int) = some (ws[(n / 3 % 14).toNat]'hlt) := atI_nat (List.getElem?_eq_getElem hlt)
        rw [Int.toNat_of_nonneg z14.1] at e2
        exact e2
      obtain ⟨d, hd⟩ := hTL _ (List.getElem_mem hlt)
      exact ⟨_, eat, q _ d _ ((s8.trans s9).trans (sameU hl3)) (Th.same (mns_grow (sameU hl3)) _ _ hd)⟩
    refine ⟨_, rfl, _, rfl, _, rfl, by show 3 ≤ sizeLine; decide, fun l3 hl3 => ?_⟩
    have f1 := fin lo vs (s9 _ _ hlo) hvl (hT.same s9) l3 hl3
    have f2 := fin le us hle hul hU l3 hl3
    have k3 := sameU (u := .lst [.ref lo, .ref le, .ref le]) hl3
    by_cases c0 : n % 3 = 0
    · obtain ⟨v, ev, qv⟩ := f1
      refine ⟨_, rfl, _, _, rfl, rfl, (by show (0 : Int) < 3; decide), l3, [.ref lo, .ref le, .ref le], _, _, rfl, rfl, SqL.of upd_same, (by rw [c0]; exact at0), ?_⟩
      exact ⟨_, rfl, _, _, rfl, rfl, ⟨by decide, by decide⟩, _, _, rfl, rfl, (by show (0 : Int) < 14; decide), lo, vs, _, v, rfl, rfl, SqL.of (k3 _ _ (s9 _ _ hlo)), ev, qv⟩
    · obtain ⟨v, ev, qv⟩ := f2
      have e3 : atI [V.ref lo, .ref le, .ref le] (n % 3) = some (.ref le) := by
        rcases (show n % 3 = 1 ∨ n % 3 = 2 by omega) with e | e
        · rw [e]; exact at1
        · rw [e]
          have h := atI_nat (xs := [V.ref lo, .ref le, .ref le]) (j := 2) (v := V.ref le) rfl
          exact h
      refine ⟨_, rfl, _, _, rfl, rfl, (by show (0 : Int) < 3; decide), l3, [.ref lo, .ref le, .ref le], _, _, rfl, rfl, SqL.of upd_same, e3, ?_⟩
      exact ⟨_, rfl, _, _, rfl, rfl, ⟨by decide, by decide⟩, _, _, rfl, rfl, (by show (0 : Int) < 14; decide), le, us, _, v, rfl, rfl, SqL.of (k3 _ _ hle), ev, qv⟩
theorem ok_asked_of (T : Tx K mg) {k : Kd} (hk : k.ok) : FnOk P w K mg base CX0 6 493 (HL.fdOf K 493) ["_law_kind", "_law_number_here"] (sp_asked k) := by
  cases k with
  | list k =>
    have G : FnOk P w K mg base CX0 (0 + 3) 493 (HL.fdOf K 493) ["_law_kind", "_law_number_here"] (sp_asked k) := ok_asked_step T (r := 0) (fnFalse (k := 0 + 1)) hk.2 (fun k' e => by rw [e] at hk; cases hk.1)
    exact (ok_asked_step T (r := 2) G hk fun k' e vs H Q E h => by cases e; exact h).mono (by decide)
  | _ => exact (ok_asked_step T (r := 0) (fnFalse (k := 0 + 1)) hk (fun k' e => by cases e)).mono (by decide)
end
end K7

namespace K7
open PySem L2
seal L2.PE L2.PS L2.PSs L2.PA L2.PT L2.PW L2.PG L2.PGs L2.PI L2.PO
def sp_right (k : Kd) : Sp := fun vs H Q _ => ∃ v u way n, vs = [v, u, .int way, .int n] ∧ IsK H k v ∧ TK H k u ∧ 0 ≤ n ∧ n < 2147483648 ∧ ∀ H', Same H H' → Q (.bl true) H'
theorem sok_text (s : String) : PyData.strOk (Str.ofString s) = true := by
  rw [Str.ofString_eq_toList, sok_iff]
  intro c hc
  obtain ⟨d, _, rfl⟩ := List.mem_map.mp hc
  have h := d.valid
  rcases h with h | h
  · exact Nat.lt_trans h (by decide)
  · exact h.2
theorem words_okF : ∀ k : Kd, k.flat = true → k.ok → ∀ y ∈ wordsK k, PyData.strOk y = true := by
  intro k hf hk y hy
  have one : ∀ (s : String) (x : Str), x ∈ [Str.ofString s] → PyData.strOk x = true := fun s x hx => by rw [List.mem_singleton.mp hx]; exact sok_text s
  have two : ∀ (s : String) (z x : Str), PyData.strOk z = true → x ∈ [Str.ofString s, z] → PyData.strOk x = true := fun s z x hz hx => by
    rcases List.mem_cons.mp hx with e | hx
    · rw [e]; exact sok_text s
    · rw [List.mem_singleton.mp hx]; exact hz
  cases k with
  | list j => cases hf
  | truth => exact one _ _ hy
  | count => exact one _ _ hy
  | whole => exact one _ _ hy
  | upto n => exact two _ _ _ (sok_text _) hy
  | form z => exact two _ _ _ hk hy
  | text n =>
    unfold wordsK at hy
    split at hy
    · exact one _ _ hy
    · exact two _ _ _ (sok_text _) hy
theorem words_ok {k : Kd} (hk : k.ok) : ∀ y ∈ wordsK k, PyData.strOk y = true := by
  by_cases hf : k.flat = true
  · exact words_okF k hf hk
  · cases k with
    | list j =>
      intro y hy
      rcases List.mem_cons.mp (show y ∈ Str.ofString "list" :: wordsK j from hy) with e | hy
      · rw [e]; exact sok_text _
      · exact words_okF j hk.1 hk.2 y hy
    | _ => exact absurd rfl hf
theorem words_three {k : Kd} (hk : k.ok) : (wordsK k).length ≤ 3 := by
  by_cases hf : k.flat = true
  · exact Nat.le_succ_of_le (words_few k hf)
  · cases k with
    | list j => exact Nat.succ_le_succ (words_few j hk.1)
    | _ => exact absurd rfl hf
theorem datVs_strs {K : PySem.W.Frag} {H : Hp} : ∀ ys : List Str, DatVs K H (ys.map V.str) (ys.map PyData.str)
  | [] => .nil
  | n :: r => .cons (.str n) (datVs_strs r)
theorem lay_strs : ∀ (ys : List Str), (∀ y ∈ ys, PyData.strOk y = true) → PyData.canLayAll0 (ys.map PyData.str) = true
  | [], _ => rfl
  | y :: r, h => by
    rw [List.map_cons, PyData.canLayAll0, Bool.and_eq_true]
    exact ⟨h y (List.mem_cons_self ..), lay_strs r fun z hz => h z (List.mem_cons_of_mem _ hz)⟩
theorem depth_strs : ∀ (ys : List Str), PyData.depthAll (ys.map PyData.str) ≤ 1
  | [] => by decide
  | y :: r => by
    rw [List.map_cons, PyData.depthAll]
    have := depth_strs r
    simp only [PyData.depth]
    omega
theorem shaped_strs {ys : List Str} (h : ∀ y ∈ ys, PyData.strOk y = true) : SeqAt.shaped (.list (ys.map PyData.str)) = true := by
  unfold SeqAt.shaped
  rw [Bool.and_eq_true]
  refine ⟨lay_strs ys h, decide_eq_true ?_⟩
  have := depth_strs ys
  simp only [PyData.depth]
  omega
theorem eqv_strs {ys : List Str} (h : ∀ y ∈ ys, PyData.strOk y = true) : PyData.eqv (.list (ys.map PyData.str)) (.list (ys.map PyData.str)) = true := SeqAt.eqv_refl _ (lay_strs ys h)
/-- what a kind's blank is -/
def BlV (H : Hp) (k : Kd) (v : V) : Prop := match k with
  | .list _ => ∃ l, v = .ref l ∧ H l = some (.lst [])
  | .truth => v = .bl false
  | .text _ => v = .str ""
  | .form _ => v = .non
  | _ => v = .int 0
theorem BlV.same {H H' : Hp} {k : Kd} {v : V} (s : Same H H') (h : BlV H k v) : BlV H' k v := by
  cases k with
  | list j => obtain ⟨l, e, h⟩ := h; exact ⟨l, e, s _ _ h⟩
  | _ => exact h
def spBl (k : Kd) : Sp := fun vs H Q _ => ∃ v, vs = [v] ∧ ∀ u H', Same H H' → BlV H' k u → (∀ l, u = .ref l → H l = none) → Q u H'
def dueL (m : Addr) : List (Key × V) := [(.inr "truth", .bl false), (.inr "text", .str ""), (.inr "list", .ref m), (.inr "form", .non)]
def dueV (m : Addr) (z : Str) : V := (valV (mergeK [] (dueL m)) (.inr z)).getD (.int 0)
theorem due_truth (m : Addr) : dueV m "truth" = .bl false := by kernel_rfl
theorem due_text (m : Addr) : dueV m "text" = .str "" := by kernel_rfl
theorem due_list (m : Addr) : dueV m "list" = .ref m := by kernel_rfl
theorem due_form (m : Addr) : dueV m "form" = .non := by kernel_rfl
theorem due_count (m : Addr) : dueV m "count" = .int 0 := by kernel_rfl
theorem due_whole (m : Addr) : dueV m "whole" = .int 0 := by kernel_rfl
theorem due_upto (m : Addr) : dueV m "upto" = .int 0 := by kernel_rfl
theorem due_ok {H : Hp} {m : Addr} (h : H m = some (.lst [])) (k : Kd) : BlV H k (dueV m k.word) := by
  cases k with
  | truth => exact due_truth m
  | count => exact due_count m
  | whole => exact due_whole m
  | upto n => exact due_upto m
  | text n => exact due_text m
  | form z => exact due_form m
  | list j => exact ⟨m, due_list m, h⟩
theorem at2 {x y z : V} {xs : List V} : atI (x :: y :: z :: xs) 2 = some z := by
  have h := atI_nat (xs := x :: y :: z :: xs) (j := 2) (v := z) rfl
  exact h
theorem in_tlf (k : Kd) : (if inV (.str k.word) [.str "text", .str "list", .str "form"] = true then (1 : Int) else 0) = shapeK k := by
  cases k with
  | truth => exact (by decide +kernel : (if inV (.str "truth") [.str "text", .str "list", .str "form"] = true then (1 : Int) else 0) = 0)
  | count => exact (by decide +kernel : (if inV (.str "count") [.str "text", .str "list", .str "form"] = true then (1 : Int) else 0) = 0)
  | whole => exact (by decide +kernel : (if inV (.str "whole") [.str "text", .str "list", .str "form"] = true then (1 : Int) else 0) = 0)
  | upto n => exact (by decide +kernel : (if inV (.str "upto") [.str "text", .str "list", .str "form"] = true then (1 : Int) else 0) = 0)
  | text n => exact (by decide +kernel : (if inV (.str "text") [.str "text", .str "list", .str "form"] = true then (1 : Int) else 0) = 1)
  | form z => exact (by decide +kernel : (if inV (.str "form") [.str "text", .str "list", .str "form"] = true then (1 : Int) else 0) = 1)
  | list j => exact (by decide +kernel : (if inV (.str "list") [.str "text", .str "list", .str "form"] = true then (1 : Int) else 0) = 1)
theorem in_lf (k : Kd) : (!inV (.str k.word) [.str "list", .str "form"]) = plainK k := by
  cases k with
  | truth => exact (by decide +kernel : (!inV (.str "truth") [.str "list", .str "form"]) = true)
  | count => exact (by decide +kernel : (!inV (.str "count") [.str "list", .str "form"]) = true)
  | whole => exact (by decide +kernel : (!inV (.str "whole") [.str "list", .str "form"]) = true)
  | upto n => exact (by decide +kernel : (!inV (.str "upto") [.str "list", .str "form"]) = true)
  | text n => exact (by decide +kernel : (!inV (.str "text") [.str "list", .str "form"]) = true)
  | form z => exact (by decide +kernel : (!inV (.str "form") [.str "list", .str "form"]) = false)
  | list j => exact (by decide +kernel : (!inV (.str "list") [.str "list", .str "form"]) = false)
theorem flat_tlf : [V.str "text", .str "list", .str "form"].all flatV = true := by decide +kernel
theorem flat_lf : [V.str "list", .str "form"].all flatV = true := by decide +kernel
theorem shaped_bii (b : Bool) (i j : Int) : SeqAt.shaped (.list [.bool b, .int i, .int j]) = true := by cases b <;> rfl
theorem eqv_bii (b : Bool) (i j : Int) : PyData.eqv (.list [.bool b, .int i, .int j]) (.list [.bool b, .int i, .int j]) = true := SeqAt.eqv_refl _ (by rfl)
section
variable {P : Program} {w : World} {K : PySem.W.Frag} {mg : Str → Option Value} {base : Heap}
theorem dBl (T : Tx K mg) (k : Kd) : Disp P w K mg base 1 "blank" k.cls (spBl k) := by
  refine Disp.imp (dBlank T k) fun vs H Q E h => ?_
  obtain ⟨v, rfl, q⟩ := h
  refine ⟨v, rfl, ?_⟩
  cases k with
  | list j => exact fun l H' h1 s e => q _ _ s ⟨l, rfl, e⟩ fun m z => by cases z; exact h1
  | truth => exact q _ H (Same.refl H) rfl fun l z => by cases z
  | count => exact q _ H (Same.refl H) rfl fun l z => by cases z
  | whole => exact q _ H (Same.refl H) rfl fun l z => by cases z
  | upto n => exact q _ H (Same.refl H) rfl fun l z => by cases z
  | text n => exact q _ H (Same.refl H) rfl fun l z => by cases z
  | form z => exact q _ H (Same.refl H) rfl fun l z => by cases z
theorem BlV.data (T : Tx K mg) {H : Hp} {k : Kd} {v u : V} (h : BlV H k v) (g : BlV H k u) : ∃ d ty b, DatV K H v d ∧ DatV K H u d ∧ SeqAt.shaped d = true ∧ PyData.eqv d d = true ∧ TyOf K H v (.type ty) ∧ TyOf K H u (.type ty) ∧ PySem.W.kitOne K (.type ty) (.type "bool") = some b := by
  cases k with
  | list j =>
    obtain ⟨l, rfl, e⟩ := h
    obtain ⟨m, rfl, e'⟩ := g
    exact ⟨.list [], "list", _, .lst (SqL.of e) .nil, .lst (SqL.of e') .nil, by decide, by decide, .lst e, .lst e', T.q_list_bool⟩
  | truth =>
    obtain rfl : v = _ := h
    obtain rfl : u = _ := g
    exact ⟨.bool false, "bool", _, .bl _, .bl _, by decide, by decide, .bl _, .bl _, T.q_bool_bool⟩
  | text n =>
    obtain rfl : v = _ := h
    obtain rfl : u = _ := g
    exact ⟨.str "", "str", _, .str _, .str _, by decide +kernel, by decide +kernel, .str _, .str _, T.q_str_bool⟩
  | form z =>
    obtain rfl : v = _ := h
    obtain rfl : u = _ := g
    exact ⟨.none, "NoneType", _, .non, .non, by decide, by decide, .non, .non, T.q_NoneType_bool⟩
  | count =>
    obtain rfl : v = _ := h
    obtain rfl : u = _ := g
    exact ⟨.int 0, "int", _, .int _, .int _, by decide, by decide, .int _, .int _, T.q_int_bool⟩
  | whole =>
    obtain rfl : v = _ := h
    obtain rfl : u = _ := g
    exact ⟨.int 0, "int", _, .int _, .int _, by decide, by decide, .int _, .int _, T.q_int_bool⟩
  | upto n =>
    obtain rfl : v = _ := h
    obtain rfl : u = _ := g
    exact ⟨.int 0, "int", _, .int _, .int _, by decide, by decide, .int _, .int _, T.q_int_bool⟩
end
end K7

namespace K7
open PySem L2
seal L2.PE L2.PS L2.PSs L2.PA L2.PT L2.PW L2.PG L2.PGs L2.PI L2.PO
section
variable {P : Program} {w : World} {K : PySem.W.Frag} {mg : Str → Option Value} {base : Heap}
theorem ok_right (T : Tx K mg) {k : Kd} (hko : k.ok) : FnOk P w K mg base CX0 7 500 (HL.fdOf K 500) ["_law_one", "_law_kind", "_law_way", "_law_number_here"] (sp_right k) := by
  have GW : FnOk P w K mg base CX0 6 476 (HL.fdOf K 476) ["_law_kind"] (sp_lwords k) := ok_words T hko
  have GI : FnOk P w K mg base CX0 1 483 (HL.fdOf K 483) ["_law_kind"] (sp_width7 k) := ok_width T hko
  have GA : FnOk P w K mg base CX0 6 493 (HL.fdOf K 493) ["_law_kind", "_law_number_here"] (sp_asked k) := ok_asked_of T hko
  have GS : FnOk P w K mg base CX0 6 488 (HL.fdOf K 488) ["_law_kind", "_law_value"] (sp_lsuits k) := ok_suits T hko
  refine T.d_right.ok sc_right (fun vs H Q E h => ?_) (fun cdv A outer s H vs Q E hr h => ?_)
  · obtain ⟨v, u, way, n, rfl, _⟩ := h
    rfl
  · obtain ⟨v, u, way, n, rfl, hv, hu7, h0, h1, q⟩ := h
    have hu := hr.units
    have hu1 : _ + 1 < cLine := hu_of hr
    have hu65 : (A.deeper (PyProof.Rows.envOfC "_law_right" (defScope s_right) s.heap.objs.size 500 cdv)).units + 65 < cLine := by have := hr.un; omega
    refine ⟨_, pss_cons (ps_if (pt_cmpR op_eq (pv 2) pe_int (nomark _))
        (pss_cons (ps_set (i := 4) sc_right.nd rfl (Or.inl rfl) (pe_methD0 (k := 3) rfl rfl rfl rfl rfl (pv 0) (hr.mono (by decide)) pass0))
          (pss_cons (ps_set (i := 5) sc_right.nd rfl (Or.inl rfl) (pe_and (pe_callB (call_isinstK K rfl) rfl T.y_isinstance bt_isinstance (pa_cons (pv 4) (pa_cons (pty T.y_list bt_list) pa_nil))) (pe_and (pe_cmpR (op_eqD hu) (pv 4) (pe_call GW (hr.mono (by decide)) rfl T.m_words T.k_words T.b_words .nil pass0 (pa_cons (pv 1) pa_nil)) (nomark _)) (pe_one (pe_cmpR op_eq (pe_methD0 (k := 1) rfl rfl rfl rfl rfl (pv 0) (hr.mono (by decide)) pass0) (pe_ix ix_tup (pv 1) pe_int (fun _ _ => rfl)) (nomark _))))))
          (pss_cons (ps_expr (pe_bm PySem.F.plainAttrs_list PySem.F.slot_list_append PySem.F.type_list_append mt_append (pv 4) (pa_cons pe_str pa_nil)))
          (pss_one (ps_ret (pe_and (pv 5) (pe_one (pe_cmpR (op_eqD hu) (pe_methD0 (k := 3) rfl rfl rfl rfl rfl (pv 0) (hr.mono (by decide)) pass0) (pe_call GW (hr.mono (by decide)) rfl T.m_words T.k_words T.b_words .nil pass0 (pa_cons (pv 1) pa_nil)) (nomark _)))))))))
        pss_nil)
      (pss_cons (ps_if (pt_cmpR op_eq (pv 2) pe_int (nomark _))
        (pss_cons (ps_set (i := 4) sc_right.nd rfl (Or.inl rfl) (pe_methD0 (k := 1) rfl rfl rfl rfl rfl (pv 0) (hr.mono (by decide)) pass0))
          (pss_cons (ps_set (i := 6) sc_right.nd rfl (Or.inl rfl) (pe_dget2 hu1 (pe_disp (pps_cons pe_str pe_bl (pps_cons pe_str pe_str (pps_cons pe_str (pe_lst pa_nil) (pps_cons pe_str pe_non pps_nil)))) rfl rfl (by decide) (by decide)) (pe_ix ix_tup (pv 1) pe_int (fun _ _ => rfl)) pe_int ⟨rfl, rfl, rfl, rfl⟩))
          (pss_cut (ps_if (pt_cmpR op_eq (pe_ix ix_tup (pv 1) pe_int (fun _ _ => rfl)) pe_str (nomark _))
            (pss_cons (ps_expr (pe_bm PySem.F.plainAttrs_list PySem.F.slot_list_append PySem.F.type_list_append mt_append (pv 4) (pa_cons pe_int pa_nil)))
              (pss_one (ps_set (i := 4) sc_right.nd rfl (Or.inl rfl) (pe_methD0 (k := 1) rfl rfl rfl rfl rfl (pv 0) (hr.mono (by decide)) pass0))))
            pss_nil)
          (pss_one (ps_ret (pe_and (pe_cmpR (op_eqD hu) (pv 4) (pv 6) (nomark _)) (pe_one (pe_cmpR op_eq (pe_callB (call_isinstK K rfl) rfl T.y_isinstance bt_isinstance (pa_cons (pv 4) (pa_cons (pty T.y_bool bt_bool) pa_nil))) (pe_callB (call_isinstK K rfl) rfl T.y_isinstance bt_isinstance (pa_cons (pv 6) (pa_cons (pty T.y_bool bt_bool) pa_nil))) (nomark _)))))))))
        pss_nil)
      (pss_cons (ps_if (pt_cmpR op_eq (pv 2) pe_int (nomark _))
        (pss_cons (ps_set (i := 7) sc_right.nd rfl (Or.inl rfl) (pe_lst (pa_cons (pe_methD0 (k := 1) rfl rfl rfl rfl rfl (pv 0) (hr.mono (by decide)) pass0) (pa_cons (pe_methD0 (k := 1) rfl rfl rfl rfl rfl (pv 0) (hr.mono (by decide)) pass0) (pa_cons (pe_methD0 (k := 1) rfl rfl rfl rfl rfl (pv 0) (hr.mono (by decide)) pass0) pa_nil)))))
          (pss_cons (ps_set (i := 8) sc_right.nd rfl (Or.inl rfl) (pe_callTy call_int1 rfl T.y_int bt_int (pa_cons (pe_cmpR op_in_seq (pe_ix ix_tup (pv 1) pe_int (fun _ _ => rfl)) (pe_tup (pa_cons pe_str (pa_cons pe_str (pa_cons pe_str pa_nil)))) rfl) pa_nil)))
          (pss_cons (ps_if (PW.pt (pw_or (pt_not (pt_val (pe_callB (call_isinstK K rfl) rfl T.y_isinstance bt_isinstance (pa_cons (pe_ix ix_list (pv 7) pe_int (fun _ _ => rfl)) (pa_cons (pty T.y_bool bt_bool) pa_nil))))) (pw_or (pt_val (pe_callB (call_isinstK K rfl) rfl T.y_isinstance bt_isinstance (pa_cons (pe_ix ix_list (pv 7) pe_int (fun _ _ => rfl)) (pa_cons (pty T.y_bool bt_bool) pa_nil)))) (pw_or1 (pt_val (pe_callB (call_isinstK K rfl) rfl T.y_isinstance bt_isinstance (pa_cons (pe_ix ix_list (pv 7) pe_int (fun _ _ => rfl)) (pa_cons (pty T.y_bool bt_bool) pa_nil))))))))
            (pss_one (ps_ret pe_bl))
            pss_nil)
          (pss_one (ps_ret (pe_cmpR (op_eqD hu) (pv 7) (pe_lst (pa_cons (pe_cmpR op_notIn_seq (pe_ix ix_tup (pv 1) pe_int (fun _ _ => rfl)) (pe_tup (pa_cons pe_str (pa_cons pe_str pa_nil))) rfl) (pa_cons (pv 8) (pa_cons (pe_call GI (hr.mono (by decide)) rfl T.m_width T.k_width T.b_width .nil pass0 (pa_cons (pv 1) pa_nil)) pa_nil)))) (nomark _)))))))
        pss_nil)
      (pss_cons (ps_set (i := 9) sc_right.nd rfl (Or.inl rfl) (pe_call GA (hr.mono (by decide)) rfl T.m_asked_of T.k_asked_of T.b_asked_of .nil pass0 (pa_cons (pv 1) (pa_cons (pv 3) pa_nil))))
      (pss_cons (ps_set (i := 4) sc_right.nd rfl (Or.inl rfl) (pe_methD (k := 4) rfl rfl rfl rfl rfl (pv 0) (hr.mono (by decide)) pass0 (pa_cons (pv 9) pa_nil)))
      (pss_one (ps_ret (pe_and (pe_callB (call_isinstK K rfl) rfl T.y_isinstance bt_isinstance (pa_cons (pv 4) (pa_cons (pty T.y_bool bt_bool) pa_nil))) (pe_one (pe_cmpR op_eq (pv 4) (pe_call GS (hr.mono (by decide)) rfl T.m_suits T.k_suits T.b_suits .nil pass0 (pa_cons (pv 1) (pa_cons (pv 9) pa_nil))) (nomark _)))))))))), ?_⟩
    obtain ⟨a, dx, fs, rfl, ha, hf⟩ := hv.ins
    obtain ⟨t, ys, rfl, ht⟩ := hu7.word
    refine ⟨_, rfl, rfl, _, rfl, ite2 (fun _ => ?_) (fun _ => ?_)⟩
    · refine ⟨_, rfl, a, _, dx, fs, _, rfl, ha, hf _ (by decide) (by decide) (by decide), dWords T hko, _, rfl, hv, fun l H2 hl s2 e2 => ?_⟩
      refine ⟨_, rfl, .ref l, .ty "list", _, _, _, rfl, .lst e2, rfl, T.q_list_list, _, rfl, iteT ?_⟩
      refine ⟨_, rfl, _, rfl, _, rfl, hu7.same s2, fun l2 H3 hl2 s3 e3 => ⟨_, _, .lst (SqL.of (s3 _ _ e2)) (datVs_strs _), .lst (SqL.of e3) (datVs_strs _), shaped_strs (words_ok hko), shaped_strs (words_ok hko), _, rfl, ?_⟩⟩
      rw [eqv_strs (words_ok hko)]
      have s23 := s2.trans s3
      refine iteT ⟨_, rfl, a, _, dx, fs, _, rfl, s23 _ _ ha, hf _ (by decide) (by decide) (by decide), dWord T k, _, rfl, _, rfl, t, _, _, _, rfl, rfl, SqT.of (s23 _ _ ht), at0, rfl, ?_⟩
      rw [decide_eq_true rfl]
      have hl3 : H3 l = some (.lst ((wordsK k).map V.str)) := s3 _ _ e2
      refine ⟨_, rfl, .inl ⟨rfl, _, SqL.of hl3⟩, l, _, _, rfl, rfl, hl3, small1000 (by rw [List.length_map]; exact Nat.le_trans (words_three hko) (by decide)), ?_⟩
      have s4 : Same H (upd H3 l (.lst ((wordsK k).map V.str ++ [.str "more"]))) := s23.put hl
      refine ⟨_, rfl, _, rfl, iteT ?_⟩
      refine ⟨_, rfl, a, _, dx, fs, _, rfl, s4 _ _ ha, hf _ (by decide) (by decide) (by decide), dWords T hko, _, rfl, hv.same s4, fun l5 H5 hl5 s5 e5 => ?_⟩
      refine ⟨_, rfl, _, rfl, hu7.same (s4.trans s5), fun l6 H6 hl6 s6 e6 => ⟨_, _, .lst (SqL.of (s6 _ _ e5)) (datVs_strs _), .lst (SqL.of e6) (datVs_strs _), shaped_strs (words_ok hko), shaped_strs (words_ok hko), ?_⟩⟩
      rw [eqv_strs (words_ok hko)]
      exact q _ ((s4.trans s5).trans s6)
    refine ⟨_, rfl, rfl, _, rfl, ite2 (fun _ => ?_) (fun _ => ?_)⟩
    · refine ⟨_, rfl, a, _, dx, fs, _, rfl, ha, hf _ (by decide) (by decide) (by decide), dBl T k, _, rfl, fun u H2 s2 hb hul => ?_⟩
      refine fun p hp => ⟨by show 0 ≤ sizeLine; decide, fun m hm => ⟨keepH upd_same hm, dueL m, rfl, by show 4 ≤ 15; decide, ?_⟩⟩
      have s4 : Same H2 (upd (upd (upd H2 p (.dK [])) m (.lst [])) p (.dK (mergeK [] (dueL m)))) := Same.put ((sameU hp).trans (sameU hm)) hp
      have hmp : m ≠ p := fun z => by rw [z, upd_same] at hm; cases hm
      have e4 : (upd (upd (upd H2 p (.dK [])) m (.lst [])) p (.dK (mergeK [] (dueL m)))) m = some (.lst []) := by rw [upd_ne hmp]; exact upd_same
      have d4 : (upd (upd (upd H2 p (.dK [])) m (.lst [])) p (.dK (mergeK [] (dueL m)))) p = some (.dK (mergeK [] (dueL m))) := upd_same
      have hml : ∀ l, H2 l = some (.lst []) → m ≠ l := fun l hl z => by rw [z, keepH hl hp] at hm; cases hm
      revert s4 e4 d4
      generalize upd (upd (upd H2 p (.dK [])) m (.lst [])) p (.dK (mergeK [] (dueL m))) = H4
      intro s4 e4 d4
      have s24 := s2.trans s4
      refine ⟨p, rfl, .inl ⟨_, .inl d4⟩, _, rfl, t, _, _, _, rfl, rfl, SqT.of (s24 _ _ ht), at0, _, DGet.k (k := .inr k.word) d4, ?_⟩
      refine ⟨fun σ' H' => ∃ v u, σ' = [some (.ref a), some (.ref t), some (.int way), some (.int n), some v, none, some u, none, none, none] ∧ Same H H' ∧ BlV H' k v ∧ BlV H' k u, ?_, ?_⟩
      · refine ⟨_, rfl, t, _, _, _, rfl, rfl, SqT.of (s24 _ _ ht), at0, rfl, _, rfl, ?_⟩
        by_cases hw : k.word = "list"
        · obtain ⟨j, rfl⟩ := w_list hw
          obtain ⟨l, rfl, el⟩ := hb
          have el4 := s4 _ _ el
          refine iteP rfl ⟨_, rfl, .inl ⟨rfl, _, SqL.of el4⟩, l, _, _, rfl, rfl, el4, small1000 (by show 0 ≤ 1000; decide), ?_⟩
          have s5 : Same H (upd H4 l (.lst ([] ++ [.int 1]))) := s24.put (hul l rfl)
          refine ⟨_, rfl, a, _, dx, fs, _, rfl, s5 _ _ ha, hf _ (by decide) (by decide) (by decide), dBl T (.list j), _, rfl, fun u6 H6 s6 hb6 _ => ?_⟩
          refine ⟨u6, .ref m, ?_, s5.trans s6, hb6, m, rfl, s6 _ _ (by rw [upd_ne (hml l el)]; exact e4)⟩
          exact congrArg (fun z => [some (V.ref a), some (V.ref t), some (V.int way), some (V.int n), some u6, none, some z, none, none, none]) (due_list m)
        · exact iteD (fun z => hw (V.str.inj z)) ⟨u, _, rfl, s24, hb.same s4, due_ok e4 k⟩
      rintro σ' H5 ⟨v, u, rfl, s5, hv5, hu5⟩
      obtain ⟨d, ty, b, e1, e2, e3, eq4, t1, t2, kb⟩ := BlV.data T hv5 hu5
      refine ⟨_, rfl, _, rfl, d, d, e1, e2, e3, e3, _, rfl, ?_⟩
      rw [eq4]
      refine iteT ⟨_, rfl, v, .ty "bool", _, _, _, rfl, t1, rfl, kb, _, rfl, u, .ty "bool", _, _, _, rfl, t2, rfl, kb, rfl, ?_⟩
      rw [decide_eq_true rfl]
      exact q _ s5
    refine ⟨_, rfl, rfl, _, rfl, ite2 (fun _ => ?_) (fun _ => ?_)⟩
    · refine ⟨_, rfl, a, _, dx, fs, _, rfl, ha, hf _ (by decide) (by decide) (by decide), dPlain T k, _, rfl, _, rfl, a, _, dx, fs, _, rfl, ha, hf _ (by decide) (by decide) (by decide), dShape T k, _, rfl, _, rfl, a, _, dx, fs, _, rfl, ha, hf _ (by decide) (by decide) (by decide), dWidth T k, _, rfl, hv, by show 3 ≤ sizeLine; decide, fun l hl => ?_⟩
      have s2 : Same H (upd H l (.lst [.bl (plainK k), .int (shapeK k), .int (widthK k)])) := sameU hl
      have e2 : (upd H l (.lst [.bl (plainK k), .int (shapeK k), .int (widthK k)])) l = some (.lst [.bl (plainK k), .int (shapeK k), .int (widthK k)]) := upd_same
      revert s2 e2
      generalize upd H l (.lst [.bl (plainK k), .int (shapeK k), .int (widthK k)]) = H2
      intro s2 e2
      refine ⟨_, rfl, t, _, _, _, rfl, rfl, SqT.of (s2 _ _ ht), at0, by show 3 ≤ sizeLine; decide, fun p hp => ⟨p, _, rfl, .inr (SqT.of upd_same), rfl, flat_tlf, .inr ⟨_, rfl, ?_⟩⟩⟩
      have s3 : Same H2 (upd H2 p (.tup [.str "text", .str "list", .str "form"])) := sameU hp
      revert s3
      generalize upd H2 p (.tup [.str "text", .str "list", .str "form"]) = H3
      intro s3
      have e3 := s3 _ _ e2
      have s23 := s2.trans s3
      refine ⟨_, rfl, l, _, _, _, rfl, rfl, SqL.of e3, at0, .bl (plainK k), .ty "bool", _, _, _, rfl, .bl _, rfl, T.q_bool_bool, _, rfl, iteF ?_⟩
      refine ⟨_, rfl, l, _, _, _, rfl, rfl, SqL.of e3, at1, .int (shapeK k), .ty "bool", _, _, _, rfl, .int _, rfl, T.q_int_bool, _, rfl, iteF ?_⟩
      refine ⟨_, rfl, l, _, _, _, rfl, rfl, SqL.of e3, at2, .int (widthK k), .ty "bool", _, _, _, rfl, .int _, rfl, T.q_int_bool, _, rfl, iteF ?_⟩
      refine ⟨_, rfl, _, rfl, t, _, _, _, rfl, rfl, SqT.of (s23 _ _ ht), at0, by show 2 ≤ sizeLine; decide, fun p2 hp2 => ⟨p2, _, rfl, .inr (SqT.of upd_same), rfl, flat_lf, ?_⟩⟩
      have s4 : Same H3 (upd H3 p2 (.tup [.str "list", .str "form"])) := sameU hp2
      revert s4
      generalize upd H3 p2 (.tup [.str "list", .str "form"]) = H4
      intro s4
      refine ⟨_, rfl, _, rfl, _, rfl, hu7.same (s23.trans s4), by show 3 ≤ sizeLine; decide, fun l3 hl3 => ?_⟩
      refine ⟨.list [.bool (plainK k), .int (shapeK k), .int (widthK k)], .list [.bool (plainK k), .int (shapeK k), .int (widthK k)], .lst (SqL.of (keepH (s4 _ _ e3) hl3)) (.cons (.bl _) (.cons (.int _) (.cons (.int _) .nil))), .lst (SqL.of upd_same) ?_, shaped_bii _ _ _, shaped_bii _ _ _, ?_⟩
      · have c1 := in_tlf k
        have c2 := in_lf k
        rw [← c1, ← c2]
        exact .cons (.bl _) (.cons (.int _) (.cons (.int _) .nil))
      · rw [eqv_bii]
        exact q _ ((s23.trans s4).trans (sameU hl3))
    refine ⟨_, rfl, _, rfl, _, n, rfl, hu7, h0, h1, fun x d H2 s2 hd => ?_⟩
    have hd2 := Th.same mns_in d x hd
    refine ⟨_, rfl, a, _, dx, fs, _, rfl, s2 _ _ ha, hf _ (by decide) (by decide) (by decide), dSuits T hko, _, rfl, _, x, d, rfl, hv.same s2, hd2, fun H3 s3 => ?_⟩
    refine ⟨_, rfl, .bl (suitsK k d), .ty "bool", _, _, _, rfl, .bl _, rfl, T.q_bool_bool, _, rfl, iteT ?_⟩
    refine ⟨_, rfl, _, rfl, _, rfl, _, x, d, rfl, hu7.same (s2.trans s3), Th.same s3 d x hd2, fun H4 s4 => ⟨rfl, ?_⟩⟩
    rw [decide_eq_true rfl]
    exact q _ ((s2.trans s3).trans s4)
end
end K7

namespace K7
open PySem L2
seal L2.PE L2.PS L2.PSs L2.PA L2.PT L2.PW L2.PG L2.PGs L2.PI L2.PO
theorem TK.put {H : Hp} {D : Addr} {zs us : List V} (h : H D = some (.lst zs)) : ∀ {k : Kd} {v : V}, TK H k v → TK (upd H D (.lst us)) k v
  | .upto _, _, ⟨a, e, x⟩ => ⟨a, e, by rw [upd_ne (ne_of x h (by intro z; cases z))]; exact x⟩
  | .text _, _, ⟨a, e, x⟩ => ⟨a, e, by rw [upd_ne (ne_of x h (by intro z; cases z))]; exact x⟩
  | .form _, _, ⟨a, e, x⟩ => ⟨a, e, by rw [upd_ne (ne_of x h (by intro z; cases z))]; exact x⟩
  | .list _, _, ⟨a, u, e, x, k⟩ => ⟨a, u, e, by rw [upd_ne (ne_of x h (by intro z; cases z))]; exact x, TK.put h k⟩
  | .truth, _, ⟨a, e, x⟩ => ⟨a, e, by rw [upd_ne (ne_of x h (by intro z; cases z))]; exact x⟩
  | .count, _, ⟨a, e, x⟩ => ⟨a, e, by rw [upd_ne (ne_of x h (by intro z; cases z))]; exact x⟩
  | .whole, _, ⟨a, e, x⟩ => ⟨a, e, by rw [upd_ne (ne_of x h (by intro z; cases z))]; exact x⟩
theorem IsK.put {H : Hp} {D : Addr} {zs us : List V} (h : H D = some (.lst zs)) : ∀ {k : Kd} {v : V}, IsK H k v → IsK (upd H D (.lst us)) k v
  | .upto _, _, ⟨a, dx, e, x⟩ => ⟨a, dx, e, by rw [upd_ne (ne_of x h (by intro z; cases z))]; exact x⟩
  | .text _, _, ⟨a, dx, e, x⟩ => ⟨a, dx, e, by rw [upd_ne (ne_of x h (by intro z; cases z))]; exact x⟩
  | .form _, _, ⟨a, dx, e, x⟩ => ⟨a, dx, e, by rw [upd_ne (ne_of x h (by intro z; cases z))]; exact x⟩
  | .list _, _, ⟨a, dx, u, e, x, k⟩ => ⟨a, dx, u, e, by rw [upd_ne (ne_of x h (by intro z; cases z))]; exact x, IsK.put h k⟩
  | .truth, _, ⟨a, dx, e, x⟩ => ⟨a, dx, e, by rw [upd_ne (ne_of x h (by intro z; cases z))]; exact x⟩
  | .count, _, ⟨a, dx, e, x⟩ => ⟨a, dx, e, by rw [upd_ne (ne_of x h (by intro z; cases z))]; exact x⟩
  | .whole, _, ⟨a, dx, e, x⟩ => ⟨a, dx, e, by rw [upd_ne (ne_of x h (by intro z; cases z))]; exact x⟩
section
variable {J : It} {H1 : Hp} {xs : List V} {σ0 : L2.St} {g : TG} {te : TE} {Q : VK}
/-- a comprehension whose parts keep a promise that a change of the list itself leaves alone -/
theorem comp_rel (W : Wk J H1 xs) (hz : xs.length ≤ 1000) (Pd : Nat → Hp → V → Prop) (hsame : ∀ i H H' v, Same H H' → Pd i H v → Pd i H' v)
    (hput : ∀ i H D zs us v, H D = some (.lst zs) → Pd i H v → Pd i (upd H D (.lst us)) v)
    (hs : ∀ (j : Nat) (x : V), xs[j]? = some x → ∀ (H : Hp) (R : VK), Same H1 H → (∀ y H', Same H H' → Pd j H' y → R y H') → g x σ0 H fun σ2 H2 => Sub σ0 σ2 ∧ te σ2 H2 R)
    (hd : ∀ D H' ys, H1 D = none → Same H1 H' → H' D = some (.lst ys) → ys.length = xs.length → (∀ (i : Nat) y, ys[i]? = some y → Pd i H' y) → Q (.ref D) H') : CompW J H1 σ0 g tTrue te Q := by
  intro D hD
  refine ⟨fun i m ys H => m = xs.length - i ∧ i ≤ xs.length ∧ Same H1 H ∧ H D = some (.lst ys) ∧ ys.length = i ∧ ∀ (j : Nat) y, ys[j]? = some y → Pd j H y, ⟨xs.length, by simp, Nat.zero_le _, sameU hD, upd_same, rfl, fun j y e => by simp at e⟩, ?_⟩
  rintro i m ys H ⟨rfl, hi, sm, hDy, hl, hp⟩
  refine ⟨hDy, ?_⟩
  by_cases hlt : i < xs.length
  · refine .inr ⟨W.go H i sm hlt, fun x H' y => ?_⟩
    obtain ⟨e, hx⟩ := W.yld H i x H' sm hlt y
    subst e
    refine hs i x hx H' _ sm fun y H4 s4 hy => ?_
    refine ⟨s4 _ _ hDy, small1000 (by omega), xs.length - (i + 1), by omega, rfl, hlt, (sm.trans s4).put hD, upd_same, by rw [List.length_append, hl]; rfl, fun j z hj => ?_⟩
    refine hput _ _ _ _ _ _ (s4 _ _ hDy) ?_
    by_cases hji : j < i
    · rw [List.getElem?_append_left (by omega)] at hj
      exact hsame _ _ _ _ s4 (hp j z hj)
    · rw [List.getElem?_append_right (by omega)] at hj
      have ej : j = i := by
        by_cases h0 : j - ys.length = 0
        · omega
        · rw [List.getElem?_eq_none (by simp; omega)] at hj; cases hj
      subst ej
      rw [hl, Nat.sub_self] at hj
      cases hj
      exact hy
  · have e : i = xs.length := by omega
    subst e
    exact .inl ⟨W.stop H _ sm rfl, hd D H ys hD sm hDy hl hp⟩
end
section
variable {H1 : Hp} {σ0 : L2.St} {g : TG} {tif : TT} {te : TE} {Q : VK}
/-- a comprehension over zip that lets nothing by -/
theorem comp_zip0 {a b : Addr} {xs ys : List V} (ha : H1 a = some (.lst xs)) (hb : H1 b = some (.lst ys)) (hl : xs.length = ys.length)
    (hs : ∀ (j : Nat) (x y : V) (Tt : Addr) (H : Hp), xs[j]? = some x → ys[j]? = some y → Same H1 H → H Tt = some (.tup [x, y]) → ∀ R : Bool → V → Hp → Prop, (∀ H', Same H H' → R false .non H') →
      g (.ref Tt) σ0 H fun σ2 H2 => Sub σ0 σ2 ∧ tif σ2 H2 fun b H3 => if b = true then te σ2 H3 (R true) else R false .non H3)
    (hd : ∀ D H', H1 D = none → Same H1 H' → H' D = some (.lst []) → Q (.ref D) H') : CompW (Itz a b) H1 σ0 g tif te Q := by
  intro D hD
  refine ⟨fun i m zs H => m = xs.length - i ∧ i ≤ xs.length ∧ zs = [] ∧ Same H1 H ∧ H D = some (.lst zs), ⟨xs.length, by simp, Nat.zero_le _, rfl, sameU hD, upd_same⟩, ?_⟩
  rintro i m zs H ⟨rfl, hi, rfl, sm, hDy⟩
  refine ⟨hDy, ?_⟩
  by_cases hlt : i < xs.length
  · have hlt2 : i < ys.length := by omega
    refine .inr ⟨⟨xs, ys, _, _, sm _ _ ha, sm _ _ hb, List.getElem?_eq_getElem hlt, List.getElem?_eq_getElem hlt2⟩, fun v H' y => ?_⟩
    obtain ⟨Tt, xs', ys', x, y, rfl, hT, rfl, ha', hb', hx, hy⟩ := y
    rw [sm _ _ ha] at ha'
    rw [sm _ _ hb] at hb'
    cases ha'
    cases hb'
    have sT := sameU (u := .tup [x, y]) hT
    exact hs i x y Tt _ hx hy (sm.trans sT) upd_same (fun b v H4 => if b = true then H4 D = some (.lst []) ∧ ([] : List V).length < sizeLine ∧ ∃ m', m' < xs.length - i ∧
        (m' = xs.length - (i + 1) ∧ i + 1 ≤ xs.length ∧ ([] : List V) ++ [v] = [] ∧ Same H1 (upd H4 D (.lst ([] ++ [v]))) ∧ upd H4 D (.lst ([] ++ [v])) D = some (.lst ([] ++ [v])))
      else ∃ m', m' < xs.length - i ∧ (m' = xs.length - (i + 1) ∧ i + 1 ≤ xs.length ∧ ([] : List V) = [] ∧ Same H1 H4 ∧ H4 D = some (.lst []))) fun H4 s4 => by
        rw [if_neg Bool.false_ne_true]
        exact ⟨xs.length - (i + 1), by omega, rfl, hlt, rfl, (sm.trans sT).trans s4, s4 _ _ (sT _ _ hDy)⟩
  · have e : i = xs.length := by omega
    subst e
    exact .inl ⟨⟨xs, ys, sm _ _ ha, sm _ _ hb, .inl (Nat.le_refl _)⟩, hd D H hD sm hDy⟩
end
theorem pg_tupK {X : Cx} (K : PySem.W.Frag) (hK : X.K = K) {pos : Pos} {es : List Expr} {k : Nat} {t : TGs} {n : Nat} (hc : X.calm = true) (h : PGs X es t)
    (hn : (assignEach es X.env).length = n := by rfl) (hst : (assignEach es X.env).findIdx? (·.1) = none := by rfl) : PG X (.Tuple es k pos) (gTup K n t) := by
  subst hK
  exact pg_tup hc h hn hst
theorem at_mod {α : Type} {xs : List α} {r b : Int} (hb : (xs.length : Int) = b) (hp : 0 < b) : ∃ x, atI xs (r % b) = some x ∧ xs[(r % b).toNat]? = some x := by
  have z := pos_mod r hp
  have hlt : (r % b).toNat < xs.length := by omega
  refine ⟨xs[(r % b).toNat], ?_, List.getElem?_eq_getElem hlt⟩
  have e2 := atI_nat (List.getElem?_eq_getElem hlt)
  rw [Int.toNat_of_nonneg z.1] at e2
  exact e2
def wayL : List Int := [0, 1, 2, 3, 3, 3]
def sp_law (K : PySem.W.Frag) : Sp := fun vs H Q _ => ∃ (a : Addr) (ns : List Int), vs = [.ref a] ∧ SqL K H a (ns.map V.int) ∧ ∀ H', Q (.bl true) H'
theorem ndKS : ((["_law_k"] : List Str) ++ (["_law_script"] : List Str)).Nodup := by decide +kernel
theorem ndKd : ((["_law_kind"] : List Str) ++ ([] : List Str)).Nodup := by decide +kernel
theorem ndOK : ((["_law_one", "_law_kind"] : List Str) ++ ([] : List Str)).Nodup := by decide +kernel
section
variable {P : Program} {w : World} {K : PySem.W.Frag} {mg : Str → Option Value} {base : Heap}
theorem fnAny {r : Nat} {f : Addr} {fd : FuncData} {ps : List Str} {sp : Kd → Sp} (F : ∀ k : Kd, k.ok → FnOk P w K mg base CX0 r f fd ps (sp k)) : FnOk P w K mg base CX0 r f fd ps (fun vs H Q E => ∃ k : Kd, k.ok ∧ sp k vs H Q E) :=
  ⟨fun _ _ _ _ h => h.elim fun k h => (F k h.1).1 _ _ _ _ h.2, fun _ _ _ _ _ _ _ _ _ x0 x1 x2 x3 x4 x5 h => h.elim fun k h => (F k h.1).2 _ _ _ _ _ _ _ _ _ x0 x1 x2 x3 x4 x5 h.2⟩
theorem IsK.kind (T : Tx K mg) {H : Hp} {k : Kd} {v : V} (h : IsK H k v) : ∃ a, v = .ref a ∧ TyOf K H v (.ref k.cls) ∧ PySem.W.kitOne K (.ref k.cls) (.ref 101) = some true := by
  cases k with
  | list j => obtain ⟨a, dx, u, rfl, e, _⟩ := h; exact ⟨a, rfl, T.ty_List e, T.q_List_Kind⟩
  | upto n => obtain ⟨a, dx, rfl, e⟩ := h; exact ⟨a, rfl, T.ty_Upto e, T.q_Upto_Kind⟩
  | text n => obtain ⟨a, dx, rfl, e⟩ := h; exact ⟨a, rfl, T.ty_Text e, T.q_Text_Kind⟩
  | form n => obtain ⟨a, dx, rfl, e⟩ := h; exact ⟨a, rfl, T.ty_Nested e, T.q_Nested_Kind⟩
  | truth => obtain ⟨a, dx, rfl, e⟩ := h; exact ⟨a, rfl, T.ty_Truth e, T.q_Truth_Kind⟩
  | count => obtain ⟨a, dx, rfl, e⟩ := h; exact ⟨a, rfl, T.ty_Count e, T.q_Count_Kind⟩
  | whole => obtain ⟨a, dx, rfl, e⟩ := h; exact ⟨a, rfl, T.ty_Whole e, T.q_Whole_Kind⟩
theorem ok_law (T : Tx K mg) : FnOk P w K mg base CX0 9 512 (HL.fdOf K 512) ["_law_script"] (sp_law K) := by
  have GN : FnOk P w K mg base CX0 1 438 (HL.fdOf K 438) ["_law_script", "_law_k"] (sp_number K) := ok_number T
  have GM : FnOk P w K mg base CX0 1 445 (HL.fdOf K 445) ["_law_number_here", "_law_k"] sp_mixed := ok_mixed T
  have GD : FnOk P w K mg base CX0 2 464 (HL.fdOf K 464) ["_law_number_here"] sp_drawn := ok_drawn T (ok_names T)
  have GO : FnOk P w K mg base CX0 6 471 (HL.fdOf K 471) ["_law_kind"] (fun vs H Q E => ∃ k : Kd, k.ok ∧ sp_made k vs H Q E) := fnAny fun k hk => ok_made_of T hk
  have GR : FnOk P w K mg base CX0 7 500 (HL.fdOf K 500) ["_law_one", "_law_kind", "_law_way", "_law_number_here"] (fun vs H Q E => ∃ k : Kd, k.ok ∧ sp_right k vs H Q E) := fnAny fun k hk => ok_right T hk
  have GH : FnOk P w K mg base CX0 6 507 (HL.fdOf K 507) ["_law_one", "_law_kind"] (fun vs H Q E => ∃ k : Kd, k.ok ∧ sp_held k vs H Q E) := fnAny fun k hk => ok_held T hk
  refine T.d_law.ok sc_law (fun vs H Q E h => ?_) (fun cdv A outer s H vs Q E hr h => ?_)
  · obtain ⟨a, ns, rfl, _⟩ := h
    rfl
  · obtain ⟨sa, ns, rfl, hS, q⟩ := h
    have hu := hr.units
    refine ⟨_, pss_cut (ps_setComp (i := 1) (ts := ["_law_k"]) (xs := ["_law_script"]) (js := [0]) rfl ⟨rfl, rfl, by decide +kernel, by decide +kernel, freeIn rfl⟩ (.cons rfl (.inl rfl) rfl .nil) (by decide +kernel) (pi_range1 rfl T.y_range (pa_cons pe_int pa_nil))
          (fun C s₀ H₀ fp => pg_name (X := cxC _ _ _ C s₀ H₀ fp) (i := 0) ndKS rfl (Or.inl rfl) (Or.inr rfl))
          (fun C s₀ H₀ fp => pif_nil (X := cxC _ _ _ C s₀ H₀ fp))
          (fun C s₀ H₀ fp => pe_call (X := cxC _ _ _ C s₀ H₀ fp) GD (hr.mono (by decide)) rfl T.m_drawn T.k_drawn T.b_drawn .nil pass0 (pa_cons (pe_call (X := cxC _ _ _ C s₀ H₀ fp) GN (hr.mono (by decide)) rfl T.m_number T.k_number T.b_number .nil pass0 (pa_cons (pv 1) (pa_cons (pv 0) pa_nil))) pa_nil))
          sc_law.nd rfl (Or.inl rfl) rfl)
      (pss_cut (ps_setComp (i := 2) (ts := ["_law_kind"]) (xs := []) (js := []) rfl ⟨rfl, rfl, by decide +kernel, by decide +kernel, freeIn rfl⟩ .nil (by decide +kernel) (pi_list (pv 1))
          (fun C s₀ H₀ fp => pg_name (X := cxC _ _ _ C s₀ H₀ fp) (i := 0) ndKd rfl (Or.inl rfl) (Or.inr rfl))
          (fun C s₀ H₀ fp => pif_nil (X := cxC _ _ _ C s₀ H₀ fp))
          (fun C s₀ H₀ fp => pe_call (X := cxC _ _ _ C s₀ H₀ fp) GO (hr.mono (by decide)) rfl T.m_made_of T.k_made_of T.b_made_of .nil pass0 (pa_cons (pv 0) pa_nil))
          sc_law.nd rfl (Or.inl rfl) rfl)
      (pss_cut (ps_for PassesOwn.never rfl (pi_range2 rfl T.y_range (pa_cons pe_int (pa_cons pe_int pa_nil))) (pg_name (i := 3) sc_law.nd rfl (Or.inl rfl))
        (pss_cons (ps_set (i := 4) sc_law.nd rfl (Or.inl rfl) (pe_call GN (hr.mono (by decide)) rfl T.m_number T.k_number T.b_number .nil pass0 (pa_cons (pv 0) (pa_cons (pv 3) pa_nil))))
          (pss_cons (ps_set (i := 5) sc_law.nd rfl (Or.inl rfl) (pe_op op_mod (pv 4) pe_int))
          (pss_one (ps_if (pt_not (pt_val (pe_call GR (hr.mono (by decide)) rfl T.m_right T.k_right T.b_right .nil pass0 (pa_cons (pe_ix ix_list (pv 2) (pv 5) (fun _ _ => rfl)) (pa_cons (pe_ix ix_list (pv 1) (pv 5) (fun _ _ => rfl)) (pa_cons (pe_ix ix_list (pe_lst (pa_cons pe_int (pa_cons pe_int (pa_cons pe_int (pa_cons pe_int (pa_cons pe_int (pa_cons pe_int pa_nil))))))) (pe_op op_mod (pe_op op_fdiv (pv 4) pe_int) pe_int) (fun _ _ => rfl)) (pa_cons (pe_call GM (hr.mono (by decide)) rfl T.m_mixed T.k_mixed T.b_mixed .nil pass0 (pa_cons (pv 4) (pa_cons (pv 3) pa_nil))) pa_nil)))))))
            (pss_one (ps_ret pe_bl))
            pss_nil)))))
      (pss_one (ps_ret (pe_cmpR (op_eqNil hu) (pe_comp (ts := ["_law_one", "_law_kind"]) (xs := []) (js := []) rfl ⟨rfl, rfl, by decide +kernel, by decide +kernel, freeIn rfl⟩ .nil (by decide +kernel) (pi_zip rfl T.y_zip (pa_cons (pv 2) (pa_cons (pv 1) pa_nil)))
          (fun C s₀ H₀ fp => pg_tupK (X := cxC _ _ _ C s₀ H₀ fp) K rfl (n := 2) rfl (pgs_cons (pg_name (i := 0) ndOK rfl (Or.inl rfl) (Or.inr rfl)) (pgs_cons (pg_name (i := 1) ndOK rfl (Or.inl rfl) (Or.inr rfl)) pgs_nil)))
          (fun C s₀ H₀ fp => pif_one (X := cxC _ _ _ C s₀ H₀ fp) (PW.pt (pw_or (pt_not (pt_val (pe_call (X := cxC _ _ _ C s₀ H₀ fp) GH (hr.mono (by decide)) rfl T.m_held T.k_held T.b_held .nil pass0 (pa_cons (pv 0) (pa_cons (pv 1) pa_nil))))) (pw_or1 (pt_not (pt_val (pe_callB (call_isinstK K rfl) rfl T.y_isinstance bt_isinstance (pa_cons (pv 0) (pa_cons (pcl T.mc_Kind) pa_nil)))))))))
          (fun C s₀ H₀ fp => pv (X := cxC _ _ _ C s₀ H₀ fp) 0)) (pe_lst pa_nil) (nomark _)))))), ?_⟩
    refine ⟨fun σ' H' => ∃ D us, σ' = [some (.ref sa), some (.ref D), none, none, none, none] ∧ Same H H' ∧ H' D = some (.lst us) ∧ us.length = 2 ∧ ∀ (i : Nat) u, us[i]? = some u → ∃ k : Kd, k.ok ∧ TK H' k u, ?_, ?_⟩
    · refine ⟨2, rfl, by decide, by decide, comp_rel (Wk.rng 0 2) (by decide) (fun _ H v => ∃ k : Kd, k.ok ∧ TK H k v) (fun i H H' v s h => ?_) (fun i H D zs us v e h => ?_) (fun j x hx H2 R s2 hR => ?_) (fun D H2 ys hD s2 e2 hl hp => ?_)⟩
      · obtain ⟨k, hk, h⟩ := h
        exact ⟨k, hk, h.same s⟩
      · obtain ⟨k, hk, h⟩ := h
        exact ⟨k, hk, h.put e⟩
      · obtain ⟨rfl, hj⟩ := rng_at hx
        refine ⟨Sub.set rfl, _, rfl, _, rfl, sa, ns, _, rfl, s2.seq hS, by omega, by omega, fun r r0 r1 => ?_⟩
        exact ⟨r, rfl, r0, by omega, fun k v H' hk s' ht => hR v H' s' ⟨k, hk, ht⟩⟩
      · exact ⟨D, ys, rfl, s2, e2, hl, hp⟩
    rintro σ' H2 ⟨D, us, rfl, s2, hD, hul, hus⟩
    refine ⟨fun σ' H' => ∃ M vs, σ' = [some (.ref sa), some (.ref D), some (.ref M), none, none, none] ∧ Same H H' ∧ H' D = some (.lst us) ∧ H' M = some (.lst vs) ∧ vs.length = 2 ∧ ∀ (i : Nat) v, vs[i]? = some v → ∃ k : Kd, k.ok ∧ TK H' k (us.getD i .non) ∧ IsK H' k v, ?_, ?_⟩
    · refine ⟨_, rfl, D, rfl, ⟨_, SqL.of hD⟩, comp_rel (Wk.list (SqL.of hD)) (by rw [hul]; decide) (fun j H v => ∃ k : Kd, k.ok ∧ TK H k (us.getD j .non) ∧ IsK H k v) (fun i H H' v s h => ?_) (fun i H D zs us v e h => ?_) (fun j x hx H3 R s3 hR => ?_) (fun M H3 ys hM s3 e3 hl hp => ?_)⟩
      · obtain ⟨k, hk, h, g⟩ := h
        exact ⟨k, hk, h.same s, g.same s⟩
      · obtain ⟨k, hk, h, g⟩ := h
        exact ⟨k, hk, h.put e, g.put e⟩
      · obtain ⟨k, hk, ht⟩ := hus j x hx
        have ej : us.getD j .non = x := by simp [List.getD, hx]
        refine ⟨Sub.set rfl, _, rfl, k, hk, x, rfl, ht.same s3, fun u H' s' hu' => hR u H' s' ⟨k, hk, ?_, hu'⟩⟩
        rw [ej]
        exact ht.same (s3.trans s')
      · exact ⟨M, ys, rfl, s2.trans s3, s3 _ _ hD, e3, hl.trans hul, hp⟩
    rintro σ' H3 ⟨M, vs, rfl, s3, hD3, hM3, hvl, hvs⟩
    refine ⟨fun σ' H' => ∃ x3 x4 x5, σ' = [some (.ref sa), some (.ref D), some (.ref M), x3, x4, x5] ∧ Same H3 H', ?_, ?_⟩
    · refine ⟨2, 26, rfl, ⟨by decide, by decide, by decide, by decide⟩, for_range (n := 24) (fun i σ' H' => ∃ x3 x4 x5, σ' = [some (.ref sa), some (.ref D), some (.ref M), x3, x4, x5] ∧ Same H3 H') ⟨_, _, _, rfl, Same.refl _⟩ (fun i σ' H4 hi h => ?_) (fun σ' H4 h => h)⟩
      obtain ⟨x3, x4, x5, rfl, s4⟩ := h
      have s34 := s3.trans s4
      refine ⟨_, rfl, _, rfl, sa, ns, _, rfl, s34.seq hS, by omega, by omega, fun r r0 r1 => ?_⟩
      refine ⟨_, rfl, _, _, rfl, rfl, (by show (0 : Int) < 2; decide), ?_⟩
      obtain ⟨v, av, gv⟩ := at_mod (xs := vs) (r := r) (b := 2) (by rw [hvl]; rfl) (by decide)
      obtain ⟨u, au, gu⟩ := at_mod (xs := us) (r := r) (b := 2) (by rw [hul]; rfl) (by decide)
      obtain ⟨y, ay, gy⟩ := at_mod (xs := wayL.map V.int) (r := r / 2) (b := 6) rfl (by decide)
      obtain ⟨wy, _, rfl⟩ := List.mem_map.mp (List.mem_of_getElem? gy)
      obtain ⟨k, hk, ht, hi⟩ := hvs _ v gv
      rw [show us.getD (r % 2).toNat .non = u by simp [List.getD, gu]] at ht
      refine ⟨_, rfl, _, rfl, M, vs, _, v, rfl, rfl, SqL.of (s4 _ _ hM3), av, _, rfl, _, rfl, D, us, _, u, rfl, rfl, SqL.of (s4 _ _ hD3), au, by show 6 ≤ sizeLine; decide, fun l hl => ?_⟩
      have s5 : Same H4 (upd H4 l (.lst (wayL.map V.int))) := sameU hl
      refine ⟨_, rfl, _, _, rfl, rfl, ⟨by decide, by decide⟩, _, _, rfl, rfl, (by show (0 : Int) < 6; decide), l, wayL.map V.int, _, _, rfl, rfl, SqL.of upd_same, ay, ?_⟩
      refine ⟨_, rfl, _, rfl, r, _, rfl, by omega, by omega, fun r2 r20 r21 => ⟨k, hk, v, u, wy, r2, rfl, hi.same (s4.trans s5), ht.same (s4.trans s5), r20, by omega, fun H9 s9 => ⟨_, rfl, iteF ?_⟩⟩⟩
      exact ⟨_, _, _, rfl, (s4.trans s5).trans s9⟩
    rintro σ' H4 ⟨x3, x4, x5, rfl, s4⟩
    refine ⟨_, rfl, _, rfl, M, D, vs, us, rfl, s4 _ _ hM3, s4 _ _ hD3, comp_zip0 (s4 _ _ hM3) (s4 _ _ hD3) (hvl.trans hul.symm) (fun j x y Tt H5 hx hy s5 hT R hR => ?_) (fun D' H5 hD' s5 e5 => ?_)⟩
    · obtain ⟨k, hk, ht, hi⟩ := hvs _ x hx
      rw [show us.getD j .non = y by simp [List.getD, hy]] at ht
      have s45 := s4.trans s5
      refine ⟨Tt, _, rfl, SqT.of hT, rfl, x, [y], rfl, y, [], rfl, rfl, Sub.trans (Sub.set rfl) (Sub.set rfl), ?_⟩
      refine ⟨_, rfl, _, rfl, k, hk, x, y, rfl, hi.same s45, ht.same s45, fun H6 s6 => ⟨_, rfl, iteF ?_⟩⟩
      obtain ⟨a, rfl, hty, hki⟩ := (hi.same (s45.trans s6)).kind T
      exact ⟨_, rfl, .ref a, .ref 101, _, _, _, rfl, hty, rfl, hki, _, rfl, iteF (hR H6 s6)⟩
    · exact ⟨by show 0 ≤ sizeLine; decide, fun l hl => ⟨D', l, _, rfl, rfl, keepH e5 hl, upd_same, q _⟩⟩
end
end K7

namespace K7
open PySem L2
seal L2.PE L2.PS L2.PSs L2.PA L2.PT L2.PW L2.PG L2.PGs L2.PI L2.PO
theorem bind_law {K : PySem.W.Frag} {mg : Str → Option Value} (T : Tx K mg) (s : Shared) (u : Value) : BindsTo s (HL.fdOf K 512) ⟨[u], []⟩ [("_law_script", u)] := by
  obtain ⟨oc, od, kV, doc, pm, an, cdv, ct, osl, e, lk, hcd⟩ := T.d_law.ex
  rw [e]
  exact .of_eq rfl
theorem the_law : rw_.Holds := holds (k := 9) ⟨by decide, by decide⟩ (sp := sp_law) (fun w K mg base T _ _ => ok_law T) (fun K mg T s u => bind_law T s u) (fun K H a ns _ _ _ h => ⟨a, ns, rfl, h, fun _ => rfl⟩)
end K7
theorem PySem.Challenge.cw_formkin_k07_kinds_holds : PySem.Challenge.rw_formkin_k07_kinds.Holds := by
  exact K7.the_law
#print axioms PySem.Challenge.cw_formkin_k07_kinds_holds
