import PyProof.Rows.All
import Wide.All
import OpenK.AllK
import Wide.FinOn
import Lean
import PyProof.EqAt
import PyProof.EqKinds
import PyProof.TupleCall
import PyProof.CallStr
import PyProof.AutoIntG2
import PySem.Challenge.RW_formkin_k06_whole_kept_rows_in_pieces
set_option Elab.async false
set_option linter.all false
set_option maxRecDepth 100000
namespace HL
open PySem PySem.W PyProof.Rows
/-! The top at once: what the module's text leaves, by one run of the kernel, with nothing of it written out. -/
noncomputable abbrev tbQ : String → Option Builtin := PySem.W.Fast.tw14364793385576792824
noncomputable abbrev topGoQ := PySem.W.Fast.tw15667345088766844465
noncomputable abbrev segRunQ := PySem.W.Fast.tw14374325043358763698
noncomputable abbrev segRunTQ := PySem.W.Fast.tw10110043849684766642
noncomputable abbrev denoteQ := PySem.W.Fast.tw11892475500146522536
noncomputable abbrev pos0 : Pos := ⟨0, 0, 0, 0⟩
noncomputable abbrev ann6 : Option Value := some (.ref 6)
noncomputable def env (p : Program) : Env := { scope := p.main.scope, locals := mainNs, globals := mainNs, cells := [], code := .ref 13, frame := some 14 }
noncomputable def code (p : Program) : Code := .body (behindTheImports p) (env p)
noncomputable def qs (l : List Nat) : Str := ⟨⟨l⟩⟩
noncomputable def sMod : Str := qs [60, 109, 111, 100, 117, 108, 101, 62]
noncomputable def sCut : Str := qs [47, 99, 108, 97, 105, 109, 47, 99, 117, 116, 46, 112, 121]
noncomputable def sMain : Str := qs [95, 95, 109, 97, 105, 110, 95, 95]
noncomputable def o11 : Obj := { cls := .type PySem.W.SL.s2766695959194262286x5, data := .seq #[] }
noncomputable def o12 : Obj := { cls := .none, data := .fields #[] }
noncomputable def o13 : Obj := { cls := .type PySem.W.SL.s5856160107412720595x4, data := .fields #[.str sMod 182, .str sMod 183, .str sCut 184, .int 1 0, .int 0 0, .int 0 0, .int 0 0, .int 0 0, .ref 11, .bool false, .int 181 0, .ref 12, .none, .none, .none, .none, .int 185 0, .int 1 0, .str sCut 186] }
noncomputable def o14 : Obj := { cls := .type PySem.W.SL.s658472552662922059x5, slots := #[some (.ref 13), some (.ref 3), some (.ref 3), none, some (.str sMain 164), none, some (.ref 0)] }
noncomputable abbrev lf (o : Obj) : BT := .node o .nil .nil
noncomputable def tree0 (P : Params) : BT :=
  .node (boot_o_0 P) (.node (boot_o_1 P) (.node (boot_o_3 P) (lf (boot_o_7 P)) (lf o11)) (.node (boot_o_5 P) (lf (boot_o_9 P)) (lf o13)))
    (.node (boot_o_2 P) (.node (boot_o_4 P) (lf (boot_o_8 P)) (lf o12)) (.node (boot_o_6 P) (lf (boot_o_10 P)) (lf o14)))
noncomputable def S0 (w : World) (os : OsState) : SharedT := ⟨tree0 w.params, 15, {}, #[], {}, 187, os⟩
noncomputable def S00 (w : World) (os : OsState) : Shared := ⟨boot_heap w.params, #[], boot_drawn, boot_toks, os⟩
noncomputable def T0 (p : Program) : Thread := piecesOf (behindTheImports p) (env p) (code p) pos0 [topFrame pos0]
noncomputable def R (p : Program) (n : Nat) (w : World) (os : OsState) : Option (Flow × SharedT × Code × Pos) := segRunTQ tbQ p w 11 ann6 1 n (S0 w os) (T0 p)
noncomputable abbrev modsQ (p : Program) := PySem.W.Fast.tw5923862056798008813 p.main.body
noncomputable abbrev recsQ (q : Program) := PySem.W.Fast.tw3399658132070893891 q
noncomputable abbrev looseQ (q : Program) (lo : List Str) := PySem.W.Fast.tw821141287760084731 q lo
noncomputable abbrev drecsQ (q : Program) := PySem.W.Fast.tw3247288618530077131 q
noncomputable def look1 (p : Program) (P : Params) (s : Shared) : Bool :=
  staticsOk (modsQ p) (boot_heap P) s.heap && namesBound p s.heap && gensDone s && laidKept (boot_heap P) s.heap
noncomputable def look2 (q : Program) (s : Shared) := PySem.W.Fast.tw5160383126252970620 (PySem.W.R.mapR (fun x => x.name) (recsQ q)) (PySem.W.Fast.tw5991557255702980513 q) [] { s with gens := #[] }
noncomputable def look4 (p q : Program) (lo : List Str) (s : Shared) : Bool :=
  PySem.W.Fast.tw10880121769531294198 s.heap (looseQ q lo) (PySem.W.R.mapR (fun x => x.name) (recsQ q)) (PySem.W.R.mapR (fun x => x.fst) (PySem.W.Fast.tw7409074990110511671 q)) (PySem.W.R.mapR (fun x => x.name) (PySem.W.Fast.tw13664370479719496447 q (looseQ q lo)))
    && PySem.W.Fast.tw14722251495701143533 s.heap (modsQ p) && s.heap.isNs mainGlobals && s.heap.isNs builtinsNs && PySem.W.Fast.tw10994771534591457954 q s.heap && (xlAt q [] s && recOk [] s) && (s.gens.size == 0)
noncomputable def looks (p q : Program) (lo : List Str) (P : Params) (s : Shared) := (look1 p P s, look2 q s, s.heap.bltView, look4 p q lo s, PySem.W.Fast.tw479339242167458305 q s,
  PySem.W.Fast.tw16090120013241838585 q (drecsQ q) s, PySem.W.Fast.tw2386780881361962483 q (looseQ q lo) s,
  PySem.W.Fast.tw11698064438423848299 q lo s, PySem.W.Fast.tw7317090234206586261 q s, PySem.W.Fast.tw7369524293546568484 q lo s)
noncomputable def goods (q : Program) (lo : List Str) := (true, expectedOf q, bltViewBooted, true, true, pinGoodD (drecsQ q), plainGoodE q (looseQ q lo), plainGoodD q lo, wideGood q, clsGoodW q lo)

open PySem.W.Fast in
theorem slow_pre {p : Program} {w : World} {os : OsState} (h : topGoQ tbQ p w 11 ann6 12 (S00 w os) (topStub p) = some ((S0 w os).abs, ⟨denoteQ tbQ (code p), code p, pos0, [topFrame pos0]⟩)) :
    topGo treeTable p w 11 ann6 12 (S00 w os) (topStub p) = some ((S0 w os).abs, ⟨denote treeTable (code p), code p, pos0, [topFrame pos0]⟩) := by
  rw [te15667345088766844465, te14364793385576792824, te11892475500146522536]; exact h
open PySem.W.Fast in
theorem slow_block {p : Program} {w : World} {s : Shared} (h : segRunQ tbQ p w 11 ann6 1 1 s (blockOf (behindTheImports p) (env p) (code p) pos0 [topFrame pos0]) = some (.next, s, code p, pos0)) :
    segRun treeTable p w 11 ann6 1 1 s (blockOf (behindTheImports p) (env p) (code p) pos0 [topFrame pos0]) = some (.next, s, code p, pos0) := by
  rw [te14374325043358763698, te14364793385576792824]; exact h
open PySem.W.Fast in
theorem slow_run {p : Program} {n : Nat} {w : World} {os : OsState} {x : Flow × SharedT × Code × Pos} (h : R p n w os = some x) : segRunT treeTable p w 11 ann6 1 n (S0 w os) (T0 p) = some x := by
  rw [te10110043849684766642, te14364793385576792824]; exact h
theorem fin_run {p : Program} {w : World} {c : Code} {q : Pos} : ∀ s : Shared, topRun treeTable p w 11 ann6 2 s ⟨doneF .next, c, q, [topFrame pos0]⟩ = some s
  | ⟨_, _, _, _, _⟩ => rfl
theorem whole_run {p : Program} {n : Nat} {w : World} {os : OsState} {s : SharedT} {q : Pos}
    (hpre : topGoQ tbQ p w 11 ann6 12 (S00 w os) (topStub p) = some ((S0 w os).abs, ⟨denoteQ tbQ (code p), code p, pos0, [topFrame pos0]⟩))
    (hblk : ∀ s, segRunQ tbQ p w 11 ann6 1 1 s (blockOf (behindTheImports p) (env p) (code p) pos0 [topFrame pos0]) = some (.next, s, code p, pos0))
    (h : R p n w os = some (.next, s, code p, q)) : topRun treeTable p w 11 ann6 (12 + (1 + (n + 2))) (S00 w os) (topStub p) = some s.abs := by
  refine go_top (slow_pre hpre) (piece_block (slow_block (hblk _)) ?_)
  have e := piece_app (rest := []) (segRun_of (slow_run h)) (piece_nil (fin_run (q := q) s.abs))
  rw [List.append_nil] at e
  exact e
open PySem.W.Fast in
theorem slow_looks {p q : Program} {lo : List Str} {P : Params} {s : Shared} (h : looks p q lo P s = goods q lo) :
    (staticsOk (importedModules p.main.body) (boot_heap P) s.heap && namesBound p s.heap && gensDone s && laidKept (boot_heap P) s.heap) = true ∧
    openSeen q lo (importedModules p.main.body) (fun s => xlAt q [] s && recOk [] s) true s = openGood q lo := by
  simp only [looks, goods, Prod.mk.injEq] at h
  obtain ⟨a, b, c, d, e, f, g, i, j, k⟩ := h
  refine ⟨?_, ?_⟩
  · rw [te5923862056798008813]; exact a
  · unfold openSeen openGood
    simp only [Prod.mk.injEq]
    refine ⟨?_, c, ?_, ?_, ?_, ?_, ?_, ?_, ?_⟩
    · rw [PySem.W.R.mapR_eq, te5160383126252970620, te3399658132070893891, te5991557255702980513]; exact b
    · rw [PySem.W.R.mapR_eq, te10880121769531294198, te821141287760084731, te3399658132070893891, te7409074990110511671, te13664370479719496447, te14722251495701143533, te5923862056798008813, te10994771534591457954]; exact d
    · rw [te479339242167458305]; exact e
    · rw [te16090120013241838585, te3247288618530077131]; exact f
    · rw [te2386780881361962483, te821141287760084731]; exact g
    · rw [te11698064438423848299]; exact i
    · rw [te7317090234206586261]; exact j
    · rw [te7369524293546568484]; exact k
noncomputable def lk {α : Type} (p q : Program) (lo : List Str) (Yf : Shared → α) (w : World) (s : SharedT) := (looks p q lo w.params s.abs, Yf s.abs)
theorem some_of {α β γ : Type} {o : Option (Flow × α × β)} {f : α → γ} {y : Flow} {z : β} {g : γ} (h : o.map (fun x => (x.1, x.2.2, f x.2.1)) = some (y, z, g)) : ∃ s, o = some (y, s, z) ∧ f s = g := by
  cases o with
  | none => cases h
  | some x =>
    obtain ⟨a, b, c⟩ := x
    have e := Option.some.inj h
    simp only [Prod.mk.injEq] at e
    obtain ⟨rfl, rfl, rfl⟩ := e
    exact ⟨b, rfl, rfl⟩
theorem left_of {p q : Program} {lo : List Str} {n N : Nat} {pos : Pos} {α : Type} {Yf : Shared → α} {Ya : World → α}
    (h1 : opening p = plainProg p.main.scope.names) (h2 : ∀ s, fenceModules? p s = some s)
    (hpre : ∀ w os, topGoQ tbQ p w 11 ann6 12 (S00 w os) (topStub p) = some ((S0 w os).abs, ⟨denoteQ tbQ (code p), code p, pos0, [topFrame pos0]⟩))
    (hblk : ∀ w s, segRunQ tbQ p w 11 ann6 1 1 s (blockOf (behindTheImports p) (env p) (code p) pos0 [topFrame pos0]) = some (.next, s, code p, pos0))
    (hrun : ∀ w os, (R p n w os).map (fun x => (x.1, x.2.2, lk p q lo Yf w x.2.1)) = some (.next, (code p, pos), (goods q lo, Ya w)))
    (hsz : ∀ P : Params, (boot_heap P).isNs mainGlobals = true ∧ (boot_heap P).objs.size = 11 ∧ (boot_heap P).nsMap mainGlobals "__annotations__" = ann6)
    (hN : Nat.ble 600 N = true) (hM : 12 + (1 + (n + 2)) ≤ N) : LeftO p q lo (fun s => xlAt q [] s && recOk [] s) Yf Ya N := by
  intro w
  obtain ⟨⟨hp, gs, d, k, os⟩, e, e'⟩ := Option.map_eq_some_iff.mp (boot_open h1 hN h2 w)
  simp only [Prod.mk.injEq] at e'
  obtain ⟨rfl, rfl, rfl, rfl⟩ := e'
  obtain ⟨s, hs, hf⟩ := some_of (f := lk p q lo Yf w) (hrun w os)
  have hf1 : looks p q lo w.params s.abs = goods q lo := congrArg Prod.fst hf
  have hf2 : Yf s.abs = Ya w := congrArg Prod.snd hf
  obtain ⟨l1, l2⟩ := slow_looks hf1
  have r := topRun_mono (N - (12 + (1 + (n + 2)))) _ _ _ _ (whole_run (hpre w os) (hblk w) hs)
  rw [Nat.add_sub_cancel' hM] at r
  obtain ⟨z1, z2, z3⟩ := hsz w.params
  have t : topFrom treeTable p w N (S00 w os) = some s.abs := by
    unfold topFrom
    have z : ((S00 w os).heap.isNs mainGlobals && (S00 w os).gens.size == 0) = true := by
      show ((boot_heap w.params).isNs mainGlobals && _) = true
      rw [z1]; rfl
    rw [z]
    dsimp only
    rw [show (S00 w os).heap.objs.size = 11 from z2, show (S00 w os).heap.nsMap mainGlobals "__annotations__" = ann6 from z3, r]
    dsimp only [Option.bind]
    rw [show (S00 w os).heap = boot_heap w.params from rfl, l1]
  unfold openEnds
  rw [e]
  show ((topFrom treeTable p w N (S00 w os)).map _) = _
  rw [t]
  exact congrArg some (Prod.ext l2 hf2)
end HL

/-! THE HAND LAYER, for ints, bools, texts, own classes, LISTS and tuples (index, slices, in, append, pop ..), calls, loops. Paste it whole ahead of your own text; what your proof does not reach may be deleted. -/
namespace L2
open PySem PySem.Spec PyProof.Rows

/-- a key: an int or a str -/
abbrev Key := Sum Int Str
def keyIs : Key → Value → Bool
  | .inl k, v => Value.isInt k v
  | .inr x, v => Value.isStrOf x v
def keyH (w : World) : Key → Int
  | .inl k => hashInt k
  | .inr x => hashStr w x
theorem keyIs_shape : ∀ {k : Key} {v : Value}, keyIs k v = true → (∃ i t, k = Sum.inl i ∧ v = Value.int i t) ∨ (∃ x t, k = Sum.inr x ∧ v = Value.str x t)
  | .inl i, v, h => by
    obtain ⟨t, e⟩ := Value.isInt_shape (k := i) (v := v) h
    exact .inl ⟨i, t, rfl, e⟩
  | .inr x, v, h => by
    obtain ⟨t, e⟩ := Value.isStrOf_shape (x := x) (v := v) h
    exact .inr ⟨x, t, rfl, e⟩
theorem keyIs_int (i : Int) (t : Tok) : keyIs (.inl i) (.int i t) = true := by simp [keyIs, Value.isInt]
theorem keyIs_str (x : Str) (t : Tok) : keyIs (.inr x) (.str x t) = true := by simp [keyIs, Value.isStrOf]
theorem key_ll (a b : Int) : decide ((Sum.inl a : Key) = Sum.inl b) = (a == b) := by
  by_cases e : a = b
  · subst e; simp
  · have h : ¬ (Sum.inl a : Key) = Sum.inl b := fun q => e (Sum.inl.inj q)
    rw [decide_eq_false h]
    exact (beq_eq_false_iff_ne.mpr e).symm
theorem key_rr (a b : Str) : decide ((Sum.inr a : Key) = Sum.inr b) = decide (a = b) := by
  by_cases e : a = b
  · subst e; simp
  · have h : ¬ (Sum.inr a : Key) = Sum.inr b := fun q => e (Sum.inr.inj q)
    rw [decide_eq_false h, decide_eq_false e]
theorem key_lr (a : Int) (b : Str) : decide ((Sum.inl a : Key) = Sum.inr b) = false := decide_eq_false (fun q => nomatch q)
theorem key_rl (a : Str) (b : Int) : decide ((Sum.inr a : Key) = Sum.inl b) = false := decide_eq_false (fun q => nomatch q)

def mixKind (prog : Program) (w : World) : PySem.KeyKind prog w Key where
  is := keyIs
  hash := keyH w
  inj := fun v a b ha hb => by
    rcases keyIs_shape ha with ⟨i, t, rfl, rfl⟩ | ⟨x, t, rfl, rfl⟩
    · rcases keyIs_shape hb with ⟨j, u, rfl, e⟩ | ⟨y, u, rfl, e⟩
      · injection e with e1 _; rw [e1]
      · exact nomatch e
    · rcases keyIs_shape hb with ⟨j, u, rfl, e⟩ | ⟨y, u, rfl, e⟩
      · exact nomatch e
      · injection e with e1 _; rw [e1]
  byValue := fun k v h => by
    rcases keyIs_shape h with ⟨i, t, rfl, rfl⟩ | ⟨x, t, rfl, rfl⟩ <;> rfl
  pyHash := fun hv h => by
    rcases keyIs_shape hv with ⟨i, t, rfl, rfl⟩ | ⟨x, t, rfl, rfl⟩
    · exact wpAny_pyHash_int h
    · exact wpAny_pyHash_str h
  eqBool := fun hu hv h => by
    rcases keyIs_shape hu with ⟨i, t, rfl, rfl⟩ | ⟨x, t, rfl, rfl⟩
    · rcases keyIs_shape hv with ⟨j, u, rfl, rfl⟩ | ⟨y, u, rfl, rfl⟩
      · rw [key_ll] at h; exact wpAny_eqBool_int h
      · rw [key_lr] at h; exact SeqAt.EqAt.int_str i t y u _ _ _ _ h
    · rcases keyIs_shape hv with ⟨j, u, rfl, rfl⟩ | ⟨y, u, rfl, rfl⟩
      · rw [key_rl] at h; exact SeqAt.EqAt.str_int x t j u _ _ _ _ h
      · rw [key_rr] at h; exact wpAny_eqBool_str h
  «strs» := fun k x t v h => by
    rcases keyIs_shape h with ⟨i, u, rfl, e⟩ | ⟨y, u, rfl, e⟩
    · exact nomatch e
    · injection e with e1 _
      subst e1
      cases v <;> rfl

theorem mixKind_int (prog : Program) (w : World) (i : Int) (t : Tok) : (mixKind prog w).is (.inl i) (.int i t) = true := keyIs_int i t
theorem mixKind_str (prog : Program) (w : World) (x : Str) (t : Tok) : (mixKind prog w).is (.inr x) (.str x t) = true := keyIs_str x t
end L2

namespace L2
open PySem PySem.Spec PyProof.Rows

/-- a value, without the heap -/
inductive V where
  | non | bl (b : Bool) | int (i : Int) | str (x : Str) | byt (b : Array UInt8) | flt (b : UInt64) | ref (a : Addr) | ty (n : String)
  deriving DecidableEq

def RelV : V → Value → Prop
  | .non, u => u = Value.none
  | .bl b, u => u = Value.bool b
  | .int i, u => ∃ t, u = Value.int i t
  | .str x, u => ∃ t, u = Value.str x t
  | .byt b, u => ∃ t, u = Value.bytes b t
  | .flt b, u => ∃ t, u = Value.float b t
  | .ref a, u => u = Value.ref a
  | .ty n, u => u = Value.type n

abbrev Vals : List V → List Value → Prop := Paired RelV
theorem Vals.length {xs : List V} {us : List Value} (r : Vals xs us) : xs.length = us.length := Paired.length r
theorem Vals.get : ∀ {xs : List V} {us : List Value} {i : Nat} {x : V}, Vals xs us → xs[i]? = some x → ∃ u, us[i]? = some u ∧ RelV x u
  | _, _, _, _, .nil, e => by simp at e
  | _, _, 0, _, .cons r _, e => by simp at e; subst e; exact ⟨_, rfl, r⟩
  | _, _, i + 1, x, .cons _ t, e => by
    obtain ⟨u, h1, h2⟩ := Vals.get (i := i) (x := x) t (by simpa using e)
    exact ⟨u, by simpa using h1, h2⟩
theorem Vals.append : ∀ {xs ys : List V} {us ws : List Value}, Vals xs us → Vals ys ws → Vals (xs ++ ys) (us ++ ws)
  | _, _, _, _, .nil, s => s
  | _, _, _, _, .cons r t, s => .cons r (Vals.append t s)
theorem Vals.take : ∀ {xs : List V} {us : List Value} (n : Nat), Vals xs us → Vals (xs.take n) (us.take n)
  | _, _, 0, _ => .nil
  | _, _, _ + 1, .nil => .nil
  | _, _, n + 1, .cons r t => .cons r (Vals.take n t)
theorem Vals.drop : ∀ {xs : List V} {us : List Value} (n : Nat), Vals xs us → Vals (xs.drop n) (us.drop n)
  | _, _, 0, r => r
  | _, _, _ + 1, .nil => .nil
  | _, _, n + 1, .cons _ t => Vals.drop n t
def RelO : Option V → Option Value → Prop
  | some v, some u => RelV v u
  | none, none => True
  | _, _ => False
def KV {κ : Type} : List (κ × V) → List (κ × Value) → Prop := Paired fun (p : κ × V) (q : κ × Value) => p.1 = q.1 ∧ RelV p.2 q.2

/-- a key of a dict (00_mix): an int or a text -/
def kV : Key → V
  | .inl i => .int i
  | .inr x => .str x

/-- what stands at a tracked address -/
inductive HO where
  /-- a list -/
  | lst (xs : List V)
  /-- a tuple (never changes) -/
  | tup (xs : List V)
  /-- a dict whose keys are ints and texts; one whose keys are tuples of ints and texts (the empty one is both) -/
  | dK (kvs : List (Key × V)) | dT (kvs : List (List Key × V))
  /-- a set of ints: its members, its size -/
  | set (S : Int → Bool) (n : Nat)
  /-- an instance of the class at C, its dict at dx, its attributes -/
  | ins (C dx : Addr) (fs : List (Str × V))
  /-- the dict of the instance at x -/
  | own (x : Addr)
  /-- the dict of an exception -/
  | xd (fs : List (Str × V))
  /-- a bound method, f of x -/
  | met (f x : Addr)
  /-- a range object lo, lo + 1, .. below hi -/
  | rng (lo hi : Int)
  /-- a thing that is known to the object (the script; a dict while a loop walks it): read, never written while it is so -/
  | frz (o : Obj) (u : HO)
  /-- a code object's table -/
  | tbl (ps : Array Value)
  /-- any other thing, by what is true of its one object (a def of one's own: SetO a S n := HO.ext fun h => ..) -/
  | ext (φ : Heap → Prop)

abbrev Hp := Addr → Option HO
def upd (H : Hp) (a : Addr) (o : HO) : Hp := fun b => if b = a then some o else H b
theorem upd_same {H : Hp} {a : Addr} {o : HO} : upd H a o a = some o := by unfold upd; rw [if_pos rfl]
theorem upd_ne {H : Hp} {a b : Addr} {o : HO} (h : b ≠ a) : upd H a o b = H b := by unfold upd; rw [if_neg h]
theorem upd_upd {H : Hp} {a : Addr} {o u : HO} : upd (upd H a o) a u = upd H a u := by
  funext b; unfold upd; split <;> rfl
/-- two objects of different content stand apart -/
theorem ne_of {H : Hp} {a b : Addr} {o u : HO} (h : H a = some o) (h' : H b = some u) (d : o ≠ u) : a ≠ b := by
  intro e; subst e; rw [h] at h'; exact d (Option.some.inj h')
theorem ne_of_none {H : Hp} {a b : Addr} {o : HO} (h : H a = some o) (h' : H b = none) : a ≠ b := by
  intro e; subst e; rw [h] at h'; cases h'

section
variable (P : Program) (w : World)
def ObjOk (H : Hp) (h : Heap) (a : Addr) : HO → Prop
  | .lst xs => xs.length ≤ sizeLine ∧ ∃ (its : List Value) (n : Nat), Vals xs its ∧ h.get? a = some { cls := .type "list", data := .seq its.toArray n }
  | .tup xs => xs.length ≤ sizeLine ∧ ∃ its : List Value, Vals xs its ∧ IsTup h a its.toArray
  | .dK kvs => kvs.length ≤ sizeLine ∧ (a == sysModules) = false ∧ ∃ vs, KV kvs vs ∧ h.DictOf (mixKind P w) a vs
  | .dT kvs => kvs.length ≤ sizeLine ∧ (a == sysModules) = false ∧ ∃ xs : List (List Key × Addr × Value),
      Paired (fun (p : List Key × V) (q : List Key × Addr × Value) => p.1 = q.1 ∧ H q.2.1 = some (.tup (p.1.map kV)) ∧ RelV p.2 q.2.2) kvs xs ∧
      ∃ o es ep, h.get? a = some o ∧ o.ExactDict ∧ o.data = .dict es ep ∧ es.toList = xs.map (entryOfKey (tupleKind (mixKind P w))) ∧ (xs.map (·.1)).Nodup
  | .set S n => h.SetOf (intKind P w) a S n
  | .ins C dx fs => H dx = some (.own a) ∧ fs.length ≤ 1000 ∧ dx ≠ a ∧ h.get? a = some (PySem.W.instObj C dx) ∧
      ∃ mA, h.Ns1 dx mA ∧ (∀ f, RelO (fs.lookup f) (mA f)) ∧ PySem.Within mA (fs.map (·.1))
  | .own _ => ∃ o, h.get? a = some o
  | .xd fs => ∃ mA, h.Ns1 a mA ∧ ∀ f, RelO (fs.lookup f) (mA f)
  | .rng lo hi => ∃ t u v, h.get? a = some { cls := .type "range", data := .fields #[.int lo t, .int hi u, .int 1 v] }
  | .frz o u => h.get? a = some o ∧ ObjOk H h a u
  | .tbl ps => h.get? a = some { cls := .none, data := .fields ps }
  | .met f x => h.get? a = some (PySem.W.methodObj (.ref f) (.ref x))
  | .ext φ => φ h ∧ (∃ o, h.get? a = some o) ∧ ∀ h1 h2 : Heap, φ h1 → (∀ o, h1.get? a = some o → h2.get? a = some o) → φ h2
/-- the abstract heap is held -/
def HOk (H : Hp) (h : Heap) : Prop := ∀ a o, H a = some o → ObjOk P w H h a o
end

section
variable {P : Program} {w : World} {H H' : Hp} {h h' : Heap} {a : Addr} {o : HO}
theorem ObjOk.lt (x : ObjOk P w H h a o) : a < h.objs.size := by
  cases o with
  | lst xs => obtain ⟨_, _, _, _, e⟩ := x; exact Heap.lt_size e
  | tup xs => obtain ⟨_, _, _, p⟩ := x; exact p.lt
  | dK kvs => obtain ⟨_, _, _, _, o, _, _, e, _⟩ := x; exact Heap.lt_size e
  | dT kvs => obtain ⟨_, _, _, _, o, _, _, e, _⟩ := x; exact Heap.lt_size e
  | set S n => obtain ⟨o, _, _, _, e, _⟩ := x; exact Heap.lt_size e
  | ins C dx fs => obtain ⟨_, _, _, e, _⟩ := x; exact Heap.lt_size e
  | own y => obtain ⟨_, e⟩ := x; exact Heap.lt_size e
  | xd fs => obtain ⟨_, ⟨_, _, _, e, _⟩, _⟩ := x; exact Heap.lt_size e
  | rng lo hi => obtain ⟨_, _, _, e⟩ := x; exact Heap.lt_size e
  | frz ob u => obtain ⟨e, _⟩ := x; exact Heap.lt_size e
  | tbl ps => exact Heap.lt_size (show h.get? a = some _ from x)
  | met f y => exact Heap.lt_size (show h.get? a = some _ from x)
  | ext φ => obtain ⟨_, ⟨_, e⟩, _⟩ := x; exact Heap.lt_size e
theorem Paired.mapP {α β : Type} {F G : α → β → Prop} : ∀ {l₁ : List α} {l₂ : List β}, Paired F l₁ l₂ → (∀ a b, F a b → G a b) → Paired G l₁ l₂
  | _, _, .nil, _ => .nil
  | _, _, .cons r t, f => .cons (f _ _ r) (Paired.mapP t f)
/-- what an object's description leans on: its own object, its own dict, the tuples -/
theorem ObjOk.stay (x : ObjOk P w H h a o) (k : ∀ b u, (b = a ∨ H b = some (.own a)) → h.get? b = some u → h'.get? b = some u)
    (ho : ∀ b, H b = some (.own a) → H' b = some (.own a)) (ht : ∀ b xs, H b = some (.tup xs) → H' b = some (.tup xs)) : ObjOk P w H' h' a o := by
  induction o with
  | lst xs => obtain ⟨z, its, n, r, e⟩ := x; exact ⟨z, its, n, r, k _ _ (.inl rfl) e⟩
  | tup xs => obtain ⟨z, its, r, ob, e, c⟩ := x; exact ⟨z, its, r, ob, k _ _ (.inl rfl) e, c⟩
  | dK kvs => obtain ⟨z, y, vs, r, ob, es, ep, e, c⟩ := x; exact ⟨z, y, vs, r, ob, es, ep, k _ _ (.inl rfl) e, c⟩
  | dT kvs =>
    obtain ⟨z, y, xs, r, ob, es, ep, e, c⟩ := x
    exact ⟨z, y, xs, Paired.mapP r fun p q z => ⟨z.1, ht _ _ z.2.1, z.2.2⟩, ob, es, ep, k _ _ (.inl rfl) e, c⟩
  | set S n => obtain ⟨ob, es, ep, t, e, c⟩ := x; exact ⟨ob, es, ep, t, k _ _ (.inl rfl) e, c⟩
  | ins C dx fs =>
    obtain ⟨d, z, ne, e, mA, ⟨od, es, ep, e2, c⟩, r⟩ := x
    exact ⟨ho _ d, z, ne, k _ _ (.inl rfl) e, mA, ⟨od, es, ep, k _ _ (.inr d) e2, c⟩, r⟩
  | own y => obtain ⟨ob, e⟩ := x; exact ⟨ob, k _ _ (.inl rfl) e⟩
  | xd fs => obtain ⟨mA, ⟨od, es, ep, e, c⟩, r⟩ := x; exact ⟨mA, ⟨od, es, ep, k _ _ (.inl rfl) e, c⟩, r⟩
  | rng lo hi => obtain ⟨t, u, v, e⟩ := x; exact ⟨t, u, v, k _ _ (.inl rfl) e⟩
  | frz ob u ih => obtain ⟨e, q⟩ := x; exact ⟨k _ _ (.inl rfl) e, ih q⟩
  | tbl ps =>
    have e : h.get? a = some { cls := .none, data := .fields ps } := x
    show h'.get? a = some { cls := .none, data := .fields ps }
    exact k a _ (.inl rfl) e
  | met f y =>
    have e : h.get? a = some (PySem.W.methodObj (.ref f) (.ref y)) := x
    show h'.get? a = some (PySem.W.methodObj (.ref f) (.ref y))
    exact k a _ (.inl rfl) e
  | ext φ => obtain ⟨p, ⟨o, e⟩, st⟩ := x; exact ⟨st _ _ p fun o q => k _ _ (.inl rfl) q, ⟨o, k _ _ (.inl rfl) e⟩, st⟩
theorem HOk.lt (x : HOk P w H h) (e : H a = some o) : a < h.objs.size := (x a o e).lt
theorem HOk.fresh (x : HOk P w H h) (e : h.objs.size ≤ a) : H a = none := by
  cases q : H a with
  | none => rfl
  | some u => exact absurd (Nat.lt_of_lt_of_le (x.lt q) e) (Nat.lt_irrefl _)
/-- every object of the heap is kept -/
theorem HOk.kept (x : HOk P w H h) (k : ∀ b u, h.get? b = some u → h'.get? b = some u) : HOk P w H h' := fun a o e =>
  (x a o e).stay (fun b u _ q => k b u q) (fun _ q => q) fun _ _ q => q
/-- a new object is laid and tracked -/
theorem HOk.laid (x : HOk P w H h) (k : ∀ b u, h.get? b = some u → h'.get? b = some u) (hp : h.objs.size ≤ a) (new : ObjOk P w (upd H a o) h' a o) : HOk P w (upd H a o) h' := fun b u e => by
  have hn := x.fresh hp
  by_cases hb : b = a
  · subst hb; rw [upd_same] at e; cases e; exact new
  · rw [upd_ne hb] at e
    exact (x b u e).stay (fun c v _ q => k c v q) (fun c q => by rw [upd_ne (ne_of_none q hn)]; exact q) fun c xs q => by rw [upd_ne (ne_of_none q hn)]; exact q
end

/-- what may be read as u: it is u, or a known u -/
def Rd (H : Hp) (a : Addr) (u : HO) : Prop := H a = some u ∨ ∃ o, H a = some (.frz o u)
theorem Rd.ok {P : Program} {w : World} {H : Hp} {h : Heap} {a : Addr} {u : HO} (r : Rd H a u) (x : HOk P w H h) : ObjOk P w H h a u := by
  rcases r with r | ⟨o, r⟩
  · exact x a u r
  · obtain ⟨_, q⟩ := x a _ r
    exact q
/-- what may be written -/
def Mut : Option HO → Prop
  | some (.lst _) => True
  | some (.dK _) => True
  | some (.dT _) => True
  | some (.set _ _) => True
  | some (.ins _ _ _) => True
  | some (.xd _) => True
  | some (.ext _) => True
  | _ => False
section
variable {P : Program} {w : World} {H : Hp} {h h' : Heap} {x e : Addr} {o' : HO}
/-- the object at e is changed: x itself, or the dict of the instance x -/
theorem HOk.write (ok : HOk P w H h) (mu : Mut (H x)) (he : e = x ∨ H e = some (.own x)) (k : ∀ b u, b ≠ e → h.get? b = some u → h'.get? b = some u) (heo : ∃ u, h'.get? e = some u)
    (new : ObjOk P w (upd H x o') h' x o') : HOk P w (upd H x o') h' := fun b u q => by
  have nown : ∀ c y, H c = some (.own y) → c ≠ x := fun c y r z => by subst z; rw [r] at mu; exact mu
  have ntup : ∀ c xs, H c = some (.tup xs) → c ≠ x := fun c xs r z => by subst z; rw [r] at mu; exact mu
  by_cases hb : b = x
  · subst hb; rw [upd_same] at q; cases q; exact new
  · rw [upd_ne hb] at q
    by_cases hbe : b = e
    · have q' : H b = some (.own x) := by
        rcases he with z | z
        · exact absurd (hbe.trans z) hb
        · rw [hbe]; exact z
      rw [q] at q'; cases q'
      obtain ⟨v, hv⟩ := heo
      exact ⟨v, by rw [hbe]; exact hv⟩
    · refine (ok b u q).stay (fun c v hc r => k c v ?_ r) (fun c r => by rw [upd_ne (nown c b r)]; exact r) fun c xs r => by rw [upd_ne (ntup c xs r)]; exact r
      rcases hc with rfl | hc
      · exact hbe
      · rintro rfl
        rcases he with z | z
        · exact nown c b hc z
        · rw [hc] at z; cases z; exact hb rfl
end

/-! ### kept unless tracked; of the frames at fs (the callers') the slots may change (an exception that passes writes there); of the records at ex (iterators) nothing is said -/
structure Un (fs ex : List Addr) (H H' : Hp) (h h' : Heap) : Prop where
  keep : ∀ b o, h.get? b = some o → H b = none → b ∉ fs → b ∉ ex → h'.get? b = some o
  slot : ∀ b o, h.get? b = some o → H b = none → b ∈ fs → b ∉ ex → ∃ sl, h'.get? b = some { o with slots := sl }
  free : ∀ b o, h.get? b = some o → H b = none → b ∉ ex → H' b = none
  there : ∀ b o, h.get? b = some o → b ∉ ex → ∃ o', h'.get? b = some o'
  tups : ∀ b xs, H b = some (.tup xs) → H' b = some (.tup xs)
  frzs : ∀ b o u, H b = some (.frz o u) → H' b = some (.frz o u)
  tbls : ∀ b ps, H b = some (.tbl ps) → ∃ more, H' b = some (.tbl (ps ++ more))
section
variable {fs fs' ex ex' : List Addr} {H H1 H2 : Hp} {h h1 h2 h' : Heap} {a x e : Addr} {o : HO}
theorem Un.any (u : Un fs ex H H1 h h1) {b : Addr} {ob : Obj} (q : h.get? b = some ob) (n : H b = none) (hx : b ∉ ex) : ∃ sl, h1.get? b = some { ob with slots := sl } := by
  by_cases hb : b ∈ fs
  · exact u.slot b ob q n hb hx
  · exact ⟨ob.slots, u.keep b ob q n hb hx⟩
theorem Un.trans (a : Un fs ex H H1 h h1) (b : Un fs ex H1 H2 h1 h2) : Un fs ex H H2 h h2 where
  keep := fun c ob q n hc hx => b.keep c ob (a.keep c ob q n hc hx) (a.free c ob q n hx) hc hx
  slot := fun c ob q n hc hx => by
    obtain ⟨sl, e1⟩ := a.slot c ob q n hc hx
    obtain ⟨sl', e2⟩ := b.slot c _ e1 (a.free c ob q n hx) hc hx
    exact ⟨sl', e2⟩
  free := fun c ob q n hx => by
    obtain ⟨o', e1⟩ := a.there c ob q hx
    exact b.free c o' e1 (a.free c ob q n hx) hx
  there := fun c ob q hx => by
    obtain ⟨o', e1⟩ := a.there c ob q hx
    exact b.there c o' e1 hx
  tups := fun c xs q => b.tups c xs (a.tups c xs q)
  frzs := fun c ob xs q => b.frzs c ob xs (a.frzs c ob xs q)
  tbls := fun c ps q => by
    obtain ⟨m1, e1⟩ := a.tbls c ps q
    obtain ⟨m2, e2⟩ := b.tbls c _ e1
    exact ⟨m1 ++ m2, by rw [e2, Array.append_assoc]⟩
theorem Un.kept (k : ∀ b u, h.get? b = some u → h'.get? b = some u) : Un fs ex H H h h' :=
  ⟨fun b ob q _ _ _ => k b ob q, fun b ob q _ _ _ => ⟨ob.slots, k b ob q⟩, fun _ _ _ n _ => n, fun b ob q _ => ⟨ob, k b ob q⟩, fun _ _ q => q, fun _ _ _ q => q, fun _ ps q => ⟨#[], by rw [q]; simp⟩⟩
theorem Un.refl : Un fs ex H H h h := Un.kept fun _ _ q => q
theorem Un.laid (k : ∀ b u, h.get? b = some u → h'.get? b = some u) (hp : h.objs.size ≤ a) (hn : H a = none) : Un fs ex H (upd H a o) h h' where
  keep := fun b u q _ _ _ => k b u q
  slot := fun b u q _ _ _ => ⟨u.slots, k b u q⟩
  free := fun b u q n _ => by rw [upd_ne (Nat.ne_of_lt (Nat.lt_of_lt_of_le (Heap.lt_size q) hp))]; exact n
  there := fun b u q _ => ⟨u, k b u q⟩
  tups := fun b xs q => by rw [upd_ne (ne_of_none q hn)]; exact q
  frzs := fun b u xs q => by rw [upd_ne (ne_of_none q hn)]; exact q
  tbls := fun b ps q => ⟨#[], by rw [upd_ne (ne_of_none q hn), q]; simp⟩
theorem Un.write (mu : Mut (H x)) (he : e = x ∨ H e = some (.own x)) (k : ∀ b u, b ≠ e → h.get? b = some u → h'.get? b = some u) (heo : ∃ u, h'.get? e = some u) : Un fs ex H (upd H x o) h h' := by
  have hx : ∀ b, H b = none → b ≠ x := fun b n z => by subst z; rw [n] at mu; exact mu
  have hb : ∀ b, H b = none → b ≠ e := fun b n z => by
    subst z
    rcases he with r | r
    · exact hx b n r
    · rw [n] at r; cases r
  have hm : ∀ b u, H b = some u → ¬ Mut (some u) → b ≠ x := fun b u q nm z => by subst z; rw [q] at mu; exact nm mu
  refine ⟨fun b u q n _ _ => k b u (hb b n) q, fun b u q n _ _ => ⟨u.slots, k b u (hb b n) q⟩, fun b u q n _ => by rw [upd_ne (hx b n)]; exact n, fun b u q _ => ?_,
    fun b xs q => by rw [upd_ne (hm b _ q fun z => z)]; exact q, fun b u xs q => by rw [upd_ne (hm b _ q fun z => z)]; exact q, fun b ps q => ⟨#[], by rw [upd_ne (hm b _ q fun z => z), q]; simp⟩⟩
  by_cases hbe : b = e
  · subst hbe; exact heo
  · exact ⟨u, k b u hbe q⟩
end

/-! ### the heap without what is tracked -/
def trk (h : Heap) (H : Hp) : List Addr := (List.range h.objs.size).filter fun a => (H a).isSome
def hidT (h : Heap) (H : Hp) : Heap := PySem.W.hideAll h (trk h H)
theorem hidT_size (h : Heap) (H : Hp) : (hidT h H).objs.size = h.objs.size := PySem.W.hideAll_size _ _
theorem hidT_get {h : Heap} {H : Hp} {b : Addr} {o : Obj} (e : h.get? b = some o) (n : H b = none) : (hidT h H).get? b = some o :=
  PySem.W.hideAll_get _ e fun hm => by
    have q : (H b).isSome = true := (List.mem_filter.mp hm).2
    rw [n] at q; simp at q
theorem of_hidT {h : Heap} {H : Hp} {b : Addr} {o : Obj} (e : (hidT h H).get? b = some o) : h.get? b = some o ∧ H b = none := by
  have e' : h.get? b = some o := PySem.W.of_hideAll (trk h H) e
  refine ⟨e', ?_⟩
  cases q : H b with
  | none => rfl
  | some x =>
    have hm : b ∈ trk h H := List.mem_filter.mpr ⟨List.mem_range.mpr (Heap.lt_size e'), by simp [q]⟩
    have z : (hidT h H).get? b = none := PySem.W.hideAll_none (trk h H) hm
    rw [z] at e; cases e

/-! ### OpenK's ledger, filled with every new object but one -/
def allNews (g h : Heap) (L : Addr) : List (Addr × Obj) := (List.range h.objs.size).filterMap fun a => if a = L ∨ (g.get? a).isSome = true then none else (h.get? a).map fun o => (a, o)
def rest (g h : Heap) (L d : Addr) : List (Addr × Obj) := (allNews g h L).filter fun p => decide (p.1 ≠ d)
end L2

namespace L2
open PySem PySem.Spec PyProof.Rows

/-- the module's facts, over the base: the heap at the law's entry without what is tracked there -/
structure Mod (K : PySem.W.Frag) (mg : Str → Option Value) (base : Heap) : Prop where
  kin : K.In base
  glob : base.Ns mainGlobals mg
  blt : ∃ mb, base.Ns builtinsNs mb ∧ ∀ x : Str, x ≠ "__name__" → mb x = bootBuiltins x
  nolimit : base.NoLimit

/-- an exception's object: its class, its own dict, its arguments, its trace -/
abbrev xObj (cls : Value) (dx : Option Addr) (a0 tb : Value) : Obj := { cls := cls, dict := dx, data := .fields #[a0, tb, .none, .none, .bool false, .none] }
/-- an exception as it is held: the very object, known -/
def xHO (e : Addr) (ob : Obj) : HO := .frz ob (.ext fun h => h.get? e = some ob)
/-- the exception that is handled around, known -/
def Hd (A : Around) (H : Hp) : Prop := ∃ e cls dx a0 tb, A.handled = some (.ref e) ∧ H e = some (xHO e (xObj cls dx a0 tb))
/-- the context: a def's body (or a comprehension's block) running. base: fixed through the whole law; s₀, H₀: the entry; outer: the frames whose slots others may change (a def's callers); stack: all frames that run;
   ex: iterators that were made ahead of the entry and are walked here (a comprehension's); fn: the names whose cells were made at the entry (a def: all; a comprehension's block: its own); calm: not within an except suite; pn: pins that every state bears; xe: what is wanted of an exception that leaves the code -/
structure Cx where
  prog : Program
  w : World
  K : PySem.W.Frag
  mg : Str → Option Value
  base : Heap
  A : Around
  N : List Str
  s₀ : Shared
  H₀ : Hp
  env : Env
  outer : List Env
  stack : List Env
  ex : List Addr
  fn : Str → Bool
  calm : Bool
  suit : Bool
  pn : List (Addr × Obj)
  xe : Value → Shared → Prop
/-- the callers' frames -/
def frs (l : List Env) : List Addr := l.filterMap (·.frame)
abbrev Cx.fs (X : Cx) : List Addr := frs X.outer

def Vis (sc : Scope) (x : Str) : Prop := sc.names.lookup x = some .local ∨ sc.names.lookup x = some .cell ∨ sc.names.lookup x = some .free
def Loc (sc : Scope) (x : Str) : Prop := sc.names.lookup x = some .local ∨ sc.names.lookup x = some .cell
def Look (env : Env) (h : Heap) (m : Str → Option Value) (x : Str) (u : Value) : Prop :=
  (env.kindOf x = some .local ∧ m x = some u) ∨ ((env.kindOf x = some .cell ∨ env.kindOf x = some .free) ∧ ∃ c, env.cells.lookup x = some c ∧ h.IsCell c (some u))

structure Cx.Ok (X : Cx) : Prop where
  mod : Mod X.K X.mg X.base
  kind : X.env.scope.kind = .function
  glob : X.env.globals = mainGlobals
  blt : X.env.builtins = builtinsNs
  above : X.s₀.heap.objs.size ≤ X.env.locals
  inj : ∀ x y c, X.env.cells.lookup x = some c → X.env.cells.lookup y = some c → x = y
  has : ∀ x, (X.env.kindOf x = some .cell ∨ X.env.kindOf x = some .free) → ∃ c, X.env.cells.lookup x = some c
  cab : ∀ x c, X.fn x = true → X.env.cells.lookup x = some c → X.s₀.heap.objs.size ≤ c
  hd : X.calm = true → X.A.handled = none
  frames : X.A.frames = some X.stack
  stk : X.stack = X.outer ∨ (X.stack = X.env :: X.outer ∧ X.env.frame = some X.env.locals)
  exf : ∀ b ∈ X.ex, b ≠ X.env.locals ∧ ∀ x c, X.env.cells.lookup x = some c → c ≠ b
  bs : ∀ b o, X.base.get? b = some o → X.s₀.heap.get? b = some o ∧ X.H₀ b = none
  bsz : X.base.objs.size ≤ X.s₀.heap.objs.size
  noex : ∀ b o, X.base.get? b = some o → b ∉ X.ex
  exfs : ∀ b ∈ X.ex, b ∉ X.fs
  funs : X.s₀.heap.FunFrames X.base X.outer
  frf : ∀ b ∈ X.fs, X.H₀ b = none
  hs : X.suit = true → Hd X.A X.H₀

structure Inv (X : Cx) (pins : List (Addr × Obj)) (σ : List (Option V)) (H : Hp) (s : Shared) : Prop where
  ok : X.Ok
  os : s.os = X.s₀.os
  bare : AllBare s.gens
  base : Un X.fs X.ex X.H₀ H X.s₀.heap s.heap
  loc : ∃ m, s.heap.Ns X.env.locals m ∧ ∀ (i : Nat) (x : Str) (v : V), X.N[i]? = some x → σ[i]? = some (some v) → Vis X.env.scope x → ∃ u, RelV v u ∧ Look X.env s.heap m x u
  cell : ∀ x c, X.env.cells.lookup x = some c → ∃ v, s.heap.IsCell c v
  free : H X.env.locals = none
  freeC : ∀ x c, X.env.cells.lookup x = some c → H c = none
  pin : ∀ p ∈ X.pn ++ pins, s.heap.get? p.1 = some p.2 ∧ H p.1 = none ∧ p.1 ≠ X.env.locals ∧ p.1 ∉ X.fs ∧ ∀ v, p.2.data ≠ .cell v
  hok : HOk X.prog X.w H s.heap
  len : σ.length = X.N.length

section
variable {X : Cx} {pins : List (Addr × Obj)} {σ : List (Option V)} {H H' : Hp} {s : Shared} {h' : Heap}

theorem Cx.Ok.nofr (ok : X.Ok) {b : Addr} {o : Obj} (e : X.base.get? b = some o) : b ∉ X.fs := fun hb => by
  have := (ok.funs.mem hb).1
  rw [e] at this; cases this
theorem Inv.bs (I : Inv X pins σ H s) : ∀ b o, X.base.get? b = some o → s.heap.get? b = some o ∧ H b = none := fun b o e =>
  ⟨I.base.keep b o (I.ok.bs b o e).1 (I.ok.bs b o e).2 (I.ok.nofr e) (I.ok.noex b o e), I.base.free b o (I.ok.bs b o e).1 (I.ok.bs b o e).2 (I.ok.noex b o e)⟩
theorem Inv.bk (I : Inv X pins σ H s) : ∀ b o, X.base.get? b = some o → s.heap.get? b = some o := fun b o e => (I.bs b o e).1
theorem Inv.mod (I : Inv X pins σ H s) : Mod X.K X.mg X.base := I.ok.mod
theorem Inv.kIn (I : Inv X pins σ H s) : X.K.In s.heap := I.ok.mod.kin.keeps I.bk
theorem Inv.lt (I : Inv X pins σ H s) : X.env.locals < s.heap.objs.size := let ⟨_, hn, _⟩ := I.loc; hn.lt
theorem Inv.sz (I : Inv X pins σ H s) : X.s₀.heap.objs.size ≤ s.heap.objs.size := Nat.le_trans I.ok.above (Nat.le_of_lt I.lt)
theorem Inv.nofs (I : Inv X pins σ H s) {a : Addr} (h : s.heap.objs.size ≤ a) : a ∉ X.fs := fun hb => by
  obtain ⟨_, o, ho, _⟩ := I.ok.funs.mem hb
  exact absurd (Nat.lt_of_lt_of_le (Heap.lt_size ho) (Nat.le_trans I.sz h)) (Nat.lt_irrefl _)
theorem Inv.cne (I : Inv X pins σ H s) : ∀ x c, X.env.cells.lookup x = some c → c ≠ X.env.locals := fun x c e z => by
  obtain ⟨v, o, ho, hd⟩ := I.cell x c e
  obtain ⟨m, ⟨o', es, ep, ho', hd', _⟩, _⟩ := I.loc
  rw [z, ho'] at ho; cases ho; rw [hd'] at hd; cases hd
theorem Inv.funs (I : Inv X pins σ H s) : s.heap.FunFrames X.base X.outer := by
  have all : ∀ (l : List Env), (∀ b ∈ frs l, b ∈ X.fs) → X.s₀.heap.FunFrames X.base l → s.heap.FunFrames X.base l := by
    intro l
    induction l with
    | nil => intro _ _; trivial
    | cons env r ih =>
      intro hs hl
      obtain ⟨hk, ⟨L, o, hf, hn, ho, hd⟩, hr⟩ := hl
      have hL : L ∈ X.fs := hs L (by unfold frs; rw [List.filterMap_cons, hf]; exact List.mem_cons_self)
      obtain ⟨sl, e⟩ := I.base.slot L o ho (I.ok.frf L hL) hL fun z => I.ok.exfs L z hL
      exact ⟨hk, ⟨L, _, hf, hn, e, hd⟩, ih (fun b hb => hs b (by unfold frs; rw [List.filterMap_cons, hf]; exact List.mem_cons_of_mem _ hb)) hr⟩
  exact all X.outer (fun _ hb => hb) I.ok.funs

/-- the frames that run, for a call -/
theorem Inv.stack (I : Inv X pins σ H s) : s.heap.FunFrames X.base X.stack := by
  rcases I.ok.stk with e | ⟨e, hf⟩
  · rw [e]; exact I.funs
  · rw [e]
    obtain ⟨m, hn, _⟩ := I.loc
    refine .cons (by rw [I.ok.kind]; decide) hf hn ?_ I.funs
    exact Heap.get?_none_of_le (Nat.le_trans I.ok.bsz I.ok.above)
theorem Inv.stkSub (I : Inv X pins σ H s) : ∀ b ∈ frs X.stack, b ∈ X.env.locals :: X.fs := fun b hb => by
  rcases I.ok.stk with e | ⟨e, hf⟩
  · rw [e] at hb; exact List.mem_cons_of_mem _ hb
  · rw [e] at hb
    unfold frs at hb
    rw [List.filterMap_cons, hf] at hb
    exact hb
theorem Inv.stkFree (I : Inv X pins σ H s) : ∀ b ∈ frs X.stack, H b = none := fun b hb => by
  rcases List.mem_cons.mp (I.stkSub b hb) with e | hb
  · rw [e]; exact I.free
  · obtain ⟨_, o, ho, _⟩ := I.ok.funs.mem hb
    exact I.base.free b o ho (I.ok.frf b hb) fun z => I.ok.exfs b z hb

/-- THE STEP: the untracked objects but the frame and the records at ch are kept (the callers' frames up to slots), the frame's map is kept, the new abstract heap is held -/
theorem Inv.step {g' : Array GenState} {t' : Nat} {d' : Drawn} {ch : List Addr} (I : Inv X pins σ H s)
    (hch : ∀ b ∈ ch, (b ∈ X.ex ∨ X.s₀.heap.objs.size ≤ b) ∧ b ≠ X.env.locals ∧ (∀ x c, X.env.cells.lookup x = some c → c ≠ b) ∧ ∀ p ∈ X.pn ++ pins, p.1 ≠ b)
    (keep : ∀ b o, b ≠ X.env.locals → b ∉ X.fs → b ∉ ch → s.heap.get? b = some o → H b = none → h'.get? b = some o)
    (slot : ∀ b o, b ≠ X.env.locals → b ∈ X.fs → b ∉ ch → s.heap.get? b = some o → H b = none → ∃ sl, h'.get? b = some { o with slots := sl }) (free : ∀ b o, b ∉ ch → s.heap.get? b = some o → H b = none → H' b = none)
    (there : ∀ b o, b ∉ ch → s.heap.get? b = some o → ∃ o', h'.get? b = some o')
    (tups : ∀ b xs, H b = some (.tup xs) → H' b = some (.tup xs)) (frzs : ∀ b o u, H b = some (.frz o u) → H' b = some (.frz o u)) (tbls : ∀ b ps, H b = some (.tbl ps) → ∃ more, H' b = some (.tbl (ps ++ more)))
    (ns : ∀ m, s.heap.Ns X.env.locals m → h'.Ns X.env.locals m) (hok : HOk X.prog X.w H' h') (hg : AllBare g') :
    Inv X pins σ H' { s with heap := h', gens := g', drawn := d', toks := t' } := by
  have neL : ∀ b o, X.s₀.heap.get? b = some o → b ≠ X.env.locals := fun b o e => Nat.ne_of_lt (Nat.lt_of_lt_of_le (Heap.lt_size e) I.ok.above)
  have neC : ∀ b o, X.s₀.heap.get? b = some o → b ∉ X.ex → b ∉ ch := fun b o e hx hb => by
    rcases (hch b hb).1 with z | z
    · exact hx z
    · exact absurd (Nat.lt_of_lt_of_le (Heap.lt_size e) z) (Nat.lt_irrefl _)
  have cellK : ∀ x c, X.env.cells.lookup x = some c → ∀ v, s.heap.IsCell c v → h'.IsCell c v := fun x c e v ⟨o, ho, hd⟩ => by
    have nch : c ∉ ch := fun z => (hch c z).2.2.1 x c e rfl
    by_cases hc : c ∈ X.fs
    · obtain ⟨sl, q⟩ := slot c o (I.cne x c e) hc nch ho (I.freeC x c e)
      exact ⟨_, q, hd⟩
    · exact ⟨o, keep c o (I.cne x c e) hc nch ho (I.freeC x c e), hd⟩
  refine ⟨I.ok, I.os, hg, ⟨fun b o e n hb hx => ?_, fun b o e n hb hx => ?_, fun b o e n hx => ?_, fun b o e hx => ?_, fun b xs e => tups b xs (I.base.tups b xs e), fun b o xs e => frzs b o xs (I.base.frzs b o xs e), fun b ps e => ?_⟩, ?_, fun x c e => ?_, ?_, fun x c e => ?_, fun p hp => ?_, hok, I.len⟩
  · exact keep b o (neL b o e) hb (neC b o e hx) (I.base.keep b o e n hb hx) (I.base.free b o e n hx)
  · obtain ⟨sl, e1⟩ := I.base.slot b o e n hb hx
    obtain ⟨sl', e2⟩ := slot b _ (neL b o e) hb (neC b o e hx) e1 (I.base.free b o e n hx)
    exact ⟨sl', e2⟩
  · obtain ⟨o', e1⟩ := I.base.there b o e hx
    exact free b o' (neC b o e hx) e1 (I.base.free b o e n hx)
  · obtain ⟨o', e1⟩ := I.base.there b o e hx
    exact there b o' (neC b o e hx) e1
  · obtain ⟨m1, e1⟩ := I.base.tbls b ps e
    obtain ⟨m2, e2⟩ := tbls b _ e1
    exact ⟨m1 ++ m2, by rw [e2, Array.append_assoc]⟩
  · obtain ⟨m, hn, hl⟩ := I.loc
    refine ⟨m, ns m hn, fun i x v e1 e2 e3 => ?_⟩
    obtain ⟨u, r, l⟩ := hl i x v e1 e2 e3
    refine ⟨u, r, ?_⟩
    rcases l with l | ⟨k, c, e, z⟩
    · exact .inl l
    · exact .inr ⟨k, c, e, cellK x c e _ z⟩
  · obtain ⟨v, z⟩ := I.cell x c e
    exact ⟨v, cellK x c e v z⟩
  · obtain ⟨m, ⟨o, _, _, ho, _⟩, _⟩ := I.loc
    exact free _ o (fun z => (hch _ z).2.1 rfl) ho I.free
  · obtain ⟨v, o, ho, hd⟩ := I.cell x c e
    exact free c o (fun z => (hch c z).2.2.1 x c e rfl) ho (I.freeC x c e)
  · obtain ⟨e, n, ne, nf, d⟩ := I.pin p hp
    have nch : p.1 ∉ ch := fun z => (hch p.1 z).2.2.2 p hp rfl
    exact ⟨keep p.1 p.2 ne nf nch e n, free p.1 p.2 nch e n, ne, nf, d⟩
/-- .. where the frame's own object is kept too -/
theorem Inv.un {t' : Nat} (I : Inv X pins σ H s) (u : Un X.fs [] H H' s.heap h') (hok : HOk X.prog X.w H' h') : Inv X pins σ H' { s with heap := h', toks := t' } := by
  obtain ⟨m, ⟨o, es, ep, ho, r⟩, _⟩ := id I.loc
  obtain ⟨sl, hL⟩ := u.any ho I.free (by simp)
  exact I.step (g' := s.gens) (d' := s.drawn) (ch := []) (fun _ z => nomatch z) (fun b o _ hb _ e n => u.keep b o e n hb (by simp)) (fun b o _ hb _ e n => u.slot b o e n hb (by simp)) (fun b o _ e n => u.free b o e n (by simp)) (fun b o _ e => u.there b o e (by simp)) u.tups u.frzs u.tbls (fun m' hm => by
    obtain ⟨o', es', ep', ho', r'⟩ := hm
    rw [ho] at ho'; cases ho'
    exact ⟨_, es', ep', hL, r'⟩) hok I.bare
/-- behind a call (or a comprehension's block): the slots of this frame may have changed too, the records at ch may have turned -/
theorem Inv.call {g' : Array GenState} {t' : Nat} {d' : Drawn} {ch : List Addr} (I : Inv X pins σ H s) (u : Un (frs X.stack) ch H H' s.heap h') (hok : HOk X.prog X.w H' h') (hg : AllBare g')
    (hch : ∀ b ∈ ch, (b ∈ X.ex ∨ X.s₀.heap.objs.size ≤ b) ∧ b ≠ X.env.locals ∧ (∀ x c, X.env.cells.lookup x = some c → c ≠ b) ∧ ∀ p ∈ X.pn ++ pins, p.1 ≠ b) :
    Inv X pins σ H' { s with heap := h', gens := g', drawn := d', toks := t' } := by
  obtain ⟨m, ⟨o, es, ep, ho, r⟩, _⟩ := id I.loc
  obtain ⟨sl, hL⟩ := u.any ho I.free fun z => (hch _ z).2.1 rfl
  exact I.step (ch := ch) hch (fun b o hL hb hc e n => u.keep b o e n (fun z => (List.mem_cons.mp (I.stkSub b z)).elim hL hb) hc) (fun b o _ _ hc e n => u.any e n hc) (fun b o hc e n => u.free b o e n hc) (fun b o hc e => u.there b o e hc) u.tups u.frzs u.tbls (fun m' hm => by
    obtain ⟨o', es', ep', ho', r'⟩ := hm
    rw [ho] at ho'; cases ho'
    exact ⟨_, es', ep', hL, r'⟩) hok hg
/-- an untracked record of ours (an iterator) has turned -/
theorem Inv.turned {t' : Nat} {it : Addr} (I : Inv X pins σ H s) (k : ∀ b o, b ≠ it → s.heap.get? b = some o → h'.get? b = some o) (hn : H it = none) (hL : it ≠ X.env.locals)
    (h1 : it ∈ X.ex ∨ X.s₀.heap.objs.size ≤ it) (h2 : ∀ x c, X.env.cells.lookup x = some c → c ≠ it) (h3 : ∀ p ∈ X.pn ++ pins, p.1 ≠ it) : Inv X pins σ H { s with heap := h', toks := t' } := by
  have nit : ∀ b u, H b = some u → b ≠ it := fun b u e z => by rw [z, hn] at e; cases e
  refine I.step (g' := s.gens) (d' := s.drawn) (ch := [it]) (fun b hb => ?_) (fun b o _ _ hc e _ => k b o (fun z => hc (by simp [z])) e) (fun b o _ _ hc e _ => ⟨o.slots, k b o (fun z => hc (by simp [z])) e⟩) (fun _ _ _ _ n => n)
    (fun b o hc e => ⟨o, k b o (fun z => hc (by simp [z])) e⟩) (fun _ _ e => e) (fun _ _ _ e => e) (fun b ps e => ⟨#[], by rw [e]; simp⟩) (fun m hm => ?_) (fun b u e => ?_) I.bare
  · have e : b = it := by simpa using hb
    subst e
    exact ⟨h1, hL, h2, h3⟩
  · obtain ⟨o, es, ep, ho, r⟩ := hm
    exact ⟨o, es, ep, k _ o (Ne.symm hL) ho, r⟩
  · refine (I.hok b u e).stay (fun c v hc q => k c v ?_ q) (fun _ q => q) fun _ _ q => q
    rcases hc with z | z
    · rw [z]; exact nit b u e
    · exact nit c _ z
theorem Inv.tok (I : Inv X pins σ H s) (t : Nat) : Inv X pins σ H { s with toks := t } := I.un (h' := s.heap) (t' := t) Un.refl I.hok
/-- all objects kept -/
theorem Inv.kept {t' : Nat} (I : Inv X pins σ H s) (k : ∀ b u, s.heap.get? b = some u → h'.get? b = some u) : Inv X pins σ H { s with heap := h', toks := t' } := I.un (Un.kept k) (I.hok.kept k)
/-- a new object laid and tracked -/
theorem Inv.laid {a : Addr} {o : HO} {t' : Nat} (I : Inv X pins σ H s) (k : ∀ b u, s.heap.get? b = some u → h'.get? b = some u) (hp : s.heap.objs.size ≤ a) (new : ObjOk X.prog X.w (upd H a o) h' a o) :
    Inv X pins σ (upd H a o) { s with heap := h', toks := t' } := I.un (Un.laid k hp (I.hok.fresh hp)) (I.hok.laid k hp new)
/-- an object written -/
theorem Inv.write {x e : Addr} {o : HO} {t' : Nat} (I : Inv X pins σ H s) (mu : Mut (H x)) (he : e = x ∨ H e = some (.own x)) (k : ∀ b u, b ≠ e → s.heap.get? b = some u → h'.get? b = some u) (heo : ∃ u, h'.get? e = some u)
    (new : ObjOk X.prog X.w (upd H x o) h' x o) : Inv X pins σ (upd H x o) { s with heap := h', toks := t' } := I.un (Un.write mu he k heo) (I.hok.write mu he k heo new)
/-- forgetting slots, pins -/
theorem Inv.weak {σ' : List (Option V)} (I : Inv X pins σ H s) (hl : σ'.length = σ.length) (w : ∀ (i : Nat) v, σ'[i]? = some (some v) → σ[i]? = some (some v)) : Inv X pins σ' H s :=
  ⟨I.ok, I.os, I.bare, I.base, let ⟨m, hn, hl'⟩ := I.loc; ⟨m, hn, fun i x v e1 e2 e3 => hl' i x v e1 (w i v e2) e3⟩, I.cell, I.free, I.freeC, I.pin, I.hok, hl.trans I.len⟩
theorem Inv.pins_of {pins' : List (Addr × Obj)} (I : Inv X pins σ H s) (h : ∀ p ∈ pins', s.heap.get? p.1 = some p.2 ∧ H p.1 = none ∧ p.1 ≠ X.env.locals ∧ p.1 ∉ X.fs ∧ ∀ v, p.2.data ≠ .cell v) : Inv X pins' σ H s :=
  ⟨I.ok, I.os, I.bare, I.base, I.loc, I.cell, I.free, I.freeC, fun p hp => (List.mem_append.mp hp).elim (fun z => I.pin p (List.mem_append_left _ z)) (h p), I.hok, I.len⟩

theorem nodup_ix {N : List Str} (hN : N.Nodup) {i j : Nat} {x : Str} (a : N[i]? = some x) (b : N[j]? = some x) : i = j := by
  obtain ⟨h1, e1⟩ := List.getElem?_eq_some_iff.mp a
  obtain ⟨h2, e2⟩ := List.getElem?_eq_some_iff.mp b
  exact (List.getElem_inj hN).mp (e1.trans e2.symm)

/-- a name is stored; what changed -/
theorem store_ok2 {M : Model} {A : Around} {E : Value → Shared → Prop} {i : Nat} {x : Str} {v : V} {u : Value} {Q : Unit → Shared → Prop} (I : Inv X pins σ H s) (hN : X.N.Nodup) (hi : X.N[i]? = some x) (hx : Loc X.env.scope x) (r : RelV v u)
    (h : ∀ s', Inv X pins (σ.set i (some v)) H s' → (∃ a, Heap.SameBut a s.heap s'.heap ∧ (a = X.env.locals ∨ X.env.cells.lookup x = some a)) → Q () s') (hf : X.fn x = true ∨ X.env.scope.names.lookup x = some .local := by first | exact .inl rfl | exact .inr rfl | assumption) : wpAny M A (storeName X.env x u) Q E s := by
  obtain ⟨m, hn, hl⟩ := id I.loc
  have hcls : (X.env.scope.kind == .class || (X.env.scope.kind == .module && X.env.locals != X.env.globals)) = false := by rw [I.ok.kind]; rfl
  have hiσ : i < σ.length := by rw [I.len]; exact (List.getElem?_eq_some_iff.mp hi).1
  have cne := I.cne
  have tracked : ∀ {a : Addr} {h' : Heap}, (∃ o, s.heap.get? a = some o ∧ H a = none) → Heap.SameBut a s.heap h' → HOk X.prog X.w H h' := fun {a h'} ha hs b ob e => by
    obtain ⟨_, _, hfree⟩ := ha
    refine (I.hok b ob e).stay (fun c w' hc q => (hs.2 c ?_).trans q) (fun _ q => q) fun _ _ q => q
    rintro rfl
    rcases hc with rfl | hc
    · rw [hfree] at e; cases e
    · rw [hfree] at hc; cases hc
  rcases hx with hk | hk
  · refine wpAny_storeName_local hk hn (fun h' hn' hs => ?_) hcls
    obtain ⟨oL, _, _, hoL, _⟩ := id hn
    refine h _ ⟨I.ok, I.os, I.bare, ⟨fun b o e n hb hx => ?_, fun b o e n hb hx => ?_, I.base.free, fun b o e hx => ?_, I.base.tups, I.base.frzs, I.base.tbls⟩, ⟨_, hn', fun j y v' e1 e2 e3 => ?_⟩, fun y c e => ?_, I.free, I.freeC, fun p hp => ?_, tracked ⟨oL, hoL, I.free⟩ hs, by simpa using I.len⟩ ⟨_, hs, .inl rfl⟩
    · exact (hs.2 b (Nat.ne_of_lt (Nat.lt_of_lt_of_le (Heap.lt_size e) I.ok.above))).trans (I.base.keep b o e n hb hx)
    · obtain ⟨sl, e1⟩ := I.base.slot b o e n hb hx
      exact ⟨sl, (hs.2 b (Nat.ne_of_lt (Nat.lt_of_lt_of_le (Heap.lt_size e) I.ok.above))).trans e1⟩
    · obtain ⟨o', e1⟩ := I.base.there b o e hx
      exact ⟨o', (hs.2 b (Nat.ne_of_lt (Nat.lt_of_lt_of_le (Heap.lt_size e) I.ok.above))).trans e1⟩
    · by_cases hj : j = i
      · subst hj
        rw [hi] at e1; cases e1
        rw [List.getElem?_set_self hiσ] at e2
        cases e2
        exact ⟨u, r, .inl ⟨hk, by simp⟩⟩
      · rw [List.getElem?_set_ne (Ne.symm hj)] at e2
        obtain ⟨u', r', q⟩ := hl j y v' e1 e2 e3
        refine ⟨u', r', ?_⟩
        rcases q with ⟨k, e⟩ | ⟨k, c, e, z⟩
        · refine .inl ⟨k, ?_⟩
          have : y ≠ x := fun e => hj (nodup_ix hN e1 (e ▸ hi))
          simp [this, e]
        · exact .inr ⟨k, c, e, z.sameBut hs (cne y c e)⟩
    · obtain ⟨w', z⟩ := I.cell y c e
      exact ⟨w', z.sameBut hs (cne y c e)⟩
    · obtain ⟨e, n, ne, nf, d⟩ := I.pin p hp
      exact ⟨(hs.2 p.1 ne).trans e, n, ne, nf, d⟩
  · have hfn : X.fn x = true := by
      rcases hf with z | z
      · exact z
      · rw [z] at hk; cases hk
    obtain ⟨c, hc⟩ := I.ok.has x (.inl hk)
    obtain ⟨w', z⟩ := I.cell x c hc
    refine wpAny_storeName_cell I.ok.kind hk hc z (fun h' hc' hs => ?_)
    obtain ⟨oc, hoc, hocd⟩ := id z
    refine h { s with heap := h' } ⟨I.ok, I.os, I.bare, ⟨fun b o e n hb hx => ?_, fun b o e n hb hx => ?_, I.base.free, fun b o e hx => ?_, I.base.tups, I.base.frzs, I.base.tbls⟩, ⟨m, hn.sameBut hs (Ne.symm (cne x c hc)), fun j y v' e1 e2 e3 => ?_⟩, fun y c' e => ?_, I.free, I.freeC, fun p hp => ?_, tracked ⟨oc, hoc, I.freeC x c hc⟩ hs, by simpa using I.len⟩ ⟨c, hs, .inr hc⟩
    · exact (hs.2 b (Nat.ne_of_lt (Nat.lt_of_lt_of_le (Heap.lt_size e) (I.ok.cab x c hfn hc)))).trans (I.base.keep b o e n hb hx)
    · obtain ⟨sl, e1⟩ := I.base.slot b o e n hb hx
      exact ⟨sl, (hs.2 b (Nat.ne_of_lt (Nat.lt_of_lt_of_le (Heap.lt_size e) (I.ok.cab x c hfn hc)))).trans e1⟩
    · obtain ⟨o', e1⟩ := I.base.there b o e hx
      exact ⟨o', (hs.2 b (Nat.ne_of_lt (Nat.lt_of_lt_of_le (Heap.lt_size e) (I.ok.cab x c hfn hc)))).trans e1⟩
    · by_cases hj : j = i
      · subst hj
        rw [hi] at e1; cases e1
        rw [List.getElem?_set_self hiσ] at e2
        cases e2
        exact ⟨u, r, .inr ⟨.inl hk, c, hc, hc'⟩⟩
      · rw [List.getElem?_set_ne (Ne.symm hj)] at e2
        obtain ⟨u', r', q⟩ := hl j y v' e1 e2 e3
        refine ⟨u', r', ?_⟩
        rcases q with q | ⟨k, c', e, z'⟩
        · exact .inl q
        · refine .inr ⟨k, c', e, z'.sameBut hs ?_⟩
          rintro rfl
          exact hj (nodup_ix hN e1 (I.ok.inj _ _ _ e hc ▸ hi))
    · by_cases hcc : c' = c
      · subst hcc; exact ⟨_, hc'⟩
      · obtain ⟨w2, z2⟩ := I.cell y c' e
        exact ⟨w2, z2.sameBut hs hcc⟩
    · obtain ⟨e, n, ne, nf, d⟩ := I.pin p hp
      refine ⟨(hs.2 p.1 ?_).trans e, n, ne, nf, d⟩
      intro q
      rw [q, hoc] at e
      have q' : oc = p.2 := Option.some.inj e
      exact d w' (by rw [← q']; exact hocd)
theorem store_ok {M : Model} {A : Around} {E : Value → Shared → Prop} {i : Nat} {x : Str} {v : V} {u : Value} {Q : Unit → Shared → Prop} (I : Inv X pins σ H s) (hN : X.N.Nodup) (hi : X.N[i]? = some x) (hx : Loc X.env.scope x) (r : RelV v u)
    (h : ∀ s', Inv X pins (σ.set i (some v)) H s' → Q () s') (hf : X.fn x = true ∨ X.env.scope.names.lookup x = some .local := by first | exact .inl rfl | exact .inr rfl | assumption) : wpAny M A (storeName X.env x u) Q E s :=
  store_ok2 I hN hi hx r (fun s' I' _ => h s' I') hf
/-- behind a call or a block, the state as it is -/
theorem Inv.call' {s' : Shared} {ch : List Addr} (I : Inv X pins σ H s) (ho : s'.os = s.os) (u : Un (frs X.stack) ch H H' s.heap s'.heap) (hok : HOk X.prog X.w H' s'.heap) (hg : AllBare s'.gens)
    (hch : ∀ b ∈ ch, (b ∈ X.ex ∨ X.s₀.heap.objs.size ≤ b) ∧ b ≠ X.env.locals ∧ (∀ x c, X.env.cells.lookup x = some c → c ≠ b) ∧ ∀ p ∈ X.pn ++ pins, p.1 ≠ b) : Inv X pins σ H' s' := by
  obtain ⟨h', g', d', t', o'⟩ := s'
  have e : o' = s.os := ho
  subst e
  exact I.call (g' := g') (t' := t') (d' := d') u hok hg hch
end

/-! ### the judgements -/
/-- an exception: its class, its own dict's address (where it has one), the abstract heap behind it -/
abbrev XK := Value → Option Addr → Hp → Prop
abbrev St := List (Option V)
abbrev VK := V → Hp → Prop
/-- an expression's reading; a test's; an argument list's -/
abbrev TE := St → Hp → VK → Prop
abbrev TT := St → Hp → (Bool → Hp → Prop) → Prop
abbrev TA := St → Hp → (List V → Hp → Prop) → Prop
/-- what is wanted behind a statement -/
structure Ends where
  nx : St → Hp → Prop
  rt : VK
  bk : St → Hp → Prop := fun _ _ => False
  ct : St → Hp → Prop := fun _ _ => False
abbrev TS := Ends → St → Hp → Prop

def EP (X : Cx) (pins : List (Addr × Obj)) (σ : St) (Q : VK) (u : Value) (s' : Shared) : Prop := ∃ v H', Inv X pins σ H' s' ∧ RelV v u ∧ Q v H'
def TP (X : Cx) (pins : List (Addr × Obj)) (σ : St) (Q : Bool → Hp → Prop) (b : Bool) (s' : Shared) : Prop := ∃ H', Inv X pins σ H' s' ∧ Q b H'
def AP (X : Cx) (pins : List (Addr × Obj)) (σ : St) (Q : List V → Hp → Prop) (us : List Value) (s' : Shared) : Prop := ∃ vs H', Inv X pins σ H' s' ∧ Vals vs us ∧ Q vs H'
def SP (X : Cx) (pins : List (Addr × Obj)) (D : Ends) (f : Flow) (s' : Shared) : Prop :=
  match f with
  | .next => ∃ σ' H', Inv X pins σ' H' s' ∧ D.nx σ' H'
  | .brk => ∃ σ' H', Inv X pins σ' H' s' ∧ D.bk σ' H'
  | .cont => ∃ σ' H', Inv X pins σ' H' s' ∧ D.ct σ' H'
  | .ret u => ∃ v σ' H', Inv X pins σ' H' s' ∧ RelV v u ∧ D.rt v H'

def PE (X : Cx) (e : Expr) (t : TE) : Prop :=
  ∀ (pins : List (Addr × Obj)) (s : Shared) (σ : St) (H : Hp) (Q : VK), Inv X pins σ H s → t σ H Q → wpAny (model X.prog X.w) X.A (eval e X.env) (EP X pins σ Q) X.xe s
def PT (X : Cx) (e : Expr) (t : TT) : Prop :=
  ∀ (pins : List (Addr × Obj)) (s : Shared) (σ : St) (H : Hp) (Q : Bool → Hp → Prop), Inv X pins σ H s → t σ H Q → wpAny (model X.prog X.w) X.A (isTrue e X.env (eval e X.env)) (TP X pins σ Q) X.xe s
/-- a test whatever its 'whole' is (and, or) -/
def PW (X : Cx) (e : Expr) (t : TT) : Prop :=
  ∀ (whole : Sem Value) (pins : List (Addr × Obj)) (s : Shared) (σ : St) (H : Hp) (Q : Bool → Hp → Prop), Inv X pins σ H s → t σ H Q → wpAny (model X.prog X.w) X.A (isTrue e X.env whole) (TP X pins σ Q) X.xe s
theorem PW.pt {X : Cx} {e : Expr} {t : TT} (h : PW X e t) : PT X e t := h _
/-- an argument list (no star), from the left -/
def PA (X : Cx) (es : List Expr) (t : TA) : Prop :=
  ∀ (pos : Pos) (pins : List (Addr × Obj)) (s : Shared) (σ : St) (H : Hp) (Q : List V → Hp → Prop), Inv X pins σ H s → t σ H Q → wpAny (model X.prog X.w) X.A (spliced (backTo pos (starEach es X.env))) (AP X pins σ Q) X.xe s
def PS (X : Cx) (st : Stmt) (t : TS) : Prop :=
  ∀ (pins : List (Addr × Obj)) (s : Shared) (σ : St) (H : Hp) (D : Ends), Inv X pins σ H s → t D σ H → wpAny (model X.prog X.w) X.A (exec st X.env) (SP X pins D) X.xe s
def PSs (X : Cx) (st : List Stmt) (t : TS) : Prop :=
  ∀ (pins : List (Addr × Obj)) (s : Shared) (σ : St) (H : Hp) (D : Ends), Inv X pins σ H s → t D σ H → wpAny (model X.prog X.w) X.A (execs st X.env) (SP X pins D) X.xe s
/-- weaken the end -/
theorem thn {α : Type} {t : Sem α} {Q Q' : α → Shared → Prop} {M : Model} {A : Around} {E : Value → Shared → Prop} {s : Shared} (h : wpAny M A t Q E s) (hQ : ∀ a s, Q a s → Q' a s) : wpAny M A t Q' E s := wpAny_mono h hQ fun _ _ x => x
end L2

namespace L2
open PySem PySem.Spec PyProof.Rows
section
variable {X : Cx}

/-! ### names and constants -/
def tVar (i : Nat) : TE := fun σ H Q => ∃ v, σ[i]? = some (some v) ∧ Q v H
def tC (v : V) : TE := fun _ H Q => Q v H
theorem pe_var {i : Nat} {x : Str} {pos : Pos} (hN : X.N[i]? = some x) (hv : Vis X.env.scope x) (hd : (x == ("__debug__" : Str)) = false := by decide) (hcd : (x == ("__classdict__" : Str)) = false := by decide) : PE X (.Name x pos) (tVar i) := by
  intro pins s σ H Q I h
  obtain ⟨v, e, h⟩ := h
  obtain ⟨m, hn, hl⟩ := I.loc
  obtain ⟨u, r, l⟩ := hl i x v hN e hv
  have fin : EP X pins σ Q u s := ⟨v, H, I, r, h⟩
  rcases l with ⟨hk, hm⟩ | ⟨hk, c, hc, hcell⟩
  · exact wpAny_Name (wpAny_loadName_local I.ok.kind hk hn hm fin) hd
  · rcases hk with hk | hk
    · exact wpAny_Name (wpAny_loadName_cell I.ok.kind hk hc hcell fin) hd
    · exact wpAny_Name (wpAny_loadName_free I.ok.kind hk hc hcell fin hcd) hd
theorem pe_int {i j pos} : PE X (.Constant (.int i) j pos) (tC (.int i)) := fun _ _ _ H _ I h => wpAny_Constant_int ⟨.int i, H, I.tok _, ⟨_, rfl⟩, h⟩
theorem pe_bl {b j pos} : PE X (.Constant (.bool b) j pos) (tC (.bl b)) := fun _ _ _ H _ I h => Constant_bool ⟨.bl b, H, I, rfl, h⟩
theorem pe_non {j pos} : PE X (.Constant .none j pos) (tC .non) := fun _ _ _ H _ I h => Constant_none ⟨.non, H, I, rfl, h⟩
theorem pe_str {x j pos} : PE X (.Constant (.str x) j pos) (tC (.str x)) := fun _ _ _ H _ I h => Calls.Constant_str ⟨.str x, H, I.tok _, ⟨_, rfl⟩, h⟩

/-- a global name of the def -/
def Gl (X : Cx) (x : Str) : Prop := X.env.kindOf x = some .globalImplicit
theorem ld_glob {E : Value → Shared → Prop} {pins : List (Addr × Obj)} {s : Shared} {σ : St} {H : Hp} {x : Str} {u : Value} {pos : Pos} {Q : Value → Shared → Prop} (I : Inv X pins σ H s) (hg : Gl X x) (hm : X.mg x = some u) (h : Q u s)
    (hd : (x == ("__debug__" : Str)) = false := by decide) : wpAny (model X.prog X.w) X.A (eval (.Name x pos) X.env) Q E s :=
  Calls.Name_function_global I.ok.kind hg (Calls.loadGlobal_global (by rw [I.ok.glob]; exact I.mod.glob.keeps I.bk) hm h) hd
theorem ld_blt {E : Value → Shared → Prop} {pins : List (Addr × Obj)} {s : Shared} {σ : St} {H : Hp} {x : Str} {u : Value} {pos : Pos} {Q : Value → Shared → Prop} (I : Inv X pins σ H s) (hg : Gl X x) (hm : X.mg x = none) (hv : bootBuiltins x = some u) (h : Q u s)
    (hn : x ≠ "__name__" := by decide) (hd : (x == ("__debug__" : Str)) = false := by decide) : wpAny (model X.prog X.w) X.A (eval (.Name x pos) X.env) Q E s := by
  obtain ⟨mb, h1, h2⟩ := I.mod.blt
  exact Calls.Name_function_global I.ok.kind hg (Calls.loadGlobal_builtin (by rw [I.ok.glob]; exact I.mod.glob.keeps I.bk) hm (by rw [I.ok.blt]; exact h1.keeps I.bk) ((h2 x hn).trans hv) h) hd
/-- a module's constant, a class, a function, as a value -/
theorem pe_glob {x : Str} {v : V} {u : Value} {pos : Pos} (hg : Gl X x) (hm : X.mg x = some u) (r : RelV v u) (hd : (x == ("__debug__" : Str)) = false := by decide) : PE X (.Name x pos) (tC v) :=
  fun _ _ _ H _ I h => ld_glob I hg hm ⟨v, H, I, r, h⟩ hd
theorem pe_bltn {x : Str} {v : V} {u : Value} {pos : Pos} (hg : Gl X x) (hm : X.mg x = none) (hv : bootBuiltins x = some u) (r : RelV v u) (hn : x ≠ "__name__" := by decide) (hd : (x == ("__debug__" : Str)) = false := by decide) : PE X (.Name x pos) (tC v) :=
  fun _ _ _ H _ I h => ld_blt I hg hm hv ⟨v, H, I, r, h⟩ hn hd

/-! ### arithmetic -/
/-- two ints -/
def t2I (ta tb : TE) (k : Int → Int → Hp → Prop) : St → Hp → Prop := fun σ H => ta σ H fun x H1 => tb σ H1 fun y H2 => ∃ i j, x = .int i ∧ y = .int j ∧ k i j H2
def tAdd (ta tb : TE) : TE := fun σ H Q => t2I ta tb (fun i j H2 => Q (.int (i + j)) H2) σ H
def tSub (ta tb : TE) : TE := fun σ H Q => t2I ta tb (fun i j H2 => Q (.int (i - j)) H2) σ H
/-- the left factor below 2^64 -/
def tMul (ta tb : TE) : TE := fun σ H Q => t2I ta tb (fun i j H2 => (-(2 ^ 64) < i ∧ i < 2 ^ 64) ∧ Q (.int (i * j)) H2) σ H
variable {a b : Expr} {ta tb : TE} {pos : Pos}
/-! ### comparisons -/
def PC (X : Cx) (op : CmpOp) (a b : Expr) (t : TE) : Prop :=
  ∀ (pins : List (Addr × Obj)) (s : Shared) (σ : St) (H : Hp) (Q : VK), Inv X pins σ H s → t σ H Q →
    wpAny (model X.prog X.w) X.A (eval a X.env) (fun v s₁ => wpAny (model X.prog X.w) X.A (eval b X.env) (fun u s₂ => wpAny (model X.prog X.w) X.A (compareOp op v u) (EP X pins σ Q) X.xe s₂) X.xe s₁) X.xe s
def tCmp (p : Int → Int → Bool) (ta tb : TE) : TE := fun σ H Q => t2I ta tb (fun i j H2 => Q (.bl (p i j)) H2) σ H
abbrev tLt : TE → TE → TE := tCmp fun i j => decide (i < j)
abbrev tLe : TE → TE → TE := tCmp fun i j => decide (i ≤ j)
abbrev tGt : TE → TE → TE := tCmp fun i j => decide (j < i)
abbrev tGe : TE → TE → TE := tCmp fun i j => decide (j ≤ i)
abbrev tEqI : TE → TE → TE := tCmp fun i j => decide (i = j)
abbrev tNeI : TE → TE → TE := tCmp fun i j => !decide (i = j)
/-- is None -/
def tIsN (ta : TE) : TE := fun σ H Q => ta σ H fun x H1 => Q (.bl (decide (x = .non))) H1
def tNotN (ta : TE) : TE := fun σ H Q => ta σ H fun x H1 => Q (.bl (!decide (x = .non))) H1
/-- a comparison as a value, as a test -/
def tB (t : TE) : TT := fun σ H Q => t σ H fun x H1 => ∃ c, x = .bl c ∧ Q c H1
/-- an expression whose value is a bool, as a test -/
theorem pt_val {e : Expr} {t : TE} (h : PE X e t) (he : ∀ whole, isTrue e X.env whole = (do let v ← whole; standAt e.pos; holding [v] (truthy v)) := by intro _; rfl) : PT X e (tB t) := by
  intro pins s σ H Q I hw
  refine isTrue_plain (thn (h pins s σ H _ I hw) fun v s1 ⟨x, H1, I1, r1, q1⟩ => ?_) (he _)
  obtain ⟨d, rfl, q⟩ := q1
  cases r1
  exact wpAny_truthy_bool ⟨H1, I1, q⟩

/-! ### and, or, not -/
variable {tA tB' : TT} {rest : List Expr}
def tAnd (t u : TT) : TT := fun σ H Q => t σ H fun c H1 => if c = true then u σ H1 Q else Q false H1
def tOr (t u : TT) : TT := fun σ H Q => t σ H fun c H1 => if c = true then Q true H1 else u σ H1 Q
def tNot (t : TT) : TT := fun σ H Q => t σ H fun c H1 => Q (!c) H1
theorem pw_and1 (ha : PT X a tA) : PW X (.BoolOp .And [a] pos) tA := by
  intro wh pins s σ H Q I h
  refine isTrue_and (thn (ha pins s σ H Q I h) fun c s1 e => ?_)
  cases c with
  | true => exact isTrue_and_nil e
  | false => exact e
theorem pw_or1 (ha : PT X a tA) : PW X (.BoolOp .Or [a] pos) tA := by
  intro wh pins s σ H Q I h
  refine isTrue_or (thn (ha pins s σ H Q I h) fun c s1 e => ?_)
  cases c with
  | false => exact isTrue_or_nil e
  | true => exact e
theorem pw_and (ha : PT X a tA) (hb : PW X (.BoolOp .And (b :: rest) pos) tB') : PW X (.BoolOp .And (a :: b :: rest) pos) (tAnd tA tB') := by
  intro wh pins s σ H Q I h
  refine isTrue_and (thn (ha pins s σ H _ I h) fun c s1 ⟨H1, I1, q1⟩ => ?_)
  cases c with
  | true => exact hb wh pins s1 σ H1 Q I1 q1
  | false => exact ⟨H1, I1, q1⟩
theorem pw_or (ha : PT X a tA) (hb : PW X (.BoolOp .Or (b :: rest) pos) tB') : PW X (.BoolOp .Or (a :: b :: rest) pos) (tOr tA tB') := by
  intro wh pins s σ H Q I h
  refine isTrue_or (thn (ha pins s σ H _ I h) fun c s1 ⟨H1, I1, q1⟩ => ?_)
  cases c with
  | true => exact ⟨H1, I1, q1⟩
  | false => exact hb wh pins s1 σ H1 Q I1 q1
theorem pt_not (ha : PT X a tA) : PT X (.UnaryOp .Not a pos) (tNot tA) := by
  intro pins s σ H Q I h
  exact isTrue_not (ha pins s σ H (fun c H1 => Q (!c) H1) I h)
/-- .. as values (bools) -/
def tAndV (ta tb : TE) : TE := fun σ H Q => ta σ H fun x H1 => ∃ c, x = .bl c ∧ if c = true then tb σ H1 Q else Q (.bl false) H1
def tOrV (ta tb : TE) : TE := fun σ H Q => ta σ H fun x H1 => ∃ c, x = .bl c ∧ if c = true then Q (.bl true) H1 else tb σ H1 Q
def tNotV (ta : TE) : TE := fun σ H Q => ta σ H fun x H1 => ∃ c, x = .bl c ∧ Q (.bl (!c)) H1
theorem pe_one {op} {t : TE} (h : PE X a t) : PE X (.BoolOp op [a] pos) t := fun pins s σ H Q I hw => BoolOp_one (h pins s σ H Q I hw)
theorem pe_and (ha : PE X a ta) (hb : PE X (.BoolOp .And (b :: rest) pos) tb) : PE X (.BoolOp .And (a :: b :: rest) pos) (tAndV ta tb) := by
  intro pins s σ H Q I h
  refine BoolOp_and (thn (ha pins s σ H _ I h) fun v s1 ⟨x, H1, I1, r1, q1⟩ => ?_)
  obtain ⟨c, rfl, q1⟩ := q1
  cases r1
  refine wpAny_truthy_bool ?_
  cases c with
  | true => exact hb pins s1 σ H1 Q I1 q1
  | false => exact ⟨.bl false, H1, I1, rfl, q1⟩
theorem pe_or (ha : PE X a ta) (hb : PE X (.BoolOp .Or (b :: rest) pos) tb) : PE X (.BoolOp .Or (a :: b :: rest) pos) (tOrV ta tb) := by
  intro pins s σ H Q I h
  refine BoolOp_or (thn (ha pins s σ H _ I h) fun v s1 ⟨x, H1, I1, r1, q1⟩ => ?_)
  obtain ⟨c, rfl, q1⟩ := q1
  cases r1
  refine wpAny_truthy_bool ?_
  cases c with
  | false => exact hb pins s1 σ H1 Q I1 q1
  | true => exact ⟨.bl true, H1, I1, rfl, q1⟩
theorem pe_not (ha : PE X a ta) : PE X (.UnaryOp .Not a pos) (tNotV ta) := by
  intro pins s σ H Q I h
  refine UnaryOp_ (thn (ha pins s σ H _ I h) fun v s1 ⟨x, H1, I1, r1, q1⟩ => ?_)
  obtain ⟨c, rfl, q1⟩ := q1
  cases r1
  exact not_of (wpAny_truthy_bool ⟨.bl (!c), H1, I1, rfl, q1⟩)
/-- a if t else b -/
def tIf (t : TT) (ta tb : TE) : TE := fun σ H Q => t σ H fun c H1 => if c = true then ta σ H1 Q else tb σ H1 Q
theorem pe_ifExp {c : Expr} (hc : PT X c tA) (ha : PE X a ta) (hb : PE X b tb) : PE X (.IfExp c a b pos) (tIf tA ta tb) := by
  intro pins s σ H Q I h
  refine wpAny_IfExp (thn (hc pins s σ H _ I h) fun d s1 ⟨H1, I1, q1⟩ => ?_)
  cases d with
  | true => exact ha pins s1 σ H1 Q I1 q1
  | false => exact hb pins s1 σ H1 Q I1 q1
end
end L2

namespace L2
open PySem PySem.Spec PyProof.Rows

/-! ### a list, a tuple that is read: tracked, frozen, or an object of the module -/
def SqL (K : PySem.W.Frag) (H : Hp) (a : Addr) (xs : List V) : Prop :=
  Rd H a (.lst xs) ∨
    ∃ (o : Obj) (its : Array Value) (n : Nat), K.lookup a = some o ∧ o.cls = .type "list" ∧ o.dict = none ∧ o.data = .seq its n ∧ its.size ≤ sizeLine ∧ Vals xs its.toList
def SqT (K : PySem.W.Frag) (H : Hp) (a : Addr) (xs : List V) : Prop :=
  Rd H a (.tup xs) ∨
    ∃ (o : Obj) (its : Array Value) (n : Nat), K.lookup a = some o ∧ o.cls = .type "tuple" ∧ o.data = .seq its n ∧ its.size ≤ sizeLine ∧ Vals xs its.toList
def absV : Value → Option V
  | .none => some .non
  | .bool b => some (.bl b)
  | .int i _ => some (.int i)
  | .str x _ => some (.str x)
  | .bytes b _ => some (.byt b)
  | .float b _ => some (.flt b)
  | .ref a => some (.ref a)
  | .type n => some (.ty n)
  | _ => none
theorem RelV.abs {x : V} {u : Value} (r : RelV x u) : absV u = some x := by
  cases x with
  | non => cases r; rfl
  | bl _ => cases r; rfl
  | int _ => obtain ⟨t, rfl⟩ := r; rfl
  | str _ => obtain ⟨t, rfl⟩ := r; rfl
  | byt _ => obtain ⟨t, rfl⟩ := r; rfl
  | flt _ => obtain ⟨t, rfl⟩ := r; rfl
  | ref _ => cases r; rfl
  | ty _ => cases r; rfl
theorem RelV.inj {x y : V} {u : Value} (r : RelV x u) (q : RelV y u) : x = y := Option.some.inj (r.abs.symm.trans q.abs)
theorem Vals.inj : ∀ {xs ys : List V} {us : List Value}, Vals xs us → Vals ys us → xs = ys
  | _, _, _, .nil, .nil => rfl
  | _, _, _, .cons r t, .cons r' t' => by rw [r.inj r', Vals.inj t t']
section
variable {X : Cx} {pins : List (Addr × Obj)} {σ : St} {H : Hp} {s : Shared} {a : Addr} {xs ys : List V}
theorem SqL.of {K : PySem.W.Frag} (h : H a = some (.lst xs)) : SqL K H a xs := .inl (.inl h)
theorem SqT.of {K : PySem.W.Frag} (h : H a = some (.tup xs)) : SqT K H a xs := .inl (.inl h)
theorem Inv.list (I : Inv X pins σ H s) (h : SqL X.K H a xs) : ∃ its : List Value, Vals xs its ∧ PlainL s.heap a its.toArray ∧ xs.length ≤ sizeLine := by
  rcases h with h | ⟨o, its, n, hk, hc, hd, hs, hz, r⟩
  · obtain ⟨z, its, n, r, e⟩ := h.ok I.hok
    exact ⟨its, r, ⟨_, n, e, rfl, rfl, rfl⟩, z⟩
  · refine ⟨its.toList, r, ⟨o, n, I.kIn a o hk, hc, hd, by simpa using hs⟩, ?_⟩
    have e := r.length
    simp only [Array.length_toList] at e
    omega
theorem Inv.tuple (I : Inv X pins σ H s) (h : SqT X.K H a xs) : ∃ its : List Value, Vals xs its ∧ IsTup s.heap a its.toArray ∧ xs.length ≤ sizeLine := by
  rcases h with h | ⟨o, its, n, hk, hc, hs, hz, r⟩
  · obtain ⟨z, its, r, p⟩ := h.ok I.hok
    exact ⟨its, r, p, z⟩
  · refine ⟨its.toList, r, ⟨o, I.kIn a o hk, hc, n, by simpa using hs⟩, ?_⟩
    have e := r.length
    simp only [Array.length_toList] at e
    omega
theorem Inv.list_inj (I : Inv X pins σ H s) (h : SqL X.K H a xs) (h' : SqL X.K H a ys) : xs = ys := by
  obtain ⟨its, r, ⟨o, n, e, _, _, d⟩, _⟩ := I.list h
  obtain ⟨its', r', ⟨o', n', e', _, _, d'⟩, _⟩ := I.list h'
  rw [e] at e'; cases e'
  rw [d] at d'
  injection d' with d1 _
  have : its = its' := by simpa using congrArg Array.toList d1
  subst this
  exact r.inj r'
theorem Inv.tuple_inj (I : Inv X pins σ H s) (h : SqT X.K H a xs) (h' : SqT X.K H a ys) : xs = ys := by
  obtain ⟨its, r, ⟨o, e, _, n, d⟩, _⟩ := I.tuple h
  obtain ⟨its', r', ⟨o', e', _, n', d'⟩, _⟩ := I.tuple h'
  rw [e] at e'; cases e'
  rw [d] at d'
  injection d' with d1 _
  have : its = its' := by simpa using congrArg Array.toList d1
  subst this
  exact r.inj r'
end

/-! ### another wish about exceptions -/
abbrev Cx.wish (X : Cx) (E : Value → Shared → Prop) : Cx := { X with xe := E }
/-- no exception leaves -/
abbrev Cx.nox (X : Cx) : Cx := X.wish fun _ _ => False
theorem Cx.Ok.wish {X : Cx} (ok : X.Ok) (E : Value → Shared → Prop) : (X.wish E).Ok :=
  ⟨ok.mod, ok.kind, ok.glob, ok.blt, ok.above, ok.inj, ok.has, ok.cab, ok.hd, ok.frames, ok.stk, ok.exf, ok.bs, ok.bsz, ok.noex, ok.exfs, ok.funs, ok.frf, ok.hs⟩
theorem Cx.Ok.unwish {X : Cx} {E : Value → Shared → Prop} (ok : (X.wish E).Ok) : X.Ok :=
  ⟨ok.mod, ok.kind, ok.glob, ok.blt, ok.above, ok.inj, ok.has, ok.cab, ok.hd, ok.frames, ok.stk, ok.exf, ok.bs, ok.bsz, ok.noex, ok.exfs, ok.funs, ok.frf, ok.hs⟩
section
variable {X : Cx} {pins : List (Addr × Obj)} {σ : St} {H : Hp} {s : Shared} {E : Value → Shared → Prop}
theorem Inv.wish (I : Inv X pins σ H s) (E : Value → Shared → Prop) : Inv (X.wish E) pins σ H s := ⟨I.ok.wish E, I.os, I.bare, I.base, I.loc, I.cell, I.free, I.freeC, I.pin, I.hok, I.len⟩
theorem Inv.unwish (I : Inv (X.wish E) pins σ H s) : Inv X pins σ H s := ⟨I.ok.unwish, I.os, I.bare, I.base, I.loc, I.cell, I.free, I.freeC, I.pin, I.hok, I.len⟩
theorem SP.unwish {D : Ends} {f : Flow} {s' : Shared} (h : SP (X.wish E) pins D f s') : SP X pins D f s' := by
  cases f with
  | next => obtain ⟨σ', H', I, q⟩ := h; exact ⟨σ', H', I.unwish, q⟩
  | brk => obtain ⟨σ', H', I, q⟩ := h; exact ⟨σ', H', I.unwish, q⟩
  | cont => obtain ⟨σ', H', I, q⟩ := h; exact ⟨σ', H', I.unwish, q⟩
  | ret u => obtain ⟨v, σ', H', I, r, q⟩ := h; exact ⟨v, σ', H', I.unwish, r, q⟩
theorem PSs.nox {st : List Stmt} {t : TS} (h : PSs X.nox st t) : PSs X st t := fun pins s σ H D I hw =>
  wpAny_mono (h pins s σ H D (I.wish _) hw) (fun _ _ q => q.unwish) fun _ _ z => False.elim z
end

/-! ### blocks and small statements -/
section
variable {X : Cx} {st : Stmt} {rest : List Stmt} {t u : TS} {e : Expr} {te : TE} {pos : Pos}
def tNext : TS := fun D σ H => D.nx σ H
def tSeq (t u : TS) : TS := fun D σ H => t { D with nx := u D } σ H
theorem pss_nil : PSs X [] tNext := fun _ _ σ H _ I h => wpAny_execs_nil ⟨σ, H, I, h⟩
theorem pss_cons (h1 : PS X st t) (h2 : PSs X rest u) : PSs X (st :: rest) (tSeq t u) := by
  intro pins s σ H D I h
  refine wpAny_execs_cons (thn (h1 pins s σ H { D with nx := u D } I h) fun f s1 q => ?_)
  cases f with
  | next =>
    obtain ⟨σ', H', I', q⟩ := q
    exact h2 pins s1 σ' H' D I' q
  | ret v => exact q
  | brk => exact q
  | cont => exact q
theorem pss_one (h1 : PS X st t) : PSs X [st] t := by
  intro pins s σ H D I h
  refine wpAny_execs_cons (thn (h1 pins s σ H D I h) fun f s1 q => ?_)
  cases f with
  | next => exact wpAny_execs_nil q
  | ret v => exact q
  | brk => exact q
  | cont => exact q
def tBreak : TS := fun D σ H => D.bk σ H
def tCont : TS := fun D σ H => D.ct σ H
theorem ps_break : PS X (.Break pos) tBreak := fun _ _ σ H _ I h => wpAny_Break ⟨σ, H, I, h⟩
/-- in a def's body nothing is shown -/
theorem Inv.quiet {pins : List (Addr × Obj)} {σ : St} {H : Hp} {s : Shared} (I : Inv X pins σ H s) : interactive X.env = false := by simp [interactive, I.ok.kind]
/-- an expression whose value is dropped -/
def tDrop (te : TE) : TS := fun D σ H => te σ H fun _ H1 => D.nx σ H1
theorem ps_expr (he : PE X e te) (hs : swapsWith e none pos.line X.env = pure false := by rfl) : PS X (.Expr e pos) (tDrop te) := by
  intro pins s σ H D I h
  exact wpAny_Expr_any (thn (he pins s σ H _ I h) fun v s1 ⟨x, H1, I1, r1, q1⟩ => ⟨σ, H1, I1, q1⟩) I.quiet hs
def tRet (te : TE) : TS := fun D σ H => te σ H D.rt
theorem ps_ret (he : PE X e te) : PS X (.Return (some e) pos) (tRet te) := by
  intro pins s σ H D I h
  exact wpAny_Return_some (thn (he pins s σ H _ I h) fun v s1 ⟨x, H1, I1, r1, q1⟩ => ⟨x, σ, H1, I1, r1, q1⟩)
def tRetN : TS := fun D _ H => D.rt .non H
theorem ps_retN : PS X (.Return none pos) tRetN := fun _ _ σ H _ I h => wpAny_Return_none ⟨.non, σ, H, I, rfl, h⟩
def tIfS (c : TT) (t u : TS) : TS := fun D σ H => c σ H fun b H1 => if b = true then t D σ H1 else u D σ H1
theorem ps_if {c : Expr} {a b : List Stmt} {tc : TT} (hc : PT X c tc) (ha : PSs X a t) (hb : PSs X b u) : PS X (.If c a b pos) (tIfS tc t u) := by
  intro pins s σ H D I h
  refine wpAny_If (thn (hc pins s σ H _ I h) fun d s1 ⟨H1, I1, q1⟩ => ?_)
  cases d with
  | true => exact ha pins s1 σ H1 D I1 q1
  | false => exact hb pins s1 σ H1 D I1 q1
/-- code that the proof never comes to -/
def tNever : TS := fun _ _ _ => False
theorem pss_never {sts : List Stmt} : PSs X sts tNever := fun _ _ _ _ _ _ h => h.elim
end

/-! ### targets -/
abbrev TG := V → St → Hp → (St → Hp → Prop) → Prop
abbrev TGs := List V → St → Hp → (St → Hp → Prop) → Prop
def PG (X : Cx) (target : Expr) (t : TG) : Prop :=
  ∀ (pins : List (Addr × Obj)) (s : Shared) (σ : St) (H : Hp) (v : V) (u : Value) (Q : St → Hp → Prop), Inv X pins σ H s → RelV v u → t v σ H Q →
    wpAny (model X.prog X.w) X.A (assign target X.env u) (fun _ s' => ∃ σ' H', Inv X pins σ' H' s' ∧ Q σ' H') X.xe s
/-- several targets, one after another -/
def PGs (X : Cx) (ts : List Expr) (t : TGs) : Prop :=
  ∀ (pins : List (Addr × Obj)) (s : Shared) (σ : St) (H : Hp) (vs : List V) (us : List Value) (Q : St → Hp → Prop), Inv X pins σ H s → Vals vs us → t vs σ H Q →
    wpAny (model X.prog X.w) X.A (assignInOrder ((assignEach ts X.env).map (·.2)) us) (fun _ s' => ∃ σ' H', Inv X pins σ' H' s' ∧ Q σ' H') X.xe s
/-- o[i] = v, by values -/
abbrev TSet := V → V → V → Hp → (Hp → Prop) → Prop
def PSet (X : Cx) (t : TSet) : Prop :=
  ∀ (pins : List (Addr × Obj)) (s : Shared) (σ : St) (H : Hp) (o i v : V) (ov iv u : Value) (Q : Hp → Prop), Inv X pins σ H s → RelV o ov → RelV i iv → RelV v u → t o i v H Q →
    wpAny (model X.prog X.w) X.A (setItem ov iv u) (fun _ s' => ∃ H', Inv X pins σ H' s' ∧ Q H') X.xe s
/-- a op= b, by values -/
abbrev TIp := V → V → Hp → VK → Prop
def PIp (X : Cx) (op : Operator) (t : TIp) : Prop :=
  ∀ (pins : List (Addr × Obj)) (s : Shared) (σ : St) (H : Hp) (x y : V) (v u : Value) (Q : VK), Inv X pins σ H s → RelV x v → RelV y u → t x y H Q →
    wpAny (model X.prog X.w) X.A (inplaceOp op v u) (EP X pins σ Q) X.xe s
section
variable {X : Cx} {pos : Pos}
def gName (i : Nat) : TG := fun v σ H Q => Q (σ.set i (some v)) H
theorem pg_name {i : Nat} {x : Str} (hN : X.N.Nodup) (hi : X.N[i]? = some x) (hx : Loc X.env.scope x) (hf : X.fn x = true ∨ X.env.scope.names.lookup x = some .local := by first | exact .inl rfl | exact .inr rfl | assumption) : PG X (.Name x pos) (gName i) := by
  intro pins s σ H v u Q I r h
  exact wpAny_assign_Name (store_ok I hN hi hx r (fun s' I' => ⟨_, H, I', h⟩) hf)
def gNil : TGs := fun vs σ H Q => vs = [] ∧ Q σ H
def gCons (t : TG) (u : TGs) : TGs := fun vs σ H Q => ∃ v r, vs = v :: r ∧ t v σ H fun σ' H' => u r σ' H' Q
theorem pgs_nil : PGs X [] gNil := by
  intro pins s σ H vs us Q I r h
  obtain ⟨e, h⟩ := h
  subst e
  cases r
  exact assignInOrder_nil ⟨σ, H, I, h⟩
theorem pgs_cons {e : Expr} {es : List Expr} {t : TG} {u : TGs} (h1 : PG X e t) (h2 : PGs X es u)
    (hs : (assignEach (e :: es) X.env).map (·.2) = assign e X.env :: (assignEach es X.env).map (·.2) := by rfl) : PGs X (e :: es) (gCons t u) := by
  intro pins s σ H vs us Q I r h
  obtain ⟨v, vr, e1, h⟩ := h
  subst e1
  cases r with
  | cons r rr =>
    rw [hs]
    refine assignInOrder_cons (thn (h1 pins s σ H _ _ _ I r h) fun _ s1 ⟨σ1, H1, I1, q1⟩ => ?_)
    exact h2 pins s1 σ1 H1 _ _ Q I1 rr q1
/-- (a, b, ..) = a tuple of that length -/
def gTup (K : PySem.W.Frag) (n : Nat) (t : TGs) : TG := fun v σ H Q => ∃ a xs, v = .ref a ∧ SqT K H a xs ∧ xs.length = n ∧ t xs σ H Q
theorem pg_tup {es : List Expr} {k : Nat} {t : TGs} {n : Nat} (hc : X.calm = true) (h : PGs X es t)
    (hn : (assignEach es X.env).length = n := by rfl) (hst : (assignEach es X.env).findIdx? (·.1) = none := by rfl) : PG X (.Tuple es k pos) (gTup X.K n t) := by
  intro pins s σ H v u Q I r hw
  obtain ⟨a, xs, e1, hq, hl, hw⟩ := hw
  subst e1
  cases r
  obtain ⟨its, rv, ht, hz⟩ := I.tuple hq
  refine assign_Tuple_tuple (I.ok.hd hc) ht (by simp [hn, ← hl, rv.length]) hst fun h' hx => ?_
  have I1 : Inv X pins σ H { s with heap := h' } := I.kept (t' := s.toks) fun b o e => hx b o (Nat.ne_of_lt (Heap.lt_size e)) e
  exact h pins _ σ H xs _ Q I1 (by simpa using rv) hw
/-- o[i] = .. -/
def gSub (to ti : TE) (t : TSet) : TG := fun v σ H Q => to σ H fun o H1 => ti σ H1 fun i H2 => t o i v H2 fun H3 => Q σ H3
/-- target = value -/
def tAsg (te : TE) (g : TG) : TS := fun D σ H => te σ H fun x H1 => g x σ H1 D.nx
theorem ps_asg {tg e : Expr} {te : TE} {g : TG} (he : PE X e te) (hg : PG X tg g) (hs : swapsWithSole [tg] e pos.line X.env = pure false := by rfl) (hw : swappedStores [tg] e X.env = pure none := by rfl)
    (h1 : (assignEach [tg] X.env).map (·.2) = [assign tg X.env] := by rfl) : PS X (.Assign [tg] e pos) (tAsg te g) := by
  intro pins s σ H D I h
  refine wpAny_Assign_stores (thn (he pins s σ H _ I h) fun v s1 ⟨x, H1, I1, r1, q1⟩ => ?_) hs hw
  rw [h1]
  exact thn (hg pins s1 σ H1 x v _ I1 r1 q1) fun _ s2 q => q
/-- name = value -/
theorem ps_set {i : Nat} {x : Str} {e : Expr} {te : TE} {pos' : Pos} (hN : X.N.Nodup) (hi : X.N[i]? = some x) (hx : Loc X.env.scope x) (he : PE X e te) (hs : swapsWith e (some (.Name x pos')) pos.line X.env = pure false := by rfl) (hf : X.fn x = true ∨ X.env.scope.names.lookup x = some .local := by first | exact .inl rfl | exact .inr rfl | assumption) :
    PS X (.Assign [.Name x pos'] e pos) (tAsg te (gName i)) := by
  intro pins s σ H D I h
  refine wpAny_Assign_Name (thn (he pins s σ H _ I h) fun v s1 ⟨y, H1, I1, r1, q1⟩ => ?_) hs
  exact store_ok I1 hN hi hx r1 (fun s2 I2 => ⟨_, H1, I2, q1⟩) hf
/-- a, b = x, y with plain local names: stored from the right; the pair itself is not tracked (the opening rows as in PyProof/Rows/TupAssign.lean:23) -/
def tPar (i j : Nat) (ta : TA) : TS := fun D σ H => ta σ H fun vs H1 => ∃ v w, vs = [v, w] ∧ D.nx ((σ.set i (some v)).set j (some w)) H1
/-- name op= e -/
def tAug (i : Nat) (te : TE) (ti : TIp) : TS := fun D σ H => ∃ x, σ[i]? = some (some x) ∧ te σ H fun y H1 => ti x y H1 fun z H2 => D.nx (σ.set i (some z)) H2
/-- o[i] op= e -/
def tAugS (to ti te : TE) (tget : V → V → Hp → VK → Prop) (tip : TIp) (tset : TSet) : TS := fun D σ H => to σ H fun o H1 => ti σ H1 fun i H2 => tget o i H2 fun x H3 => te σ H3 fun y H4 => tip x y H4 fun z H5 => tset o i z H5 fun H6 => D.nx σ H6
/-- o[i], by values -/
def PGet (X : Cx) (t : V → V → Hp → VK → Prop) : Prop :=
  ∀ (pins : List (Addr × Obj)) (s : Shared) (σ : St) (H : Hp) (o i : V) (ov iv : Value) (Q : VK), Inv X pins σ H s → RelV o ov → RelV i iv → t o i H Q →
    wpAny (model X.prog X.w) X.A (getItem ov iv) (EP X pins σ Q) X.xe s
/-- ints -/
def ipI (f : Int → Int → Int) : TIp := fun x y H Q => ∃ i j, x = .int i ∧ y = .int j ∧ Q (.int (f i j)) H
end

/-! ### while -/
section
variable {X : Cx} {pos : Pos}
/-- the invariant W with its measure -/
def tWhile (c : TT) (tb : TS) : TS := fun D σ H => ∃ W : Nat → St → Hp → Prop, (∃ m, W m σ H) ∧ ∀ m σ H, W m σ H →
  c σ H fun b H1 => if b = true then ∃ N : St → Hp → Prop, (∀ σ' H', N σ' H' → ∃ m', m' < m ∧ W m' σ' H') ∧ tb { D with nx := N, ct := N, bk := D.nx } σ H1 else D.nx σ H1
theorem ps_while {c : Expr} {body : List Stmt} {tc : TT} {tb : TS} (hp : PassesOwn (model X.prog X.w) X.A X.env X.xe) (hc : PT X c tc) (hb : PSs X body tb) : PS X (.While c body [] pos) (tWhile tc tb) := by
  intro pins s σ H D I h
  obtain ⟨W, ⟨m0, w0⟩, turn⟩ := h
  refine wpAny_While (codeAny_whileLoop (fun n s' => ∃ σ' H', Inv X pins σ' H' s' ∧ W n σ' H') ?_ m0 ⟨σ, H, I, w0⟩)
  rintro n s1 ⟨σ1, H1, I1, w1⟩
  refine wpAny_passesOwn hp (thn (hc pins s1 σ1 H1 _ I1 (turn n σ1 H1 w1)) fun b s2 ⟨H2, I2, q2⟩ => ?_)
  cases b with
  | true =>
    obtain ⟨N, hN, q2⟩ := q2
    rw [if_pos rfl]
    refine wpAny_passesOwn hp (thn (hb pins s2 σ1 H2 _ I2 q2) fun f s3 q3 => ?_)
    cases f with
    | next =>
      obtain ⟨σ3, H3, I3, n3⟩ := q3
      obtain ⟨m', hm, w3⟩ := hN σ3 H3 n3
      exact ⟨m', hm, σ3, H3, I3, w3⟩
    | cont =>
      obtain ⟨σ3, H3, I3, n3⟩ := q3
      obtain ⟨m', hm, w3⟩ := hN σ3 H3 n3
      exact ⟨m', hm, σ3, H3, I3, w3⟩
    | brk => exact q3
    | ret v => exact q3
  | false =>
    rw [if_neg Bool.false_ne_true]
    exact wpAny_execs_nil ⟨σ1, H2, I2, q2⟩
end

/-! ### what a loop or a comprehension walks -/
/-- at turn i: it yields x (the heap may grow), or it stops -/
structure It where
  go : Nat → Hp → Prop
  yld : Nat → Hp → V → Hp → Prop
  stop : Nat → Hp → Prop
  sok : Bool
/-- the iterator's own objects may turn: they are not the frame's, not pinned, younger than the entry (or a comprehension's own) -/
def FpOk (X : Cx) (pins : List (Addr × Obj)) (H : Hp) (b : Addr) : Prop :=
  H b = none ∧ b ≠ X.env.locals ∧ b ∉ X.fs ∧ (b ∈ X.ex ∨ X.s₀.heap.objs.size ≤ b) ∧ (∀ x c, X.env.cells.lookup x = some c → c ≠ b) ∧ ∀ p ∈ X.pn ++ pins, p.1 ≠ b
theorem Inv.fpOk {X : Cx} {pins : List (Addr × Obj)} {σ : St} {H H' : Hp} {s : Shared} {b : Addr} (I : Inv X pins σ H s) (hb : s.heap.objs.size ≤ b) (hn : H' b = none) : FpOk X pins H' b := by
  refine ⟨hn, Nat.ne_of_gt (Nat.lt_of_lt_of_le I.lt hb), I.nofs hb, .inr (Nat.le_trans I.sz hb), fun x c e z => ?_, fun p hp z => ?_⟩
  · obtain ⟨v, q⟩ := I.cell x c e
    exact absurd (Nat.lt_of_lt_of_le q.lt (by rw [z]; exact hb)) (Nat.lt_irrefl _)
  · exact absurd (Nat.lt_of_lt_of_le (Heap.lt_size (I.pin p hp).1) (by rw [z]; exact hb)) (Nat.lt_irrefl _)
structure Turn (P : Program) (w : World) (K : PySem.W.Frag) (tg : Expr) (J : It) (fp : List Addr) (it : Addr) (tn : Nat → Heap → Prop) : Prop where
  mem : it ∈ fp
  obj : ∀ i h, tn i h → ∀ b ∈ fp, ∃ o, h.get? b = some o ∧ ∀ v, o.data ≠ .cell v
  keep : ∀ i h h', tn i h → (∀ b ∈ fp, ∀ o, h.get? b = some o → h'.get? b = some o) → tn i h'
  item : ∀ (X : Cx), X.prog = P → X.w = w → X.K = K → (X.calm = true ∨ J.sok = true ∧ X.suit = true) → ∀ (i : Nat) (pins : List (Addr × Obj)) (s : Shared) (σ : St) (H : Hp) (E : Value → Shared → Prop), Inv X pins σ H s → (∀ b ∈ fp, FpOk X pins H b) → tn i s.heap → J.go i H →
    wpAny (model P w) X.A (pyNext (.ref it)) (fun r s1 => ∃ u, r = some u ∧
      wpAny (model P w) X.A (letOwnedTupleGo tg (.ref it) u) (fun _ s2 => ∃ x H', Inv X pins σ H' s2 ∧ RelV x u ∧ J.yld i H x H' ∧ tn (i + 1) s2.heap ∧ ∀ b ∈ fp, H' b = none) E s1) E s
  done : ∀ (X : Cx), X.prog = P → X.w = w → X.K = K → (X.calm = true ∨ J.sok = true ∧ X.suit = true) → ∀ (i : Nat) (pins : List (Addr × Obj)) (s : Shared) (σ : St) (H : Hp) (E : Value → Shared → Prop), Inv X pins σ H s → (∀ b ∈ fp, FpOk X pins H b) → tn i s.heap → J.stop i H →
    wpAny (model P w) X.A (pyNext (.ref it)) (fun r s1 => r = none ∧ Inv X pins σ H s1) E s
  self : ∀ (A : Around) (i : Nat) (s : Shared) (Q : Value → Shared → Prop) (E : Value → Shared → Prop), tn i s.heap → Q (.ref it) s → wpAny (model P w) A (pyIter (.ref it)) Q E s
abbrev TI := St → Hp → (It → Hp → Prop) → Prop
/-- an iterator has come -/
def PIE (X : Cx) (pins : List (Addr × Obj)) (σ : St) (tg : Expr) (R : It → Hp → Prop) (itv : Value) (s2 : Shared) : Prop :=
  ∃ (it : Addr) (fp : List Addr) (tn : Nat → Heap → Prop) (J : It) (H' : Hp), itv = .ref it ∧ Inv X pins σ H' s2 ∧ Turn X.prog X.w X.K tg J fp it tn ∧ tn 0 s2.heap ∧ (∀ b ∈ fp, FpOk X pins H' b) ∧ R J H'
def PI (X : Cx) (tg iter : Expr) (wi : TI) : Prop :=
  ∀ (pins : List (Addr × Obj)) (s : Shared) (σ : St) (H : Hp) (R : It → Hp → Prop), Inv X pins σ H s → wi σ H R →
    wpAny (model X.prog X.w) X.A (eval iter X.env) (fun v s1 => wpAny (model X.prog X.w) X.A (pyIter v) (PIE X pins σ tg R) X.xe s1) X.xe s

/-- the step ahead of the store is nothing for an iterator that keeps no tuple -/
theorem go_of {M : Model} {A : Around} {E : Value → Shared → Prop} {s : Shared} {tg : Expr} {it : Addr} {u : Value} {o : Obj} {n : String} {vs : Array Value} {Q : Unit → Shared → Prop} (ho : s.heap.get? it = some o) (hc : o.cls = .type n) (hd : o.data = .fields vs)
    (hn : ["enumerate", "zip", "dict_itemiterator", "dict_reverseitemiterator", "odict_iterator", "itertools.zip_longest", "itertools.pairwise"].contains n = false) (hQ : Q () s) : wpAny M A (letOwnedTupleGo tg (.ref it) u) Q E s := by
  unfold letOwnedTupleGo
  cases tg <;> first
    | exact wpAny_pure hQ
    | (cases u <;> first
        | exact wpAny_pure hQ
        | (refine wpAny_bind (wpAny_load ho ?_)
           rw [hc, hd]
           show wpAny M A (if (["enumerate", "zip", "dict_itemiterator", "dict_reverseitemiterator", "odict_iterator", "itertools.zip_longest", "itertools.pairwise"].contains n && vs[0]? == some (rawInt _)) = true then _ else _) Q E s
           rw [if_neg (by intro h; rw [hn, Bool.false_and] at h; cases h)]
           exact wpAny_pure hQ))

/-! ### the end of a walk where an exception is handled around -/
section
variable {prog : Program} {w : World} {A : Around} {E : Value → Shared → Prop} {s : Shared}
theorem entry_unchain : entryFor table "proto.unchain" = some Builtin.«proto.unchain» := entryFor_of_tree (by kernel_rfl)
theorem raiseNew_S {α : Type} {e x : Addr} {ox oe : Obj} {xs es : Array Value} {Q : α → Shared → Prop} (hA : A.handled = some (.ref x)) (hx : s.heap.get? x = some ox) (dx : ox.data = .fields xs) (x2 : xs[2]? = some .none) (ne : x ≠ e) (he : s.heap.get? e = some oe) (de : oe.data = .fields es) (z : 2 < es.size)
    (k : E (.ref e) { s with heap := s.heap.update e (Obj.mapFields (·.setIfInBounds 2 (.ref x))) }) : wpAny (model prog w) A (raiseNew (.ref e) : Sem α) Q E s := by
  unfold raiseNew
  refine wpAny_bind (wpAny_handled ?_)
  rw [hA]
  dsimp only
  rw [if_pos (show (Value.ref x != Value.ref e) = true from by simp [ne])]
  refine wpAny_bind (wpAny_holding (wpAny_runValue (codeAny_builtin entry_unchain ?_)))
  unfold Builtin.«proto.unchain»
  dsimp only
  refine wpAny_bind (wpAny_field hx dx x2 ?_)
  rw [if_pos (by decide)]
  refine wpAny_pure ?_
  show wpAny _ _ (setField (.ref e) 2 (.ref x) >>= fun _ => throw (Value.ref e)) _ _ _
  exact wpAny_bind (wpAny_setField he de z (wpAny_throw k))
/-- StopIteration is made and raised: the iterator it was changed ahead of it -/
theorem stop_S {β : Type} {x it : Addr} {ox : Obj} {xs : Array Value} {h0 : Heap} {Q : Option Value → Shared → Prop} {R : β → Shared → Prop} (hA : A.handled = some (.ref x)) (hx : s.heap.get? x = some ox) (dx : ox.data = .fields xs) (x2 : xs[2]? = some .none)
    (kp : ∀ b o, b ≠ it → s.heap.get? b = some o → h0.get? b = some o) (ne : x ≠ it) (k : ∀ h', Heap.ExtBut it s.heap h' → Q none { s with heap := h' }) :
    wpAny (model prog w) A.in1 (newExc (.type "StopIteration") [] >>= fun e => (raiseNew e : Sem β)) R (fun e s' => wpAny (model prog w) A (do if ← isInstance e (.type "StopIteration") then pure none else throw e) Q E s') { s with heap := h0 } := by
  refine wpAny_bind ?_
  simp only [newExc, newTuple]
  refine wpAny_bind (wpAny_newObj_type ?_ (by size_fits))
  refine wpAny_bind (m := firstArgMember _ _) (wpAny_of_eq (a := Value.none) (by simp only [firstArgMember]; rfl) ?_)
  refine wpAny_newObj_type ?_ (by size_fits)
  dsimp only
  have hz : (h0.push { cls := .type "tuple", data := .seq ([] : List Value).toArray }).objs.size ≠ x := Nat.ne_of_gt (Heap.lt_size (Heap.get?_push_of_some _ (kp x ox ne hx)))
  refine raiseNew_S (x := x) hA (Heap.get?_push_of_some _ (Heap.get?_push_of_some _ (kp x ox ne hx))) dx x2 (Ne.symm hz) (Heap.get?_push_size _ rfl) rfl (by show 2 < 6; decide) ?_
  refine wpAny_bind (wpAny_isInstance (T := "StopIteration") (b := true) ⟨_, Heap.get?_update_self _ (Heap.get?_push_size _ rfl) rfl, rfl⟩ isSubtype_stop ?_)
  refine wpAny_pure (k _ fun b o hb q => ?_)
  have q2 := Heap.get?_push_of_some { cls := .type "tuple", data := .seq ([] : List Value).toArray } (kp b o hb q)
  dsimp only
  rw [Heap.get?_update_other _ _ (Nat.ne_of_gt (Heap.lt_size q2))]
  exact Heap.get?_push_of_some _ q2
theorem next_list_endS {x it l : Addr} {i : Nat} {items : Array Value} {ox : Obj} {xs : Array Value} {Q : Option Value → Shared → Prop} (hA : A.handled = some (.ref x)) (hx : s.heap.get? x = some ox) (dx : ox.data = .fields xs) (x2 : xs[2]? = some .none)
    (hit : s.heap.IsListIter it l i) (hl : s.heap.IsList l items) (hi : items[i]? = none) (ne : x ≠ it) (k : ∀ h', Heap.ExtBut it s.heap h' → Q none { s with heap := h' }) : wpAny (model prog w) A (pyNext (.ref it)) Q E s := by
  obtain ⟨oi, ei, _, di⟩ := id hit
  obtain ⟨ol, el, _, nl, dl⟩ := hl
  unfold pyNext
  refine wpAny_bind (wpAny_attempt (wpAny_callSpecial?_slot (name := "__next__") hit.typeIs slot_listiter_next (wpAny_call_entry slot_listiter_next hit.typeIs entry_listiter_next ?_ (args_listiter_next _))))
  refine wpAny_bind (m := field (.ref it) 0) (wpAny_field ei di (x := .ref l) rfl ?_)
  rw [if_neg (by intro z; cases z)]
  refine wpAny_bind (m := field (.ref it) 1) (wpAny_field ei di (x := .int i 0) rfl ?_)
  refine wpAny_bind (m := seqItems? (.ref l)) (wpAny_seqItems el dl ?_)
  simp only [Int.toNat_natCast, hi]
  refine wpAny_bind (wpAny_rule (wpAny_bind (wpAny_setField ei di (by simp) ?_)))
  exact stop_S hA hx dx x2 (fun b o hb q => (Heap.get?_update_other _ _ (Ne.symm hb)).trans q) ne k
theorem next_tup_endS {x it t : Addr} {i : Nat} {items : Array Value} {ox : Obj} {xs : Array Value} {Q : Option Value → Shared → Prop} (hA : A.handled = some (.ref x)) (hx : s.heap.get? x = some ox) (dx : ox.data = .fields xs) (x2 : xs[2]? = some .none)
    (hit : IsTupIter s.heap it t i) (ht : IsTup s.heap t items) (hi : items[i]? = none) (ne : x ≠ it) (k : ∀ h', Heap.ExtBut it s.heap h' → Q none { s with heap := h' }) : wpAny (model prog w) A (pyNext (.ref it)) Q E s := by
  obtain ⟨oi, ei, _, di⟩ := id hit
  obtain ⟨ol, el, _, nl, dl⟩ := ht
  unfold pyNext
  refine wpAny_bind (wpAny_attempt (wpAny_callSpecial?_slot (name := "__next__") hit.typeIs slot_tupleiter_next (wpAny_call_entry slot_tupleiter_next hit.typeIs entry_tupleiter_next ?_ (args_tupleiter_next _))))
  refine wpAny_bind (m := field (.ref it) 0) (wpAny_field ei di (x := .ref t) rfl ?_)
  rw [if_neg (by intro z; cases z)]
  refine wpAny_bind (m := field (.ref it) 1) (wpAny_field ei di (x := .int i 0) rfl ?_)
  refine wpAny_bind (m := seqItems? (.ref t)) (wpAny_seqItems el dl ?_)
  simp only [Int.toNat_natCast, hi]
  refine wpAny_bind (wpAny_rule (wpAny_bind (wpAny_setField ei di (by simp) ?_)))
  exact stop_S hA hx dx x2 (fun b o hb q => (Heap.get?_update_other _ _ (Ne.symm hb)).trans q) ne k
theorem assign_tupS {env : Env} {elts : List Expr} {x1} {pos : Pos} {x t : Addr} {items : Array Value} {ox : Obj} {xs : Array Value} {Q : Unit → Shared → Prop} (hA : A.handled = some (.ref x)) (hx : s.heap.get? x = some ox) (dx : ox.data = .fields xs) (x2 : xs[2]? = some .none)
    (ht : IsTup s.heap t items) (hn : (assignEach elts env).length = items.size) (hstar : (assignEach elts env).findIdx? (·.1) = none)
    (k : ∀ h', Heap.ExtBut s.heap.objs.size s.heap h' → wpAny (model prog w) A (assignInOrder ((assignEach elts env).map (·.2)) items.toList) Q E { s with heap := h' }) :
    wpAny (model prog w) A (assign (.Tuple elts x1 pos) env (.ref t)) Q E s := by
  have hlt : t ≠ s.heap.objs.size := by
    obtain ⟨o, e, _⟩ := ht
    exact Nat.ne_of_lt (Heap.lt_size e)
  have hltx : x ≠ s.heap.objs.size := Nat.ne_of_lt (Heap.lt_size hx)
  rw [assign_Tuple]
  refine wpAny_bind (wpAny_standAt ?_)
  unfold unpack
  rw [hn, hstar]
  refine wpAny_bind (wpAny_holding ?_)
  unfold unpackItems notIterableAtAll
  refine wpAny_bind (wpAny_bind (wpAny_specialOf ht.typeIs slot_tuple_iter.lookup (wpAny_pure ?_)))
  simp only [Bool.false_eq_true, if_false]
  refine wpAny_bind (wpAny_holding (iter_tuple ht ?_))
  refine wpAny_bind (wpAny_holding (draw_tuple hlt items.size 0 _ _ ⟨_, Heap.get?_push_size _ rfl, rfl, rfl⟩ (ht.push _) (by omega) fun h1 it1 sb1 => ?_))
  have all : List.take items.size (List.drop 0 items.toList) = items.toList := by
    rw [List.drop_zero]
    exact List.take_of_length_le (by simp)
  rw [all, if_neg (by simp)]
  have ht1 : IsTup h1 t items := (ht.push _).extBut sb1.extBut hlt
  refine wpAny_bind (wpAny_holding (next_tup_endS hA ((sb1.2 x hltx).trans (Heap.get?_push_of_some _ hx)) dx x2 it1 ht1 (by simp) hltx fun h2 eb2 => ?_))
  simp only [Option.isSome_none, Bool.false_eq_true, if_false]
  exact wpAny_pure (k h2 fun b o hb e => eb2 b o hb (sb1.extBut b o hb (Heap.get?_push_of_some _ e)))
end

/-- the list at a, as it stands at each turn (a loop may append to it) -/
def Itl (K : PySem.W.Frag) (a : Addr) : It :=
  ⟨fun i H => ∃ xs x, SqL K H a xs ∧ xs[i]? = some x, fun i H x H' => H' = H ∧ ∀ xs, SqL K H a xs → xs[i]? = some x, fun i H => ∃ xs, SqL K H a xs ∧ xs.length ≤ i, true⟩
def Itt (K : PySem.W.Frag) (a : Addr) : It :=
  ⟨fun i H => ∃ xs x, SqT K H a xs ∧ xs[i]? = some x, fun i H x H' => H' = H ∧ ∀ xs, SqT K H a xs → xs[i]? = some x, fun i H => ∃ xs, SqT K H a xs ∧ xs.length ≤ i, false⟩
/-- lo, lo + 1, .. (n of them) -/
def Itr (lo : Int) (n : Nat) : It := ⟨fun i _ => i < n, fun i H x H' => H' = H ∧ x = .int (lo + i), fun i _ => n ≤ i, false⟩
theorem turn_list {P : Program} {w : World} {K : PySem.W.Frag} {tg : Expr} (a it : Addr) : Turn P w K tg (Itl K a) [it] it (fun i h => h.IsListIter it a i) where
  mem := by simp
  obj := fun i h st b hb => by
    have e : b = it := by simpa using hb
    subst e
    obtain ⟨o, e, c, d⟩ := st
    exact ⟨o, e, fun v z => by rw [d] at z; cases z⟩
  keep := fun i h h' st k => st.at fun o e => k it (by simp) o e
  item := by
    intro X hP hw hK hc i pins s σ H E I hf st hg
    subst hP hw hK
    obtain ⟨xs, x, hq, hx⟩ := hg
    obtain ⟨its, rv, p, hz⟩ := I.list hq
    obtain ⟨u, hu, ru⟩ := rv.get hx
    obtain ⟨f0, f1, f2, f3, f4, f5⟩ := hf it (by simp)
    refine wpAny_pyNext_list_item st p.isList (x := u) (by simpa using hu) fun h' st' sb => ?_
    have I1 : Inv X pins σ H { s with heap := h' } := I.turned (t' := s.toks) (fun b o hb e => (sb.2 b hb).trans e) f0 f1 f3 f4 f5
    obtain ⟨o, e, c, d⟩ := id st'
    exact ⟨u, rfl, go_of (s := { s with heap := h' }) e c d (by decide) ⟨x, H, I1, ru, ⟨rfl, fun ys hy => by rw [I.list_inj hy hq]; exact hx⟩, st', fun b hb => (hf b hb).1⟩⟩
  done := by
    intro X hP hw hK hc i pins s σ H E I hf st hg
    subst hP hw hK
    obtain ⟨xs, hq, hx⟩ := hg
    obtain ⟨its, rv, p, hz⟩ := I.list hq
    obtain ⟨f0, f1, f2, f3, f4, f5⟩ := hf it (by simp)
    have hl := rv.length
    rcases hc with hc | ⟨_, hc⟩
    rotate_left
    · obtain ⟨e, cls, dx, a0, tb, hA, hE⟩ := I.ok.hs hc
      have hE' := I.base.frzs e _ _ hE
      obtain ⟨he, _⟩ := I.hok e _ hE'
      exact next_list_endS hA he rfl rfl st p.isList (by simp; omega) (fun z => by rw [z, f0] at hE'; cases hE') fun h' eb => ⟨rfl, I.turned (t' := s.toks) (fun b o hb e => eb b o hb e) f0 f1 f3 f4 f5⟩
    exact wpAny_pyNext_list_end (I.ok.hd hc) st p.isList (by simp; omega) fun h' eb => ⟨rfl, I.turned (t' := s.toks) (fun b o hb e => eb b o hb e) f0 f1 f3 f4 f5⟩
  self := fun _ _ _ _ _ st h => wpAny_pyIter_listiter st h
theorem turn_tuple {P : Program} {w : World} {K : PySem.W.Frag} {tg : Expr} (a it : Addr) : Turn P w K tg (Itt K a) [it] it (fun i h => h.IsTupleIter it a i) where
  mem := by simp
  obj := fun i h st b hb => by
    have e : b = it := by simpa using hb
    subst e
    obtain ⟨o, e, c, d⟩ := st
    exact ⟨o, e, fun v z => by rw [d] at z; cases z⟩
  keep := fun i h h' st k => st.at fun o e => k it (by simp) o e
  item := by
    intro X hP hw hK hc i pins s σ H E I hf st hg
    subst hP hw hK
    obtain ⟨xs, x, hq, hx⟩ := hg
    obtain ⟨its, rv, p, hz⟩ := I.tuple hq
    obtain ⟨u, hu, ru⟩ := rv.get hx
    obtain ⟨f0, f1, f2, f3, f4, f5⟩ := hf it (by simp)
    refine wpAny_pyNext_tuple_item st (show s.heap.IsTuple a its.toArray from p) (x := u) (by simpa using hu) fun h' st' sb => ?_
    have I1 : Inv X pins σ H { s with heap := h' } := I.turned (t' := s.toks) (fun b o hb e => (sb.2 b hb).trans e) f0 f1 f3 f4 f5
    obtain ⟨o, e, c, d⟩ := id st'
    exact ⟨u, rfl, go_of (s := { s with heap := h' }) e c d (by decide) ⟨x, H, I1, ru, ⟨rfl, fun ys hy => by rw [I.tuple_inj hy hq]; exact hx⟩, st', fun b hb => (hf b hb).1⟩⟩
  done := by
    intro X hP hw hK hc i pins s σ H E I hf st hg
    subst hP hw hK
    obtain ⟨xs, hq, hx⟩ := hg
    obtain ⟨its, rv, p, hz⟩ := I.tuple hq
    obtain ⟨f0, f1, f2, f3, f4, f5⟩ := hf it (by simp)
    have hl := rv.length
    have hc := hc.resolve_right fun z => Bool.noConfusion (show false = true from z.1)
    exact wpAny_pyNext_tuple_end (I.ok.hd hc) st (show s.heap.IsTuple a its.toArray from p) (by simp; omega) fun h' eb => ⟨rfl, I.turned (t' := s.toks) (fun b o hb e => eb b o hb e) f0 f1 f3 f4 f5⟩
  self := fun _ _ _ _ _ st h => wpAny_pyIter_tupleiter st h
theorem turn_range {P : Program} {w : World} {K : PySem.W.Frag} {tg : Expr} (it : Addr) (lo : Int) (n : Nat) : Turn P w K tg (Itr lo n) [it] it (fun i h => IsRangeIter h it (lo + (i : Nat) * 1) ((n : Int) - (i : Nat)) 1) where
  mem := by simp
  obj := fun i h st b hb => by
    have e : b = it := by simpa using hb
    subst e
    exact ⟨_, st, fun v z => by
      have z' : Data.fields _ = Data.cell v := z
      cases z'⟩
  keep := fun i h h' st k => k it (by simp) _ st
  item := by
    intro X hP hw hK hc i pins s σ H E I hf st hg
    subst hP hw hK
    obtain ⟨f0, f1, f2, f3, f4, f5⟩ := hf it (by simp)
    have hc := hc.resolve_right fun z => Bool.noConfusion (show false = true from z.1)
    have W := Walks.range (prog := X.prog) (w := X.w) (I.ok.hd hc) it lo 1 n
    refine W.item i s _ _ hg st fun v h' tk hv st' kk => ?_
    obtain ⟨t, rfl⟩ := hv
    have I1 : Inv X pins σ H { s with heap := h', toks := tk } := I.turned (fun b o hb e => kk b o (by simpa using hb) e) f0 f1 f3 f4 f5
    refine ⟨_, rfl, go_of (s := { s with heap := h', toks := tk }) (n := "range_iterator") st' rfl rfl (by decide) ⟨.int (lo + i), H, I1, ⟨t, ?_⟩, ⟨rfl, rfl⟩, st', fun b hb => (hf b hb).1⟩⟩
    rw [Int.mul_one]
  done := by
    intro X hP hw hK hc i pins s σ H E I hf st hg
    subst hP hw hK
    obtain ⟨f0, f1, f2, f3, f4, f5⟩ := hf it (by simp)
    have hc := hc.resolve_right fun z => Bool.noConfusion (show false = true from z.1)
    exact wpAny_pyNext_range_end (I.ok.hd hc) st (by have : n ≤ i := hg; omega) fun h' eb => ⟨rfl, I.turned (t' := s.toks) (fun b o hb e => eb b o hb e) f0 f1 f3 f4 f5⟩
  self := fun _ _ _ _ _ st h => wpAny_pyIter_rangeiter st h
end L2

namespace L2
open PySem PySem.Spec PyProof.Rows
section
variable {X : Cx} {tg : Expr}
def iList (K : PySem.W.Frag) (tl : TE) : TI := fun σ H R => tl σ H fun x H1 => ∃ a, x = .ref a ∧ (∃ xs, SqL K H1 a xs) ∧ R (Itl K a) H1
def iTup (K : PySem.W.Frag) (tl : TE) : TI := fun σ H R => tl σ H fun x H1 => ∃ a, x = .ref a ∧ (∃ xs, SqT K H1 a xs) ∧ R (Itt K a) H1
theorem pi_list {l : Expr} {tl : TE} (hl : PE X l tl) : PI X tg l (iList X.K tl) := by
  intro pins s σ H R I h
  refine thn (hl pins s σ H _ I h) fun v s1 ⟨x, H1, I1, r1, q1⟩ => ?_
  obtain ⟨a, e, ⟨xs, hq⟩, q⟩ := q1
  subst e
  cases r1
  obtain ⟨its, rv, p, hz⟩ := I1.list hq
  refine wpAny_pyIter_list p.isList ?_
  refine ⟨s1.heap.objs.size, [s1.heap.objs.size], _, _, H1, rfl, I1.kept (t' := s1.toks) fun b o e => Heap.get?_push_of_some _ e, turn_list a _, ⟨_, Heap.get?_push_size _ rfl, rfl, rfl⟩, fun b hb => ?_, q⟩
  have e : b = s1.heap.objs.size := by simpa using hb
  subst e
  exact I1.fpOk (Nat.le_refl _) (I1.hok.fresh (Nat.le_refl _))
theorem pi_tup {l : Expr} {tl : TE} (hl : PE X l tl) : PI X tg l (iTup X.K tl) := by
  intro pins s σ H R I h
  refine thn (hl pins s σ H _ I h) fun v s1 ⟨x, H1, I1, r1, q1⟩ => ?_
  obtain ⟨a, e, ⟨xs, hq⟩, q⟩ := q1
  subst e
  cases r1
  obtain ⟨its, rv, p, hz⟩ := I1.tuple hq
  refine wpAny_pyIter_tuple (show s1.heap.IsTuple a its.toArray from p) ?_
  refine ⟨s1.heap.objs.size, [s1.heap.objs.size], _, _, H1, rfl, I1.kept (t' := s1.toks) fun b o e => Heap.get?_push_of_some _ e, turn_tuple a _, ⟨_, Heap.get?_push_size _ rfl, rfl, rfl⟩, fun b hb => ?_, q⟩
  have e : b = s1.heap.objs.size := by simpa using hb
  subst e
  exact I1.fpOk (Nat.le_refl _) (I1.hok.fresh (Nat.le_refl _))
/-- a range object just made, walked -/
theorem range_it {pins : List (Addr × Obj)} {σ : St} {H : Hp} {s : Shared} {R : It → Hp → Prop} {E : Value → Shared → Prop} {lo hi : Int} {t u v : Tok} {tk : Nat} (I : Inv X pins σ H s) (h1 : -(2 ^ 62) ≤ lo) (h2 : lo < 2 ^ 62) (h3 : -(2 ^ 62) ≤ hi) (h4 : hi < 2 ^ 62)
    (q : R (Itr lo (hi - lo).toNat) H) : wpAny (model X.prog X.w) X.A (pyIter (.ref s.heap.objs.size)) (PIE X pins σ tg R) E { s with heap := s.heap.push { cls := .type "range", data := .fields #[.int lo t, .int hi u, .int 1 v] }, toks := tk } := by
  refine wpAny_pyIter_range (IsRange.new ..) (small_one h1 h2 h3 h4) ?_
  have I1 : Inv X pins σ H { s with heap := s.heap.push { cls := .type "range", data := .fields #[.int lo t, .int hi u, .int 1 v] }, toks := tk } := I.kept fun b o e => Heap.get?_push_of_some _ e
  refine ⟨(s.heap.push { cls := .type "range", data := .fields #[.int lo t, .int hi u, .int 1 v] }).objs.size, [(s.heap.push { cls := .type "range", data := .fields #[.int lo t, .int hi u, .int 1 v] }).objs.size], _, _, H, rfl,
    I1.kept (t' := tk) fun b o e => Heap.get?_push_of_some _ e, turn_range _ lo (hi - lo).toNat, ?_, fun b hb => ?_, q⟩
  · have e1 : lo + ((0 : Nat) : Int) * 1 = lo := by simp
    have e2 : (((hi - lo).toNat : Nat) : Int) - ((0 : Nat) : Int) = Builtin.Range.rangeSize lo hi 1 := by rw [rangeSize_one]; split <;> omega
    show IsRangeIter _ _ (lo + ((0 : Nat) : Int) * 1) ((((hi - lo).toNat : Nat) : Int) - ((0 : Nat) : Int)) 1
    rw [e1, e2]
    exact Heap.get?_push_size _ rfl
  · have e : b = (s.heap.push { cls := .type "range", data := .fields #[.int lo t, .int hi u, .int 1 v] }).objs.size := by simpa using hb
    subst e
    exact I1.fpOk (Nat.le_refl _) (I1.hok.fresh (Nat.le_refl _))
def iRng1 (ta : TA) : TI := fun σ H R => ta σ H fun vs H1 => ∃ j : Int, vs = [.int j] ∧ -(2 ^ 62) ≤ j ∧ j < 2 ^ 62 ∧ R (Itr 0 j.toNat) H1
def iRng2 (ta : TA) : TI := fun σ H R => ta σ H fun vs H1 => ∃ i j : Int, vs = [.int i, .int j] ∧ (-(2 ^ 62) ≤ i ∧ i < 2 ^ 62 ∧ -(2 ^ 62) ≤ j ∧ j < 2 ^ 62) ∧ R (Itr i (j - i).toNat) H1
theorem pi_range1 {a : Expr} {ta : TA} {p pos : Pos} (hg : Gl X "range") (hm : X.mg "range" = none) (ha : PA X [a] ta) (hs : starEach [a] X.env = [(false, eval a X.env)] := by rfl) : PI X tg (.Call (.Name "range" p) [a] [] pos) (iRng1 ta) := by
  intro pins s σ H R I h
  refine Call_ (ld_blt I hg hm boot_range (PyProof.Rows.callWith_type1 (thn (ha pos pins s σ H _ I h) fun us s1 ⟨vs, H1, I1, r1, q1⟩ => ?_) hs rfl))
  obtain ⟨j, e, q1, q2, q⟩ := q1
  subst e
  cases r1 with
  | cons r rr =>
    cases rr
    obtain ⟨t, rfl⟩ := r
    exact call_range_1 (range_it I1 (by omega) (by omega) q1 q2 (by simpa using q))
theorem pi_range2 {a b : Expr} {ta : TA} {p pos : Pos} (hg : Gl X "range") (hm : X.mg "range" = none) (ha : PA X [a, b] ta) (hs : starEach [a, b] X.env = [(false, eval a X.env), (false, eval b X.env)] := by rfl) (hs2 : starEach [b] X.env = [(false, eval b X.env)] := by rfl) :
    PI X tg (.Call (.Name "range" p) [a, b] [] pos) (iRng2 ta) := by
  intro pins s σ H R I h
  refine Call_ (ld_blt I hg hm boot_range (PyProof.Rows.callWith_type1 (thn (ha pos pins s σ H _ I h) fun us s1 ⟨vs, H1, I1, r1, q1⟩ => ?_) (by rw [hs, hs2]) (by rw [hs2]; rfl)))
  obtain ⟨i, j, e, ⟨q1, q2, q3, q4⟩, q⟩ := q1
  subst e
  cases r1 with
  | cons r rr =>
    cases rr with
    | cons r' rr =>
      cases rr
      obtain ⟨t, rfl⟩ := r
      obtain ⟨t', rfl⟩ := r'
      exact call_range_2 (range_it I1 q1 q2 q3 q4 q)

/-! ### for -/
/-- W: the invariant by the turn and a measure; N: what the body is to reach -/
def tFor (wi : TI) (g : TG) (tb : TS) : TS := fun D σ H => wi σ H fun J H1 => ∃ W : Nat → Nat → St → Hp → Prop, (∃ m, W 0 m σ H1) ∧ ∀ i m σ H, W i m σ H →
  (J.stop i H ∧ D.nx σ H) ∨ (J.go i H ∧ ∃ N : St → Hp → Prop, (∀ σ' H', N σ' H' → ∃ m', m' < m ∧ W (i + 1) m' σ' H') ∧ ∀ x H', J.yld i H x H' → g x σ H' fun σ2 H2 => tb { D with nx := N, ct := N, bk := D.nx } σ2 H2)
/-- the records at fp as they stand -/
def pinsAt (fp : List Addr) (h : Heap) : List (Addr × Obj) := fp.filterMap fun b => (h.get? b).map fun o => (b, o)
theorem mem_pinsAt {fp : List Addr} {h : Heap} {b : Addr} {o : Obj} (hb : b ∈ fp) (e : h.get? b = some o) : (b, o) ∈ pinsAt fp h := List.mem_filterMap.mpr ⟨b, hb, by rw [e]; rfl⟩
theorem of_pinsAt {fp : List Addr} {h : Heap} {p : Addr × Obj} (hp : p ∈ pinsAt fp h) : p.1 ∈ fp ∧ h.get? p.1 = some p.2 := by
  obtain ⟨b, hb, e⟩ := List.mem_filterMap.mp hp
  cases q : h.get? b with
  | none => rw [q] at e; cases e
  | some o =>
    rw [q] at e
    have e' : (b, o) = p := Option.some.inj e
    subst e'
    exact ⟨hb, q⟩
theorem Inv.pinned {pins : List (Addr × Obj)} {σ : St} {H : Hp} {s : Shared} {fp : List Addr} (I : Inv X pins σ H s) (hf : ∀ b ∈ fp, FpOk X pins H b) (ho : ∀ b ∈ fp, ∃ o, s.heap.get? b = some o ∧ ∀ v, o.data ≠ .cell v) : Inv X (pins ++ pinsAt fp s.heap) σ H s :=
  I.pins_of fun p hp => (List.mem_append.mp hp).elim (fun z => I.pin p (List.mem_append_right _ z)) fun z => by
    obtain ⟨hb, e⟩ := of_pinsAt z
    obtain ⟨f0, f1, f2, _⟩ := hf p.1 hb
    obtain ⟨o, e', d⟩ := ho p.1 hb
    rw [e] at e'; cases e'
    exact ⟨e, f0, f1, f2, d⟩
theorem Inv.unpinned {pins pl : List (Addr × Obj)} {σ : St} {H : Hp} {s : Shared} (I : Inv X (pins ++ pl) σ H s) : Inv X pins σ H s := I.pins_of fun p hp => I.pin p (List.mem_append_right _ (List.mem_append_left _ hp))
theorem ps_for {iter : Expr} {body : List Stmt} {wi : TI} {g : TG} {tb : TS} {pos : Pos} (hp : PassesOwn (model X.prog X.w) X.A X.env X.xe) (hc : X.calm = true) (hi : PI X tg iter wi) (hg : PG X tg g) (hb : PSs X body tb)
    (hs : ∀ x, foldedSetIterable iter X.env x = pure x := by intro _; rfl) : PS X (.For tg iter body [] pos) (tFor wi g tb) := by
  intro pins s σ H D I h
  refine wpAny_For (thn (hi pins s σ H _ I h) fun v s1 h1 => thn h1 fun itv s2 h2 => ?_) hs
  obtain ⟨it, fp, tn, J, H2, e, I2, T, st2, f2, W, ⟨m0, w0⟩, turn⟩ := h2
  subst e
  -- what stays true of the iterator's objects through the loop
  have stat : ∀ {H' : Hp}, (∀ b ∈ fp, H' b = none) → ∀ b ∈ fp, FpOk X pins H' b := fun hn b hb => ⟨hn b hb, (f2 b hb).2⟩
  refine codeAny_forLoop_any (fun n s' => ∃ i σ' H', Inv X pins σ' H' s' ∧ tn i s'.heap ∧ (∀ b ∈ fp, H' b = none) ∧ W i n σ' H') ?_ m0 ⟨0, σ, H2, I2, st2, fun b hb => (f2 b hb).1, w0⟩
  rintro n s3 ⟨i, σ3, H3, I3, st3, fr3, w3⟩
  rcases turn i n σ3 H3 w3 with ⟨stop, qn⟩ | ⟨go, N, hN, step⟩
  · refine wpAny_passesOwn hp (thn (T.done X rfl rfl rfl (.inl hc) i pins s3 σ3 H3 X.xe I3 (stat fr3) st3 stop) fun r s4 ⟨hr, I4⟩ => ?_)
    subst hr
    exact wpAny_execs_nil ⟨σ3, H3, I4, qn⟩
  · refine wpAny_passesOwn hp (thn (T.item X rfl rfl rfl (.inl hc) i pins s3 σ3 H3 X.xe I3 (stat fr3) st3 go) fun r s4 ⟨u, hr, h4⟩ => ?_)
    subst hr
    refine wpAny_passesOwn hp (thn h4 fun _ s5 ⟨x, H5, I5, r5, y5, st5, fr5⟩ => ?_)
    have I5' := I5.pinned (stat fr5) (T.obj _ _ st5)
    refine wpAny_passesOwn hp (thn (hg _ s5 σ3 H5 x u _ I5' r5 (step x H5 y5)) fun _ s6 ⟨σ6, H6, I6, q6⟩ => ?_)
    refine wpAny_passesOwn hp (thn (hb _ s6 σ6 H6 _ I6 q6) fun f s7 q7 => ?_)
    have again : ∀ {σ7 : St} {H7 : Hp}, Inv X (pins ++ pinsAt fp s5.heap) σ7 H7 s7 → N σ7 H7 → ∃ m, m < n ∧ ∃ i σ' H', Inv X pins σ' H' s7 ∧ tn i s7.heap ∧ (∀ b ∈ fp, H' b = none) ∧ W i m σ' H' := fun {σ7 H7} I7 n7 => by
      obtain ⟨m', hm, w7⟩ := hN σ7 H7 n7
      refine ⟨m', hm, i + 1, σ7, H7, I7.unpinned, T.keep _ _ _ st5 fun b hb o e => (I7.pin (b, o) (List.mem_append_right _ (List.mem_append_right _ (mem_pinsAt hb e)))).1, fun b hb => ?_, w7⟩
      obtain ⟨o, e, d⟩ := T.obj _ _ st5 b hb
      exact (I7.pin (b, o) (List.mem_append_right _ (List.mem_append_right _ (mem_pinsAt hb e)))).2.1
    cases f with
    | next => obtain ⟨σ7, H7, I7, n7⟩ := q7; exact again I7 n7
    | cont => obtain ⟨σ7, H7, I7, n7⟩ := q7; exact again I7 n7
    | brk => obtain ⟨σ7, H7, I7, q7⟩ := q7; exact ⟨σ7, H7, I7.unpinned, q7⟩
    | ret v => obtain ⟨x7, σ7, H7, I7, r7, q7⟩ := q7; exact ⟨x7, σ7, H7, I7.unpinned, r7, q7⟩
end

/-! ### the forms one uses -/
/-- over a list that the body leaves as it is -/
theorem for_list {K : PySem.W.Frag} {a : Addr} {xs : List V} {g : TG} {tb : TS} {D : Ends} {σ : St} {H : Hp} (Pv : Nat → St → Hp → Prop) (h0 : Pv 0 σ H) (hl : ∀ i σ H, i ≤ xs.length → Pv i σ H → SqL K H a xs)
    (hs : ∀ i x σ H, xs[i]? = some x → Pv i σ H → g x σ H fun σ2 H2 => tb { D with nx := Pv (i + 1), ct := Pv (i + 1), bk := D.nx } σ2 H2) (hd : ∀ σ H, Pv xs.length σ H → D.nx σ H) :
    ∃ W : Nat → Nat → St → Hp → Prop, (∃ m, W 0 m σ H) ∧ ∀ i m σ H, W i m σ H →
      ((Itl K a).stop i H ∧ D.nx σ H) ∨ ((Itl K a).go i H ∧ ∃ N : St → Hp → Prop, (∀ σ' H', N σ' H' → ∃ m', m' < m ∧ W (i + 1) m' σ' H') ∧ ∀ x H', (Itl K a).yld i H x H' → g x σ H' fun σ2 H2 => tb { D with nx := N, ct := N, bk := D.nx } σ2 H2) := by
  refine ⟨fun i m σ H => m = xs.length - i ∧ i ≤ xs.length ∧ Pv i σ H, ⟨xs.length, by simp, Nat.zero_le _, h0⟩, ?_⟩
  rintro i m σ H ⟨rfl, hi, p⟩
  have q := hl i σ H hi p
  by_cases hlt : i < xs.length
  · refine .inr ⟨⟨xs, xs[i], q, by simp [hlt]⟩, Pv (i + 1), fun σ' H' p' => ⟨xs.length - (i + 1), by omega, rfl, hlt, p'⟩, fun x H' y => ?_⟩
    obtain ⟨e, y⟩ := y
    subst e
    exact hs i x σ _ (y xs q) p
  · have e : i = xs.length := by omega
    subst e
    exact .inl ⟨⟨xs, q, Nat.le_refl _⟩, hd σ H p⟩
theorem for_tup {K : PySem.W.Frag} {a : Addr} {xs : List V} {g : TG} {tb : TS} {D : Ends} {σ : St} {H : Hp} (Pv : Nat → St → Hp → Prop) (h0 : Pv 0 σ H) (hl : ∀ i σ H, i ≤ xs.length → Pv i σ H → SqT K H a xs)
    (hs : ∀ i x σ H, xs[i]? = some x → Pv i σ H → g x σ H fun σ2 H2 => tb { D with nx := Pv (i + 1), ct := Pv (i + 1), bk := D.nx } σ2 H2) (hd : ∀ σ H, Pv xs.length σ H → D.nx σ H) :
    ∃ W : Nat → Nat → St → Hp → Prop, (∃ m, W 0 m σ H) ∧ ∀ i m σ H, W i m σ H →
      ((Itt K a).stop i H ∧ D.nx σ H) ∨ ((Itt K a).go i H ∧ ∃ N : St → Hp → Prop, (∀ σ' H', N σ' H' → ∃ m', m' < m ∧ W (i + 1) m' σ' H') ∧ ∀ x H', (Itt K a).yld i H x H' → g x σ H' fun σ2 H2 => tb { D with nx := N, ct := N, bk := D.nx } σ2 H2) := by
  refine ⟨fun i m σ H => m = xs.length - i ∧ i ≤ xs.length ∧ Pv i σ H, ⟨xs.length, by simp, Nat.zero_le _, h0⟩, ?_⟩
  rintro i m σ H ⟨rfl, hi, p⟩
  have q := hl i σ H hi p
  by_cases hlt : i < xs.length
  · refine .inr ⟨⟨xs, xs[i], q, by simp [hlt]⟩, Pv (i + 1), fun σ' H' p' => ⟨xs.length - (i + 1), by omega, rfl, hlt, p'⟩, fun x H' y => ?_⟩
    obtain ⟨e, y⟩ := y
    subst e
    exact hs i x σ _ (y xs q) p
  · have e : i = xs.length := by omega
    subst e
    exact .inl ⟨⟨xs, q, Nat.le_refl _⟩, hd σ H p⟩
theorem for_range {lo : Int} {n : Nat} {g : TG} {tb : TS} {D : Ends} {σ : St} {H : Hp} (Pv : Nat → St → Hp → Prop) (h0 : Pv 0 σ H)
    (hs : ∀ i σ H, i < n → Pv i σ H → g (.int (lo + i)) σ H fun σ2 H2 => tb { D with nx := Pv (i + 1), ct := Pv (i + 1), bk := D.nx } σ2 H2) (hd : ∀ σ H, Pv n σ H → D.nx σ H) :
    ∃ W : Nat → Nat → St → Hp → Prop, (∃ m, W 0 m σ H) ∧ ∀ i m σ H, W i m σ H →
      ((Itr lo n).stop i H ∧ D.nx σ H) ∨ ((Itr lo n).go i H ∧ ∃ N : St → Hp → Prop, (∀ σ' H', N σ' H' → ∃ m', m' < m ∧ W (i + 1) m' σ' H') ∧ ∀ x H', (Itr lo n).yld i H x H' → g x σ H' fun σ2 H2 => tb { D with nx := N, ct := N, bk := D.nx } σ2 H2) := by
  refine ⟨fun i m σ H => m = n - i ∧ i ≤ n ∧ Pv i σ H, ⟨n, by simp, Nat.zero_le _, h0⟩, ?_⟩
  rintro i m σ H ⟨rfl, hi, p⟩
  by_cases hlt : i < n
  · refine .inr ⟨hlt, Pv (i + 1), fun σ' H' p' => ⟨n - (i + 1), by omega, rfl, hlt, p'⟩, fun x H' y => ?_⟩
    obtain ⟨e, y⟩ := y
    subst e y
    exact hs i σ _ hlt p
  · have e : i = n := by omega
    subst e
    exact .inl ⟨Nat.le_refl _, hd σ H p⟩
/-- while, by a word and a measure of the state -/
theorem while_by {c : TT} {tb : TS} {D : Ends} {σ : St} {H : Hp} (Pv : St → Hp → Prop) (μ : St → Hp → Nat) (h0 : Pv σ H)
    (hs : ∀ σ H, Pv σ H → c σ H fun b H1 => if b = true then tb { D with nx := fun σ' H' => Pv σ' H' ∧ μ σ' H' < μ σ H, ct := fun σ' H' => Pv σ' H' ∧ μ σ' H' < μ σ H, bk := D.nx } σ H1 else D.nx σ H1)
    (mono : ∀ σ H Q Q', (∀ b H1, Q b H1 → Q' b H1) → c σ H Q → c σ H Q') : tWhile c tb D σ H := by
  refine ⟨fun m σ H => m = μ σ H ∧ Pv σ H, ⟨_, rfl, h0⟩, ?_⟩
  rintro m σ H ⟨rfl, p⟩
  refine mono σ H _ _ (fun b H1 q => ?_) (hs σ H p)
  cases b with
  | true => exact ⟨_, fun σ' H' ⟨p', l⟩ => ⟨_, l, rfl, p'⟩, q⟩
  | false => exact q
end L2

namespace L2
open PySem PySem.Spec PyProof.Rows

abbrev R2 := V → V → Hp → VK → Prop
/-- a two-place operation on values: f is binaryOp op, inplaceOp op or compareOp op -/
def OpR (X : Cx) (f : Value → Value → Sem Value) (r : R2) : Prop :=
  ∀ (pins : List (Addr × Obj)) (s : Shared) (σ : St) (H : Hp) (x y : V) (v u : Value) (Q : VK), Inv X pins σ H s → RelV x v → RelV y u → r x y H Q →
    wpAny (model X.prog X.w) X.A (f v u) (EP X pins σ Q) X.xe s
/-- a one-place operation -/
def UnR (X : Cx) (f : Value → Sem Value) (r : V → Hp → VK → Prop) : Prop :=
  ∀ (pins : List (Addr × Obj)) (s : Shared) (σ : St) (H : Hp) (x : V) (v : Value) (Q : VK), Inv X pins σ H s → RelV x v → r x H Q →
    wpAny (model X.prog X.w) X.A (f v) (EP X pins σ Q) X.xe s
/-- a call of a value that is known (a builtin, a type) with values -/
def CallR (X : Cx) (f : Value) (r : List V → Hp → VK → Prop) : Prop :=
  ∀ (pins : List (Addr × Obj)) (s : Shared) (σ : St) (H : Hp) (xs : List V) (us : List Value) (Q : VK), Inv X pins σ H s → Vals xs us → r xs H Q →
    wpAny (model X.prog X.w) X.A (call f us) (EP X pins σ Q) X.xe s
/-- a value's truth -/
def TruR (X : Cx) (r : V → Hp → (Bool → Hp → Prop) → Prop) : Prop :=
  ∀ (pins : List (Addr × Obj)) (s : Shared) (σ : St) (H : Hp) (x : V) (v : Value) (Q : Bool → Hp → Prop), Inv X pins σ H s → RelV x v → r x H Q →
    wpAny (model X.prog X.w) X.A (truthy v) (TP X pins σ Q) X.xe s

def tOp (r : R2) (ta tb : TE) : TE := fun σ H Q => ta σ H fun x H1 => tb σ H1 fun y H2 => r x y H2 Q
def tUn (r : V → Hp → VK → Prop) (ta : TE) : TE := fun σ H Q => ta σ H fun x H1 => r x H1 Q
/-- ints in, under C, and a value out -/
def rI (C : Int → Int → Prop) (g : Int → Int → V) : R2 := fun x y H Q => ∃ i j, x = .int i ∧ y = .int j ∧ C i j ∧ Q (g i j) H
def rI0 (g : Int → Int → V) : R2 := fun x y H Q => ∃ i j, x = .int i ∧ y = .int j ∧ Q (g i j) H
def rU (g : Int → V) : V → Hp → VK → Prop := fun x H Q => ∃ i, x = .int i ∧ Q (g i) H

section
variable {X : Cx} {a b c : Expr} {ta tb tc : TE} {pos : Pos}

theorem binT (ha : PE X a ta) (hb : PE X b tb) {pins : List (Addr × Obj)} {s : Shared} {σ : St} {H : Hp} {R : V → V → Hp → Prop} (I : Inv X pins σ H s)
    (h : ta σ H fun x H1 => tb σ H1 fun y H2 => R x y H2) {Q : Value → Shared → Prop} {f : Value → Value → Sem Value}
    (hf : ∀ v u s2 x y H2, Inv X pins σ H2 s2 → RelV x v → RelV y u → R x y H2 → wpAny (model X.prog X.w) X.A (f v u) Q X.xe s2) :
    wpAny (model X.prog X.w) X.A (eval a X.env) (fun v s₁ => wpAny (model X.prog X.w) X.A (eval b X.env) (fun u s₂ => wpAny (model X.prog X.w) X.A (f v u) Q X.xe s₂) X.xe s₁) X.xe s := by
  refine thn (ha pins s σ H _ I h) fun v s1 ⟨x, H1, I1, r1, q1⟩ => ?_
  refine thn (hb pins s1 σ H1 _ I1 q1) fun u s2 ⟨y, H2, I2, r2, q2⟩ => ?_
  exact hf v u s2 x y H2 I2 r1 r2 q2

theorem pe_op {op : Operator} {r : R2} (ho : OpR X (binaryOp op) r) (ha : PE X a ta) (hb : PE X b tb) : PE X (.BinOp a op b pos) (tOp r ta tb) := by
  intro pins s σ H Q I h
  exact wpAny_BinOp (binT ha hb I h fun v u s2 x y H2 I2 rx ry q => ho pins s2 σ H2 x y v u Q I2 rx ry q)
theorem pe_un {op : UnaryOp} {r : V → Hp → VK → Prop} (ho : UnR X (unaryOp op) r) (ha : PE X a ta) : PE X (.UnaryOp op a pos) (tUn r ta) := by
  intro pins s σ H Q I h
  exact UnaryOp_ (thn (ha pins s σ H _ I h) fun v s1 ⟨x, H1, I1, r1, q1⟩ => ho pins s1 σ H1 x v Q I1 r1 q1)
/-! ### ints -/
theorem opI {f : Value → Value → Sem Value} {C : Int → Int → Prop} {g : Int → Int → Int}
    (rule : ∀ (i j : Int) (t u : Tok) (s : Shared) (Q : Value → Shared → Prop) (E : Value → Shared → Prop), C i j → Q (.int (g i j) s.toks) { s with toks := s.toks + 1 } → wpAny (model X.prog X.w) X.A (f (.int i t) (.int j u)) Q E s) :
    OpR X f (rI C fun i j => .int (g i j)) := by
  intro pins s σ H x y v u Q I rx ry h
  obtain ⟨i, j, rfl, rfl, hc, q⟩ := h
  obtain ⟨t, rfl⟩ := rx
  obtain ⟨t', rfl⟩ := ry
  exact rule i j t t' s _ _ hc ⟨.int (g i j), H, I.tok _, ⟨_, rfl⟩, q⟩
theorem opI0 {f : Value → Value → Sem Value} {g : Int → Int → Int}
    (rule : ∀ (i j : Int) (t u : Tok) (s : Shared) (Q : Value → Shared → Prop) (E : Value → Shared → Prop), Q (.int (g i j) s.toks) { s with toks := s.toks + 1 } → wpAny (model X.prog X.w) X.A (f (.int i t) (.int j u)) Q E s) :
    OpR X f (rI0 fun i j => .int (g i j)) := by
  intro pins s σ H x y v u Q I rx ry h
  obtain ⟨i, j, rfl, rfl, q⟩ := h
  obtain ⟨t, rfl⟩ := rx
  obtain ⟨t', rfl⟩ := ry
  exact rule i j t t' s _ _ ⟨.int (g i j), H, I.tok _, ⟨_, rfl⟩, q⟩
theorem opB0 {f : Value → Value → Sem Value} {g : Int → Int → Bool}
    (rule : ∀ (i j : Int) (t u : Tok) (s : Shared) (Q : Value → Shared → Prop) (E : Value → Shared → Prop), Q (.bool (g i j)) s → wpAny (model X.prog X.w) X.A (f (.int i t) (.int j u)) Q E s) :
    OpR X f (rI0 fun i j => .bl (g i j)) := by
  intro pins s σ H x y v u Q I rx ry h
  obtain ⟨i, j, rfl, rfl, q⟩ := h
  obtain ⟨t, rfl⟩ := rx
  obtain ⟨t', rfl⟩ := ry
  exact rule i j t t' s _ _ ⟨.bl (g i j), H, I, rfl, q⟩

def CDiv (i j : Int) : Prop := 0 < j ∧ j < 1073741824
def CDivN (i j : Int) : Prop := j ≠ 0 ∧ j.natAbs < 1073741824
def CPow (i j : Int) : Prop := 0 ≤ j ∧ j ≤ 1000000 ∧ i.natAbs < 2 ^ 64
def CMul (i j : Int) : Prop := (-(2 ^ 64) < i ∧ i < 2 ^ 64) ∨ (-(2 ^ 64) < j ∧ j < 2 ^ 64)
theorem CMul.ok {i j : Int} (h : CMul i j) : IntMulOk i j := by
  rcases h with ⟨h1, h2⟩ | ⟨h1, h2⟩
  · exact .of_left (intBits_le_64 h1 h2)
  · exact .of_right (intBits_le_64 h1 h2)
theorem two_pow_nn (k : Nat) : (0 : Int) ≤ 2 ^ k := by
  rw [two_pow_cast]
  exact Int.natCast_nonneg _

theorem op_add : OpR X (binaryOp .Add) (rI0 fun i j => .int (i + j)) := opI0 fun _ _ _ _ _ _ _ q => add_int q
theorem op_sub : OpR X (binaryOp .Sub) (rI0 fun i j => .int (i - j)) := opI0 fun _ _ _ _ _ _ _ q => sub_int q
theorem op_mul : OpR X (binaryOp .Mult) (rI CMul fun i j => .int (i * j)) := opI fun _ _ _ _ _ _ _ hc q => mul_int q hc.ok
/-- // by a positive divisor -/
theorem op_fdiv : OpR X (binaryOp .FloorDiv) (rI CDiv fun i j => .int (i / j)) := opI fun i j _ _ _ _ _ hc q => by
  have h1 : (0 : Int) < j := hc.1
  have h2 : j < 1073741824 := hc.2
  exact floordiv_int (by omega) (by rw [Int.fdiv_eq_ediv_of_nonneg i (by omega)]; exact q) (.inl (PyProof.noPylong_small (by omega)))
/-- % by a positive divisor of any size -/
theorem op_mod : OpR X (binaryOp .Mod) (rI (fun _ j => 0 < j) fun i j => .int (i % j)) := opI fun i j _ _ _ _ _ hc q => by
  have h1 : (0 : Int) < j := hc
  exact mod_int' (by omega) (by rw [Int.fmod_eq_emod_of_nonneg i (by omega)]; exact q)
theorem op_shl : OpR X (binaryOp .LShift) (rI CPow fun i j => .int (i * 2 ^ j.toNat)) := opI fun _ _ _ _ _ _ _ hc q => lshift_int_small hc.1 hc.2.1 hc.2.2 q
theorem op_shr : OpR X (binaryOp .RShift) (rI (fun _ j => 0 ≤ j) fun i j => .int (i / 2 ^ j.toNat)) := opI fun i j _ _ _ _ _ hc q =>
  rshift_int hc (by rw [Int.fdiv_eq_ediv_of_nonneg i (two_pow_nn _)]; exact q)
theorem op_xor : OpR X (binaryOp .BitXor) (rI0 fun i j => .int (Builtin.bitXor i j)) := opI0 fun _ _ _ _ _ _ _ q => xor_int q

theorem unI {f : Value → Sem Value} {g : Int → Int}
    (rule : ∀ (i : Int) (t : Tok) (s : Shared) (Q : Value → Shared → Prop) (E : Value → Shared → Prop), Q (.int (g i) s.toks) { s with toks := s.toks + 1 } → wpAny (model X.prog X.w) X.A (f (.int i t)) Q E s) :
    UnR X f (rU fun i => .int (g i)) := by
  intro pins s σ H x v Q I rx h
  obtain ⟨i, rfl, q⟩ := h
  obtain ⟨t, rfl⟩ := rx
  exact rule i t s _ _ ⟨.int (g i), H, I.tok _, ⟨_, rfl⟩, q⟩
theorem un_neg : UnR X (unaryOp .USub) (rU fun i => .int (-i)) := unI fun _ _ _ _ _ q => neg_int q
/-! ### bools among ints: n += (a < b) -/
end

/-! ### comparisons -/
/-- the scalars that == tells apart as data does -/
def scal : V → V → Bool
  | .non, .non => true | .non, .int _ => true | .int _, .non => true | .non, .bl _ => true | .bl _, .non => true | .non, .str _ => true | .str _, .non => true
  | .int _, .int _ => true | .bl _, .bl _ => true | .str _, .str _ => true | .byt _, .byt _ => true
  | .int _, .str _ => true | .str _, .int _ => true | .bl _, .str _ => true | .str _, .bl _ => true
  | _, _ => false
def rEq : R2 := fun x y H Q => scal x y = true ∧ Q (.bl (decide (x = y))) H
def rNe : R2 := fun x y H Q => scal x y = true ∧ Q (.bl (!decide (x = y))) H

theorem dec_int {i j : Int} : decide (V.int i = V.int j) = (i == j) := by
  rw [Bool.eq_iff_iff]
  simp
theorem dec_bl {i j : Bool} : decide (V.bl i = V.bl j) = (i == j) := by
  rw [Bool.eq_iff_iff]
  simp
theorem dec_str {i j : Str} : decide (V.str i = V.str j) = (i == j) := by
  rw [Bool.eq_iff_iff]
  simp
theorem dec_byt {i j : Array UInt8} : decide (V.byt i = V.byt j) = (i.toList == j.toList) := by
  rw [Bool.eq_iff_iff]
  cases i
  cases j
  simp

section
variable {X : Cx} {a b c : Expr} {ta tb tc : TE} {pos : Pos}
theorem fin_bl {pins : List (Addr × Obj)} {σ : St} {H : Hp} {s : Shared} {Q : VK} {k k' : Bool} (I : Inv X pins σ H s) (q : Q (.bl k) H) (e : k = k') : EP X pins σ Q (.bool k') s := by
  subst e
  exact ⟨.bl k, H, I, rfl, q⟩
theorem op_eq : OpR X (compareOp .Eq) rEq := by
  intro pins s σ H x y v u Q I rx ry h
  obtain ⟨hs, q⟩ := h
  cases x with
  | non =>
    cases rx
    cases y with
    | non => cases ry; exact PySem.EqNone.eq_none_none (fin_bl I q (by simp))
    | bl j => cases ry; exact PySem.EqNone.eq_none_bool (fin_bl I q (by simp))
    | int j => obtain ⟨t', rfl⟩ := ry; exact PySem.EqNone.eq_none_int (fin_bl I q (by simp))
    | str j => obtain ⟨t', rfl⟩ := ry; exact PySem.EqNone.eq_none_str (fin_bl I q (by simp))
    | _ => exact absurd (show false = true from hs) Bool.false_ne_true
  | bl i =>
    cases rx
    cases y with
    | non => cases ry; exact PySem.EqNone.eq_bool_none (fin_bl I q (by simp))
    | bl j => cases ry; exact eq_bool (fin_bl I q dec_bl)
    | str j => obtain ⟨t', rfl⟩ := ry; exact PySem.EqMixed.eq_bool_str (fin_bl I q (by simp))
    | _ => exact absurd (show false = true from hs) Bool.false_ne_true
  | int i =>
    obtain ⟨t, rfl⟩ := rx
    cases y with
    | non => cases ry; exact PySem.EqNone.eq_int_none (fin_bl I q (by simp))
    | int j => obtain ⟨t', rfl⟩ := ry; exact eq_int (fin_bl I q dec_int)
    | str j => obtain ⟨t', rfl⟩ := ry; exact PySem.EqMixed.eq_int_str (fin_bl I q (by simp))
    | _ => exact absurd (show false = true from hs) Bool.false_ne_true
  | str i =>
    obtain ⟨t, rfl⟩ := rx
    cases y with
    | non => cases ry; exact PySem.EqNone.eq_str_none (fin_bl I q (by simp))
    | bl j => cases ry; exact PySem.EqMixed.eq_str_bool (fin_bl I q (by simp))
    | int j => obtain ⟨t', rfl⟩ := ry; exact PySem.EqMixed.eq_str_int (fin_bl I q (by simp))
    | str j => obtain ⟨t', rfl⟩ := ry; exact eq_str (fin_bl I q dec_str)
    | _ => exact absurd (show false = true from hs) Bool.false_ne_true
  | byt i =>
    obtain ⟨t, rfl⟩ := rx
    cases y with
    | byt j => obtain ⟨t', rfl⟩ := ry; exact PySem.W.eq_bytes (fin_bl I q dec_byt)
    | _ => exact absurd (show false = true from hs) Bool.false_ne_true
  | _ => cases y <;> exact absurd (show false = true from hs) Bool.false_ne_true
theorem op_ne : OpR X (compareOp .NotEq) rNe := by
  intro pins s σ H x y v u Q I rx ry h
  obtain ⟨hs, q⟩ := h
  cases x with
  | non =>
    cases rx
    cases y with
    | non => cases ry; exact PySem.EqNone.ne_none_none (fin_bl I q (by simp))
    | bl j => cases ry; exact PySem.EqNone.ne_none_bool (fin_bl I q (by simp))
    | int j => obtain ⟨t', rfl⟩ := ry; exact PySem.EqNone.ne_none_int (fin_bl I q (by simp))
    | str j => obtain ⟨t', rfl⟩ := ry; exact PySem.EqNone.ne_none_str (fin_bl I q (by simp))
    | _ => exact absurd (show false = true from hs) Bool.false_ne_true
  | bl i =>
    cases rx
    cases y with
    | non => cases ry; exact PySem.EqNone.ne_bool_none (fin_bl I q (by simp))
    | bl j => cases ry; exact ne_bool (fin_bl I q (congrArg not dec_bl))
    | str j => obtain ⟨t', rfl⟩ := ry; exact PySem.EqMixed.ne_bool_str (fin_bl I q (by simp))
    | _ => exact absurd (show false = true from hs) Bool.false_ne_true
  | int i =>
    obtain ⟨t, rfl⟩ := rx
    cases y with
    | non => cases ry; exact PySem.EqNone.ne_int_none (fin_bl I q (by simp))
    | int j => obtain ⟨t', rfl⟩ := ry; exact ne_int (fin_bl I q (congrArg not dec_int))
    | str j => obtain ⟨t', rfl⟩ := ry; exact PySem.EqMixed.ne_int_str (fin_bl I q (by simp))
    | _ => exact absurd (show false = true from hs) Bool.false_ne_true
  | str i =>
    obtain ⟨t, rfl⟩ := rx
    cases y with
    | non => cases ry; exact PySem.EqNone.ne_str_none (fin_bl I q (by simp))
    | bl j => cases ry; exact PySem.EqMixed.ne_str_bool (fin_bl I q (by simp))
    | int j => obtain ⟨t', rfl⟩ := ry; exact PySem.EqMixed.ne_str_int (fin_bl I q (by simp))
    | str j => obtain ⟨t', rfl⟩ := ry; exact ne_str (fin_bl I q (congrArg not dec_str))
    | _ => exact absurd (show false = true from hs) Bool.false_ne_true
  | byt i =>
    obtain ⟨t, rfl⟩ := rx
    cases y with
    | byt j => obtain ⟨t', rfl⟩ := ry; exact PySem.W.ne_bytes (fin_bl I q (congrArg not dec_byt))
    | _ => exact absurd (show false = true from hs) Bool.false_ne_true
  | _ => cases y <;> exact absurd (show false = true from hs) Bool.false_ne_true

theorem op_lt : OpR X (compareOp .Lt) (rI0 fun i j => .bl (decide (i < j))) := opB0 fun _ _ _ _ _ _ _ q => lt_int q
theorem op_le : OpR X (compareOp .LtE) (rI0 fun i j => .bl (decide (i ≤ j))) := opB0 fun _ _ _ _ _ _ _ q => le_int q
theorem op_gt : OpR X (compareOp .Gt) (rI0 fun i j => .bl (decide (j < i))) := opB0 fun _ _ _ _ _ _ _ q => gt_int q
theorem op_ge : OpR X (compareOp .GtE) (rI0 fun i j => .bl (decide (j ≤ i))) := opB0 fun _ _ _ _ _ _ _ q => ge_int q
theorem op_notN : OpR X (compareOp .IsNot) (fun x y H Q => y = .non ∧ Q (.bl (!decide (x = .non))) H) := by
  intro pins s σ H x y v u Q I rx ry h
  obtain ⟨rfl, q⟩ := h
  cases ry
  refine isnot_none_gen (fin_bl I q ?_)
  cases x <;> first
    | (cases rx; rfl)
    | (obtain ⟨t, rfl⟩ := rx; rfl)

/-- is, is not of two objects that are tracked lists or instances -/
def isObj : HO → Bool
  | .lst _ => true
  | .ins _ _ _ => true
  | _ => false
theorem nomark (b : Expr) {op : CmpOp} (h : op ≠ .In := by decide) (h2 : op ≠ .NotIn := by decide) : behindInMarks op b = false := by
  have e1 : (op == CmpOp.In) = false := by cases op <;> first | rfl | exact absurd rfl h
  have e2 : (op == CmpOp.NotIn) = false := by cases op <;> first | rfl | exact absurd rfl h2
  cases b <;> simp [behindInMarks, e1, e2]
/-- a comparison as a value; hm: nomark b, or (for in, not in) by with_unfolding_all rfl -/
theorem pe_cmpR {op : CmpOp} {r : R2} (ho : OpR X (compareOp op) r) (ha : PE X a ta) (hb : PE X b tb) (hm : behindInMarks op b = false) : PE X (.Compare a [op] [b] pos) (tOp r ta tb) := by
  intro pins s σ H Q I h
  exact wpAny_Compare1 (binT ha hb I h fun v u s2 x y H2 I2 rx ry q => ho pins s2 σ H2 x y v u Q I2 rx ry q) hm
/-- a reading of a value as a test -/
def tTest (t : TE) : TT := fun σ H Q => t σ H fun x H' => ∃ k, x = .bl k ∧ Q k H'
theorem pt_cmpR {op : CmpOp} {r : R2} (ho : OpR X (compareOp op) r) (ha : PE X a ta) (hb : PE X b tb) (hm : behindInMarks op b = false) : PT X (.Compare a [op] [b] pos) (tTest (tOp r ta tb)) := by
  intro pins s σ H Q I h
  refine wpAny_isTrue_Compare1 (thn (ha pins s σ H _ I h) fun v s1 ⟨x, H1, I1, r1, q1⟩ => thn (hb pins s1 σ H1 _ I1 q1) fun u s2 ⟨y, H2, I2, r2, q2⟩ =>
    thn (ho pins s2 σ H2 x y v u _ I2 r1 r2 q2) fun c s3 ⟨z, H3, I3, r3, k, e, q3⟩ => ?_) hm
  subst e
  cases r3
  exact wpAny_truthy_bool ⟨H3, I3, q3⟩
/-- a op1 b op2 c -/
def tChain (r r' : R2) (ta tb tc : TE) : TE := fun σ H Q => ta σ H fun x H1 => tb σ H1 fun y H2 => r x y H2 fun z H3 => ∃ k, z = .bl k ∧
  (if k = true then tc σ H3 fun w' H4 => r' y w' H4 Q else Q (.bl false) H3)
theorem pe_chain {op op' : CmpOp} {r r' : R2} (ho : OpR X (compareOp op) r) (ho' : OpR X (compareOp op') r') (ha : PE X a ta) (hb : PE X b tb) (hc : PE X c tc)
    (hm : lastMarks [op, op'] [b, c] = false := by with_unfolding_all rfl) : PE X (.Compare a [op, op'] [b, c] pos) (tChain r r' ta tb tc) := by
  intro pins s σ H Q I h
  refine Compare_chain (thn (ha pins s σ H _ I h) fun v s1 ⟨x, H1, I1, r1, q1⟩ => chain_link (thn (hb pins s1 σ H1 _ I1 q1) fun u s2 ⟨y, H2, I2, r2, q2⟩ =>
    thn (ho pins s2 σ H2 x y v u _ I2 r1 r2 q2) fun d s3 ⟨z, H3, I3, r3, k, e, q3⟩ => ?_)) hm
  subst e
  cases r3
  refine wpAny_truthy_bool ?_
  cases k with
  | false => exact ite_ff ⟨.bl false, H3, I3, rfl, q3⟩
  | true => exact ite_tt (chain_last (thn (hc pins s3 σ H3 _ I3 q3) fun w' s4 ⟨z', H4, I4, r4, q4⟩ => ho' pins s4 σ H4 y z' u w' Q I4 r2 r4 q4))
/-! ### truth -/
/-- a value's truth by the abstract heap -/
def TruV (K : PySem.W.Frag) (x : V) (H : Hp) (k : Bool) : Prop :=
  match x with
  | .non => k = false
  | .bl b => k = b
  | .int i => k = (i != 0)
  | .str y => y.length ≤ sizeLine ∧ k = ((y.length : Int) != 0)
  | .byt y => y.size ≤ sizeLine ∧ k = ((y.size : Int) != 0)
  | .ref p => (∃ xs, SqL K H p xs ∧ k = !xs.isEmpty) ∨ (∃ xs, SqT K H p xs ∧ k = !xs.isEmpty) ∨ ∃ kvs, H p = some (.dK kvs) ∧ k = !kvs.isEmpty
  | _ => False
theorem line63 : (sizeLine : Nat) < 2 ^ 63 := by rw [sizeLine_eq]; decide
/-! ### strs and bytes -/
def PlainIxT (b : Expr) : Prop := ∀ o i, subscripted b false o i = operate [o, i] (getItem o i)
/-! ### scalar builtins, by CallR -/
theorem vals1 {x : V} {us : List Value} (r : Vals [x] us) : ∃ u, us = [u] ∧ RelV x u := by
  cases r with
  | cons r1 r2 => cases r2; exact ⟨_, rfl, r1⟩
theorem vals2 {x y : V} {us : List Value} (r : Vals [x, y] us) : ∃ u w', us = [u, w'] ∧ RelV x u ∧ RelV y w' := by
  cases r with
  | cons r1 r2 =>
    cases r2 with
    | cons r3 r4 => cases r4; exact ⟨_, _, rfl, r1, r3⟩
/-- len of a str, a bytes, a list, a tuple -/
def LenV (K : PySem.W.Frag) (x : V) (H : Hp) (n : Nat) : Prop :=
  match x with
  | .str y => y.length ≤ sizeLine ∧ n = y.length
  | .byt y => y.size ≤ sizeLine ∧ n = y.size
  | .ref p => (∃ xs, SqL K H p xs ∧ n = xs.length) ∨ ∃ xs, SqT K H p xs ∧ n = xs.length
  | _ => False
end
end L2

namespace L2
open PySem PySem.Spec PyProof.Rows

/-! ### an instance, its attributes a map -/
structure ObjM (h : Heap) (x dx C : Addr) (mA : Str → Option Value) : Prop where
  obj : h.get? x = some (PySem.W.instObj C dx)
  ns : h.Ns1 dx mA
  ne : dx ≠ x

theorem lookIn_ns {h : Heap} {dx : Addr} {mA : Str → Option Value} (n : h.Ns1 dx mA) : ∃ od, h.get? dx = some od ∧ ∀ name, PySem.W.lookIn name od = some (mA name) := by
  obtain ⟨o, es, ep, ho, hd, hk, _, hm⟩ := n
  refine ⟨o, ho, fun name => ?_⟩
  have e := hm name
  unfold nsFind findBy at e
  rw [← Array.find?_toList] at e
  unfold PySem.W.lookIn
  rw [hd]
  dsimp only
  split
  · rename_i y q
    rw [q] at e
    exact congrArg some e
  · rename_i q
    rw [q] at e
    have a : es.toList.any (·.refKey) = false := by
      rw [List.any_eq_false]
      intro y hy
      obtain ⟨z, t, hkey⟩ := hk y (Array.mem_toList_iff.mp hy)
      simp [DictEntry.refKey, hkey]
    have a' : ¬ es.toList.any (·.refKey) = true := by rw [a]; exact Bool.false_ne_true
    rw [if_neg a']
    exact congrArg some e

theorem ObjM.look {h : Heap} {x dx C : Addr} {mA : Str → Option Value} (I : ObjM h x dx C mA) : ∃ od, PySem.W.InstAt h x (PySem.W.instObj C dx) C (some od) ∧ ∀ name, PySem.W.lookIn name od = some (mA name) :=
  let ⟨od, ho, hl⟩ := lookIn_ns I.ns
  ⟨od, ⟨I.obj, rfl, rfl, ho⟩, hl⟩

section
variable {prog : Program} {w : World} {A : Around} {E : Value → Shared → Prop} {s : Shared} {K : PySem.W.Frag} {x dx C f : Addr} {mA : Str → Option Value} {name : Str} {v : Value}

theorem get_map {expr : Bool} {Q : Value → Shared → Prop} (X : K.In s.heap) (I : ObjM s.heap x dx C mA) (hg : PySem.W.plainGet K C name = true) (hh : PySem.W.hasDictIn K C = true)
    (ha : PySem.W.findIn K (.ref C) name = some none) (hv : mA name = some v) (hv' : PySem.W.handedIn v = true) (h : Q v { s with toks := s.toks + 1 }) :
    wpAny (model prog w) A (getAttr (.ref x) name expr) Q E s := by
  obtain ⟨od, J, hl⟩ := I.look
  exact PySem.W.get_value X J (PySem.W.plainGet_of hg).1 (PySem.W.findObj_own hh ha rfl (by rw [hl, hv])) hv' h

theorem get_meth {pl : Sem Bool} {Q : Value × List Value → Shared → Prop} (X : K.In s.heap) (I : ObjM s.heap x dx C mA) (hg : PySem.W.plainGet K C name = true)
    (hf : PySem.W.findIn K (.ref C) name = some (some (.ref f))) (ht : PySem.W.isFn K (.ref f) = true) (hv : mA name = none) (h : Q (.ref f, [.ref x]) s) :
    wpAny (model prog w) A (getMethod (.ref x) name pl) Q E s := by
  obtain ⟨od, J, hl⟩ := I.look
  exact PySem.W.method_fn X J (PySem.W.plainGet_of hg).1 (PySem.W.plainGet_of hg).2 hf (beq_iff_eq.mp ht) (by show (PySem.W.lookIn name od).map (·.isSome) = some false; rw [hl, hv]; rfl) h

theorem set_map {ns : List Str} {Q : Unit → Shared → Prop} (X : K.In s.heap) (I : ObjM s.heap x dx C mA)
    (hs : PySem.W.findIn K (.ref C) "__setattr__" = some (some (.builtin "object.__setattr__"))) (hp : PySem.W.plainOver K C = true) (ht : PySem.W.takerIn K C name = some none) (hh : PySem.W.hasDictIn K C = true)
    (hw : PySem.Within mA ns) (hsz : ns.length ≤ sizeLine)
    (h : ∀ h', ObjM h' x dx C (fun y => if y = name then some v else mA y) → Heap.SameBut dx s.heap h' → Q () { s with heap := h', toks := s.toks + 2 }) :
    wpAny (model prog w) A (setAttr (.ref x) name v) Q E s := by
  obtain ⟨od, J, hl⟩ := I.look
  refine PySem.W.set_plain X J hs (PySem.W.osa_open (s := { s with toks := s.toks + 1 }) (r := none) X J hp ht fun b => ?_)
  obtain ⟨cd, hc, hd'⟩ := PySem.W.any_some hh
  have hx : s.heap.get? x = some ⟨.ref C, some dx, .plain, #[]⟩ := I.obj
  refine wpAny_bind (wpAny_pure (wpAny_bind (wpAny_bind (wpAny_loadPart hx (wpAny_bind (PySem.W.Looks.here (s := { s with toks := s.toks + 1 }) (PySem.W.looks_clsIn X hc) ?_))))))
  rw [hd']
  refine wpAny_pure (a := some dx) (wpAny_bind (wpAny_pure (wpAny_bind ?_)))
  refine wpAny_nsSet1 (s := { s with toks := s.toks + 1 }) I.ns fun h' hn2 hs2 => ?_
  obtain ⟨oD, esD, epD, hoD, hdD, hcD⟩ := hn2.count (PySem.Within.cons name v hw)
  refine wpAny_bind (wpAny_lookBehind hoD (by rw [hdD]; exact pastItsLine_dict (Nat.le_trans hcD (by rw [List.length_cons]; omega))) ?_)
  exact wpAny_pure (h _ ⟨(hs2.2 _ (Ne.symm I.ne)).trans I.obj, hn2, I.ne⟩ hs2)

/-- C(..): the dict at the heap's end, the instance behind it; then its __init__ -/
theorem make_map {R : Result → Shared → Prop} {vs : List Value} {kw : List (Str × Value)} (X : K.In s.heap) (hm : PySem.W.makesIn K C = true)
    (hi : PySem.W.findIn K (.ref C) "__init__" = some (some (.ref f))) (hf : PySem.W.typeIn K (.ref f) = some (.type "function"))
    (h : codeAny (model prog w) (A.under (.builtin "type.__call__" ⟨.ref C :: vs, kw⟩)) (.call (.ref f) ⟨.ref (s.heap.objs.size + 1) :: vs, kw⟩) (PySem.W.InitBack (s.heap.objs.size + 1) R)
      { s with heap := (s.heap.push PySem.W.emptyDict).push (PySem.W.instObj C s.heap.objs.size) }) :
    codeAny (model prog w) A (.call (.ref C) ⟨vs, kw⟩) R s := by
  obtain ⟨hh, g, d, t, os⟩ := s
  exact PySem.W.make_core (PySem.W.makes_of X hm) (PySem.W.looks_findIn X hi) (fun self => PySem.W.bind_fn X self hf) (.inl rfl) h
end

/-! ### the attributes as a list of pairs -/
def putF (f : Str) (v : V) : List (Str × V) → List (Str × V)
  | [] => [(f, v)]
  | (g, x) :: r => if g = f then (g, v) :: r else (g, x) :: putF f v r
theorem lookup_putF (f g : Str) (v : V) : ∀ fs : List (Str × V), (putF f v fs).lookup g = if g = f then some v else fs.lookup g
  | [] => by
    show List.lookup g [(f, v)] = _
    by_cases h : g = f
    · have hb : (g == f) = true := beq_iff_eq.mpr h
      simp only [List.lookup, hb, if_pos h]
    · have hb : (g == f) = false := beq_eq_false_iff_ne.mpr h
      simp only [List.lookup, hb, if_neg h]
  | (k, x) :: r => by
    have ih := lookup_putF f g v r
    rw [show putF f v ((k, x) :: r) = (if k = f then (k, v) :: r else (k, x) :: putF f v r) from rfl]
    by_cases hk : k = f
    · rw [if_pos hk]
      by_cases h : g = k
      · have hb : (g == k) = true := beq_iff_eq.mpr h
        simp only [List.lookup, hb, if_pos (h.trans hk)]
      · have hb : (g == k) = false := beq_eq_false_iff_ne.mpr h
        simp only [List.lookup, hb, if_neg (fun e : g = f => h (e.trans hk.symm))]
    · rw [if_neg hk]
      by_cases h : g = k
      · have hb : (g == k) = true := beq_iff_eq.mpr h
        simp only [List.lookup, hb, if_neg (fun e : g = f => hk (h.symm.trans e))]
      · have hb : (g == k) = false := beq_eq_false_iff_ne.mpr h
        simp only [List.lookup, hb]
        exact ih
theorem keys_putF (f : Str) (v : V) : ∀ fs : List (Str × V), f ∈ (putF f v fs).map (·.1) ∧ ∀ g, g ∈ fs.map (·.1) → g ∈ (putF f v fs).map (·.1)
  | [] => ⟨by simp [putF], fun g h => by simp at h⟩
  | (k, x) :: r => by
    obtain ⟨i1, i2⟩ := keys_putF f v r
    rw [show putF f v ((k, x) :: r) = (if k = f then (k, v) :: r else (k, x) :: putF f v r) from rfl]
    by_cases hk : k = f
    · rw [if_pos hk]
      subst hk
      exact ⟨by simp, fun g h => by simpa using h⟩
    · rw [if_neg hk]
      refine ⟨?_, fun g h => ?_⟩
      · rw [List.map_cons]
        exact List.mem_cons_of_mem _ i1
      · rw [List.map_cons] at h ⊢
        rcases List.mem_cons.mp h with e | e
        · exact List.mem_cons.mpr (.inl e)
        · exact List.mem_cons_of_mem _ (i2 g e)
theorem length_putF (f : Str) (v : V) : ∀ fs : List (Str × V), (putF f v fs).length ≤ fs.length + 1
  | [] => by simp [putF]
  | (k, x) :: r => by
    have ih := length_putF f v r
    rw [show putF f v ((k, x) :: r) = (if k = f then (k, v) :: r else (k, x) :: putF f v r) from rfl]
    by_cases hk : k = f
    · rw [if_pos hk, List.length_cons, List.length_cons]; omega
    · rw [if_neg hk, List.length_cons, List.length_cons]; omega

theorem RelO.some_of {v : V} {o : Option Value} (r : RelO (some v) o) : ∃ u, o = some u ∧ RelV v u := by
  cases o with
  | none => exact (show False from r).elim
  | some u => exact ⟨u, rfl, r⟩
theorem RelO.none_of {o : Option Value} (r : RelO none o) : o = none := by
  cases o with
  | none => rfl
  | some u => exact (show False from r).elim
theorem handed_of {v : V} {u : Value} (r : RelV v u) : PySem.W.handedIn u = true := by
  cases v with
  | non => cases (show u = Value.none from r); rfl
  | bl b => cases (show u = Value.bool b from r); rfl
  | int i => obtain ⟨t, e⟩ := (show ∃ t, u = Value.int i t from r); cases e; rfl
  | str x => obtain ⟨t, e⟩ := (show ∃ t, u = Value.str x t from r); cases e; rfl
  | byt b => obtain ⟨t, e⟩ := (show ∃ t, u = Value.bytes b t from r); cases e; rfl
  | flt b => obtain ⟨t, e⟩ := (show ∃ t, u = Value.float b t from r); cases e; rfl
  | ref a => cases (show u = Value.ref a from r); rfl
  | ty n => cases (show u = Value.type n from r); rfl

section
variable {P : Program} {w : World} {H H' : Hp} {h h' : Heap} {a C dx : Addr} {fs fs' : List (Str × V)}
theorem ins_get (hok : HOk P w H h) (e : H a = some (.ins C dx fs)) : ∃ mA, ObjM h a dx C mA ∧ (∀ f, RelO (fs.lookup f) (mA f)) ∧ PySem.Within mA (fs.map (·.1)) ∧ fs.length ≤ 1000 ∧ H dx = some (.own a) := by
  obtain ⟨d, z, ne, ob, mA, n, r, q⟩ := (show ObjOk P w H h a (.ins C dx fs) from hok a _ e)
  exact ⟨mA, ⟨ob, n, ne⟩, r, q, z, d⟩
end

/-! ### what of the text a class must have -/
structure Cls (K : PySem.W.Frag) (C : Addr) : Prop where
  pg : PySem.W.plainGet K C Str.empty = true
  hd : PySem.W.hasDictIn K C = true
  po : PySem.W.plainOver K C = true
  sa : PySem.W.findIn K (.ref C) "__setattr__" = some (some (.builtin "object.__setattr__"))
theorem Cls.get {K : PySem.W.Frag} {C : Addr} (c : Cls K C) (f : Str) : PySem.W.plainGet K C f = true := c.pg
/-- no class of it has the name -/
def NoAttr (K : PySem.W.Frag) (C : Addr) (f : Str) : Prop := PySem.W.findIn K (.ref C) f = some none
theorem NoAttr.taker {K : PySem.W.Frag} {C : Addr} {f : Str} (n : NoAttr K C f) : PySem.W.takerIn K C f = some none := by
  unfold PySem.W.takerIn
  rw [show PySem.W.findIn K (.ref C) f = some none from n]
  rfl
/-- a constant of the class -/
structure Con (K : PySem.W.Frag) (C : Addr) (f : Str) (v : V) (u : Value) : Prop where
  at_ : PySem.W.findIn K (.ref C) f = some (some u)
  rel : RelV v u
  get : PySem.W.specialIn K u "__get__" = some none
  cp : PySem.W.copiedNames.contains f = false
/-- a method: a plain def of the class or of one above it -/
structure Meth (K : PySem.W.Frag) (C : Addr) (m : Str) (f : Addr) : Prop where
  at_ : PySem.W.findIn K (.ref C) m = some (some (.ref f))
  fn : PySem.W.isFn K (.ref f) = true
  kp : PySem.W.keepIn K (.ref f) = true

section
variable {X : Cx} {pins : List (Addr × Obj)} {σ : St} {H : Hp} {s : Shared} {a C dx : Addr} {fs : List (Str × V)} {f : Str} {v : V} {A : Around} {E : Value → Shared → Prop}

theorem getattr_ok {b : Bool} {Q : Value → Shared → Prop} (I : Inv X pins σ H s) (e : H a = some (.ins C dx fs)) (c : Cls X.K C) (n : NoAttr X.K C f) (l : fs.lookup f = some v)
    (h : ∀ u s', Inv X pins σ H s' → RelV v u → Q u s') : wpAny (model X.prog X.w) A (getAttr (.ref a) f b) Q E s := by
  obtain ⟨mA, O, r, _, _, _⟩ := ins_get I.hok e
  obtain ⟨u, hu, ru⟩ := RelO.some_of (v := v) (o := mA f) (by rw [← l]; exact r f)
  exact get_map I.kIn O (c.get f) c.hd n hu (handed_of ru) (h u _ (I.tok _) ru)

theorem getmeth_ok {m : Str} {g : Addr} {pl : Sem Bool} {Q : Value × List Value → Shared → Prop} (I : Inv X pins σ H s) (e : H a = some (.ins C dx fs)) (c : Cls X.K C) (k : Meth X.K C m g) (l : fs.lookup m = none)
    (h : Q (.ref g, [.ref a]) s) : wpAny (model X.prog X.w) A (getMethod (.ref a) m pl) Q E s := by
  obtain ⟨mA, O, r, _, _, _⟩ := ins_get I.hok e
  have hn : mA m = none := RelO.none_of (by rw [← l]; exact r m)
  exact get_meth I.kIn O (c.get m) k.at_ k.fn hn h

theorem setattr_ok {y : V} {u : Value} {Q : Unit → Shared → Prop} (I : Inv X pins σ H s) (e : H a = some (.ins C dx fs)) (c : Cls X.K C) (n : NoAttr X.K C f) (hl : fs.length < 1000) (ry : RelV y u)
    (h : ∀ s', Inv X pins σ (upd H a (.ins C dx (putF f y fs))) s' → Q () s') : wpAny (model X.prog X.w) A (setAttr (.ref a) f u) Q E s := by
  obtain ⟨mA, O, r, wi, _, ho⟩ := ins_get I.hok e
  have hz : (fs.map (·.1)).length ≤ sizeLine := by rw [List.length_map, sizeLine_eq]; omega
  refine set_map I.kIn O c.sa c.po n.taker c.hd wi hz fun h' O' sb => h _ ?_
  have hd : ∃ o, h'.get? dx = some o := let ⟨o, _, _, e', _⟩ := O'.ns; ⟨o, e'⟩
  refine I.write (x := a) (e := dx) (by rw [e]; exact True.intro) (.inr ho) (fun b q hb z => (sb.2 b hb).trans z) hd ?_
  refine ⟨by rw [upd_ne O.ne]; exact ho, ?_, O.ne, O'.obj, _, O'.ns, fun g => ?_, fun g hg => ?_⟩
  · have := length_putF f y fs; omega
  · show RelO ((putF f y fs).lookup g) (if g = f then some u else mA g)
    rw [lookup_putF]
    by_cases q : g = f
    · rw [if_pos q, if_pos q]; exact ry
    · rw [if_neg q, if_neg q]; exact r g
  · by_cases q : g = f
    · rw [q]; exact (keys_putF f y fs).1
    · refine (keys_putF f y fs).2 g (wi g fun z => hg ?_)
      show (if g = f then some u else mA g) = none
      rw [if_neg q]; exact z

/-- a new instance, tracked, without attributes -/
theorem Inv.made (I : Inv X pins σ H s) : Inv X pins σ (upd (upd H s.heap.objs.size (.own (s.heap.objs.size + 1))) (s.heap.objs.size + 1) (.ins C s.heap.objs.size []))
    { s with heap := (s.heap.push PySem.W.emptyDict).push (PySem.W.instObj C s.heap.objs.size) } := by
  have e1 : (s.heap.push PySem.W.emptyDict).get? s.heap.objs.size = some PySem.W.emptyDict := Heap.get?_push_size s.heap rfl
  have e2 : ((s.heap.push PySem.W.emptyDict).push (PySem.W.instObj C s.heap.objs.size)).get? (s.heap.objs.size + 1) = some (PySem.W.instObj C s.heap.objs.size) := by
    have := Heap.get?_push_size (s.heap.push PySem.W.emptyDict) (o := PySem.W.instObj C s.heap.objs.size) rfl
    rwa [Heap.size_push] at this
  have e3 : (s.heap.push PySem.W.emptyDict).Ns s.heap.objs.size (fun _ => none) := ⟨PySem.W.emptyDict, #[], _, e1, rfl, (fun e he => absurd he (by simp)), fun _ => rfl⟩
  have I1 := I.laid (a := s.heap.objs.size) (o := .own (s.heap.objs.size + 1)) (h' := s.heap.push PySem.W.emptyDict) (t' := s.toks) (fun b u q => Heap.get?_push_of_some _ q) (Nat.le_refl _) ⟨_, e1⟩
  refine I1.laid (a := s.heap.objs.size + 1) (o := .ins C s.heap.objs.size []) (t' := s.toks) (fun b u q => Heap.get?_push_of_some _ q) (Nat.le_of_eq (Heap.size_push _ _)) ?_
  have ne : s.heap.objs.size ≠ s.heap.objs.size + 1 := Nat.ne_of_lt (Nat.lt_succ_self _)
  refine ⟨by rw [upd_ne ne, upd_same], Nat.zero_le _, ne, e2, fun _ => none, (Heap.Ns1.of_empty e3).at fun o q => Heap.get?_push_of_some _ q, fun _ => True.intro, fun y hy => absurd rfl hy⟩

/-- e.f where nothing but the object is asked: through attributeBase (super) and the last hold -/
theorem attr_of {prog : Program} {w : World} {env : Env} {e : Expr} {f : Str} {pos : Pos} {s : Shared} {Q : Value → Shared → Prop} (hb : attributeBase e f env (eval e env) = eval e env)
    (h : wpAny (model prog w) A (eval e env) (fun o s₁ => wpAny (model prog w) A (getAttr o f true) Q E s₁) E s) : wpAny (model prog w) A (eval (.Attribute e f pos) env) Q E s :=
  Attribute_any_ h (by rw [arm_eval_Attribute, hb])
end

/-! ### readings and rules -/
/-- e.f, an attribute of the instance -/
def tFld (K : PySem.W.Frag) (ta : TE) (f : Str) : TE := fun σ H Q => ta σ H fun x H1 => ∃ a C dx fs v, x = .ref a ∧ H1 a = some (.ins C dx fs) ∧ Cls K C ∧ NoAttr K C f ∧ fs.lookup f = some v ∧ Q v H1
/-- e.f, a constant of the class -/
def tCon (K : PySem.W.Frag) (ta : TE) (f : Str) : TE := fun σ H Q => ta σ H fun x H1 => ∃ a C dx fs v u, x = .ref a ∧ H1 a = some (.ins C dx fs) ∧ Cls K C ∧ Con K C f v u ∧ fs.lookup f = none ∧ Q v H1
/-- e.f = value -/
def sFld (K : PySem.W.Frag) (ta tv : TE) (f : Str) : TS := fun D σ H => tv σ H fun y H1 => ta σ H1 fun x H2 => ∃ a C dx fs, x = .ref a ∧ H2 a = some (.ins C dx fs) ∧ Cls K C ∧ NoAttr K C f ∧ fs.length < 1000 ∧
  D.nx σ (upd H2 a (.ins C dx (putF f y fs)))
/-- an augmented operator on two values -/
def InOp (X : Cx) (op : Operator) (rd : V → V → Hp → VK → Prop) : Prop :=
  ∀ (pins : List (Addr × Obj)) (s : Shared) (σ : St) (H : Hp) (x y : V) (u v : Value) (Q : VK), Inv X pins σ H s → RelV x u → RelV y v → rd x y H Q → wpAny (model X.prog X.w) X.A (inplaceOp op u v) (EP X pins σ Q) X.xe s
/-- e.f op= value -/
def sFldAug (K : PySem.W.Frag) (ta tv : TE) (rd : V → V → Hp → VK → Prop) (f : Str) : TS := fun D σ H => ta σ H fun x H1 => ∃ a C dx fs v, x = .ref a ∧ H1 a = some (.ins C dx fs) ∧ Cls K C ∧ NoAttr K C f ∧ fs.lookup f = some v ∧
  tv σ H1 fun y H2 => rd v y H2 fun z H3 => ∃ dx' fs', H3 a = some (.ins C dx' fs') ∧ fs'.length < 1000 ∧ D.nx σ (upd H3 a (.ins C dx' (putF f z fs')))

section
variable {X : Cx} {o e value : Expr} {f : Str} {pos pos' tpos : Pos} {ta tv : TE}
theorem pe_fld (he : PE X e ta) (hb : attributeBase e f X.env (eval e X.env) = eval e X.env) : PE X (.Attribute e f pos) (tFld X.K ta f) := by
  intro pins s σ H Q I h
  refine attr_of hb (thn (he pins s σ H _ I h) fun u s1 ⟨x, H1, I1, rx, a, C, dx, fs, v, ex, ea, c, n, l, q⟩ => ?_)
  subst ex
  obtain rfl : u = Value.ref a := rx
  exact getattr_ok I1 ea c n l fun u' s2 I2 ru => ⟨v, H1, I2, ru, q⟩
theorem ps_fld (ha : PE X o ta) (hv : PE X value tv) (hs : swapsWith value (some (.Attribute o f pos')) pos.line X.env = pure false) : PS X (.Assign [.Attribute o f pos'] value pos) (sFld X.K ta tv f) := by
  intro pins s σ H D I h
  refine plainObj_wpAny_Assign_Attribute (thn (hv pins s σ H _ I h) fun u s1 ⟨y, H1, I1, ry, q⟩ => thn (ha pins s1 σ H1 _ I1 q) fun ov s2 ⟨x, H2, I2, rx, a, C, dx, fs, ex, ea, c, n, l, q2⟩ => ?_) hs
  subst ex
  obtain rfl : ov = Value.ref a := rx
  exact setattr_ok I2 ea c n l ry fun s3 I3 => ⟨σ, _, I3, q2⟩
def rAdd : V → V → Hp → VK → Prop := fun x y H Q => ∃ i j, x = .int i ∧ y = .int j ∧ Q (.int (i + j)) H
def rSub : V → V → Hp → VK → Prop := fun x y H Q => ∃ i j, x = .int i ∧ y = .int j ∧ Q (.int (i - j)) H
end

/-! ### isinstance -/
section
variable {X : Cx} {pins : List (Addr × Obj)} {σ : St} {H : Hp} {s : Shared} {A : Around} {E : Value → Shared → Prop} {Q : Value → Shared → Prop} {c : Value} {b : Bool}
/-- the type of a value, as the fragment's deciders take it; for an instance its class -/
inductive TyOf (K : PySem.W.Frag) (H : Hp) : V → Value → Prop where
  | non : TyOf K H .non (.type "NoneType")
  | bl (x : Bool) : TyOf K H (.bl x) (.type "bool")
  | int (i : Int) : TyOf K H (.int i) (.type "int")
  | str (x : Str) : TyOf K H (.str x) (.type "str")
  | flt (x : UInt64) : TyOf K H (.flt x) (.type "float")
  | lst {a : Addr} {xs : List V} (e : H a = some (.lst xs)) : TyOf K H (.ref a) (.type "list")
  | frz {a : Addr} {o : Obj} {xs : List V} (e : H a = some (.frz o (.lst xs))) : TyOf K H (.ref a) (.type "list")
  | tup {a : Addr} {xs : List V} (e : H a = some (.tup xs)) : TyOf K H (.ref a) (.type "tuple")
  | dK {a : Addr} {kvs : List (Key × V)} (e : H a = some (.dK kvs)) : TyOf K H (.ref a) (.type "dict")
  | dT {a : Addr} {kvs : List (List Key × V)} (e : H a = some (.dT kvs)) : TyOf K H (.ref a) (.type "dict")
  | ins {a C dx : Addr} {fs : List (Str × V)} (e : H a = some (.ins C dx fs)) (cl : Cls K C) (ha : PySem.W.findIn K (.ref C) "__class__" = some (some (.builtin "object.__class__")))
      (hn : PySem.W.specialIn K (.builtin "object.__class__") "__get__" = some (some (.builtin "getset_descriptor.__get__"))) (htk : PySem.W.takesIn K (.builtin "object.__class__") = some true)
      (hm : PySem.W.mroIn K C (.type "object") = some true) : TyOf K H (.ref a) (.ref C)
/-- isinstance(x, c) for one class c, a built-in or an own one: kitOne's answer -/
theorem isinst_ok {x : V} {u t : Value} (I : Inv X pins σ H s) (rx : RelV x u) (ty : TyOf X.K H x t) (e : PySem.W.kitOne X.K t c = some b) (h : ∀ tk, Q (.bool b) { s with toks := tk }) :
    wpAny (model X.prog X.w) A (call (.builtin "isinstance") [u, c]) Q E s := by
  cases ty with
  | non => cases (show u = Value.none from rx); exact PySem.W.kia_one PySem.W.kitx_none I.kIn True.intro e (fun z => nomatch z) h
  | bl y => cases (show u = Value.bool y from rx); exact PySem.W.kia_one PySem.W.kitx_bool I.kIn True.intro e (fun z => nomatch z) h
  | int i => obtain ⟨t, q⟩ := (show ∃ t, u = Value.int i t from rx); cases q; exact PySem.W.kia_one PySem.W.kitx_int I.kIn True.intro e (fun z => nomatch z) h
  | str y => obtain ⟨t, q⟩ := (show ∃ t, u = Value.str y t from rx); cases q; exact PySem.W.kia_one PySem.W.kitx_str I.kIn True.intro e (fun z => nomatch z) h
  | flt y => obtain ⟨t, q⟩ := (show ∃ t, u = Value.float y t from rx); cases q; exact PySem.W.kia_one PySem.W.kitx_float I.kIn True.intro e (fun z => nomatch z) h
  | @lst a xs ea =>
    cases (show u = Value.ref a from rx)
    obtain ⟨_, _, n, _, h1⟩ := (show ObjOk X.prog X.w H s.heap a (.lst xs) from I.hok a _ ea)
    exact PySem.W.kia_one PySem.W.kitx_list I.kIn ⟨_, h1, rfl⟩ e (fun z => nomatch z) h
  | @frz a ob xs ea =>
    cases (show u = Value.ref a from rx)
    obtain ⟨_, _, _, n, _, h1⟩ := (show ObjOk X.prog X.w H s.heap a (.frz ob (.lst xs)) from I.hok a _ ea)
    exact PySem.W.kia_one PySem.W.kitx_list I.kIn ⟨_, h1, rfl⟩ e (fun z => nomatch z) h
  | @tup a xs ea =>
    cases (show u = Value.ref a from rx)
    obtain ⟨_, _, _, p⟩ := (show ObjOk X.prog X.w H s.heap a (.tup xs) from I.hok a _ ea)
    obtain ⟨o, h1, h2, _⟩ := p
    exact PySem.W.kia_one PySem.W.kitx_tuple I.kIn ⟨o, h1, h2⟩ e (fun z => nomatch z) h
  | @dK a kvs ea =>
    cases (show u = Value.ref a from rx)
    obtain ⟨_, _, vs, _, p⟩ := (show ObjOk X.prog X.w H s.heap a (.dK kvs) from I.hok a _ ea)
    obtain ⟨o, es, ep, h1, h2, _⟩ := p
    exact PySem.W.kia_one PySem.W.kitx_dict I.kIn ⟨o, h1, h2.1⟩ e (fun z => nomatch z) h
  | @dT a kvs ea =>
    cases (show u = Value.ref a from rx)
    obtain ⟨_, _, xs, _, o, es, ep, h1, h2, _⟩ := (show ObjOk X.prog X.w H s.heap a (.dT kvs) from I.hok a _ ea)
    exact PySem.W.kia_one PySem.W.kitx_dict I.kIn ⟨o, h1, h2.1⟩ e (fun z => nomatch z) h
  | @ins a C dx fs ea cl ha hn htk hm =>
    cases (show u = Value.ref a from rx)
    obtain ⟨mA, O, _⟩ := ins_get I.hok ea
    obtain ⟨od, J, _⟩ := O.look
    exact PySem.W.kia_one (PySem.W.kitx_own (cl.get _) cl.hd ha hn htk hm) I.kIn J e (fun z => nomatch z) h
end
end L2

namespace L2
open PySem PySem.Spec PyProof.Rows

/-! ### room -/
structure Room (k : Nat) (A : Around) : Prop where
  dp : A.depth + 3 * k + 5 < recursionLimit
  un : A.units + 16 * k + 200 < cLine
theorem Room.mono {j k : Nat} {A : Around} (r : Room k A) (h : j ≤ k) : Room j A := ⟨by have := r.dp; omega, by have := r.un; omega⟩
theorem Room.deeper {k : Nat} {A : Around} (r : Room (k + 1) A) (env : Env) : Room k (A.deeper env) :=
  ⟨by have := r.dp; show A.depth + 1 + 3 * k + 5 < _; omega, by have := r.un; show A.units + 3 + 16 * k + 200 < _; omega⟩
theorem make_depth {A : Around} {C : Addr} {us : List Value} {kw : List (Str × Value)} : (A.under (.builtin "type.__call__" ⟨.ref C :: us, kw⟩)).depth = A.depth + 1 := by
  first | rfl | simp [Around.under, Code.weight, Code.isCreation, Code.isGuard, Code.isCaller, Code.frames, Code.isFrame, guardIds]
theorem make_units {A : Around} {C : Addr} {us : List Value} {kw : List (Str × Value)} : (A.under (.builtin "type.__call__" ⟨.ref C :: us, kw⟩)).units = A.units + 1 := by
  first | rfl | simp [Around.under, Code.cUnits, Code.frames, Code.isFrame]
theorem Room.make {k : Nat} {A : Around} (r : Room (k + 1) A) (C : Addr) (us : List Value) (kw : List (Str × Value)) : Room k (A.under (.builtin "type.__call__" ⟨.ref C :: us, kw⟩)) :=
  ⟨by have := r.dp; rw [make_depth]; omega, by have := r.un; rw [make_units]; omega⟩
theorem Room.depth {k : Nat} {A : Around} (r : Room k A) : A.depth < recursionLimit := by have := r.dp; omega
theorem Room.units {k : Nat} {A : Around} (r : Room k A) : A.units + 64 < cLine := by have := r.un; omega
/-! ### argument lists and displays -/
def tNil : TA := fun _ H Q => Q [] H
def tCons (ta : TE) (tr : TA) : TA := fun σ H Q => ta σ H fun x H1 => tr σ H1 fun xs H2 => Q (x :: xs) H2
section
variable {X : Cx} {e : Expr} {es : List Expr} {te : TE} {t : TA} {pos : Pos}
theorem pa_nil : PA X [] tNil := fun _ _ _ _ H Q I h => Calls.spliced_nil ⟨[], H, I, .nil, h⟩
theorem pa_cons (ha : PE X e te) (hr : PA X es t) (hs : starEach (e :: es) X.env = (false, eval e X.env) :: starEach es X.env := by rfl) : PA X (e :: es) (tCons te t) := by
  intro pos pins s σ H Q I h
  rw [hs]
  show wpAny _ _ (spliced ((false, eval e X.env) :: backTo pos (starEach es X.env))) _ _ s
  refine Calls.spliced_cons (thn (ha pins s σ H _ I h) fun u s1 ⟨x, H1, I1, r1, q1⟩ => ?_)
  exact thn (hr pos pins s1 σ H1 _ I1 q1) fun us s2 ⟨xs, H2, I2, r2, q2⟩ => ⟨x :: xs, H2, I2, .cons r1 r2, q2⟩

/-- a tuple, a list of written items -/
def tTup (t : TA) : TE := fun σ H Q => t σ H fun xs H1 => xs.length ≤ sizeLine ∧ ∀ p, H1 p = none → Q (.ref p) (upd H1 p (.tup xs))
def tLst (t : TA) : TE := fun σ H Q => t σ H fun xs H1 => xs.length ≤ sizeLine ∧ ∀ p, H1 p = none → Q (.ref p) (upd H1 p (.lst xs))
theorem pe_tup {x1} (h : PA X es t) : PE X (.Tuple es x1 pos) (tTup t) := by
  intro pins s σ H Q I hq
  refine wpAny_Tuple_spliced (thn (h pos pins s σ H _ I hq) fun us s1 ⟨xs, H1, I1, r, z, q⟩ => ⟨by rw [← r.length]; exact z, ?_⟩)
  have hf : H1 s1.heap.objs.size = none := I1.hok.fresh (Nat.le_refl _)
  refine ⟨.ref s1.heap.objs.size, upd H1 s1.heap.objs.size (.tup xs), I1.laid (t' := s1.toks) (fun b u e => Heap.get?_push_of_some _ e) (Nat.le_refl _) ?_, rfl, q _ hf⟩
  exact ⟨z, us, r, ⟨_, Heap.get?_push_size _ rfl, rfl, _, rfl⟩⟩
theorem pe_lst (h : PA X es t) : PE X (.List es pos) (tLst t) := by
  intro pins s σ H Q I hq
  refine wpAny_List_spliced (thn (h pos pins s σ H _ I hq) fun us s1 ⟨xs, H1, I1, r, z, q⟩ => ⟨by rw [← r.length]; exact z, ?_⟩)
  have hf : H1 s1.heap.objs.size = none := I1.hok.fresh (Nat.le_refl _)
  refine ⟨.ref s1.heap.objs.size, upd H1 s1.heap.objs.size (.lst xs), I1.laid (t' := s1.toks) (fun b u e => Heap.get?_push_of_some _ e) (Nat.le_refl _) ?_, rfl, q _ hf⟩
  exact ⟨z, us, 0, r, Heap.get?_push_size _ rfl⟩
end

/-! ### what a def promises -/
/-- a def's promise: the bound arguments in the parameters' order, the heap, the wanted end, the wanted exception -/
abbrev Sp := List V → Hp → VK → XK → Prop
/-- how an exception lies behind a call (file 08 gives it): the callers' frames, abstract heap and state ahead of the call, the wish, the exception, the state -/
structure CXT where
  cm : Bool
  sm : Bool
  cx : List Env → Hp → Shared → XK → Value → Shared → Prop

/-- the state at a call -/
structure Env0 (P : Program) (w : World) (K : PySem.W.Frag) (mg : Str → Option Value) (base : Heap) (A : Around) (outer : List Env) (s : Shared) (H : Hp) : Prop where
  frames : A.frames = some outer
  mod : Mod K mg base
  bs : ∀ b o, base.get? b = some o → s.heap.get? b = some o ∧ H b = none
  bsz : base.objs.size ≤ s.heap.objs.size
  funs : s.heap.FunFrames base outer
  frf : ∀ b ∈ frs outer, H b = none
  hok : HOk P w H s.heap
  bare : AllBare s.gens
/-- a call's end -/
def CE (outer : List Env) (P : Program) (w : World) (H : Hp) (s : Shared) (Q : VK) (u : Value) (s' : Shared) : Prop :=
  ∃ v H', s'.os = s.os ∧ AllBare s'.gens ∧ Un (frs outer) [] H H' s.heap s'.heap ∧ HOk P w H' s'.heap ∧ RelV v u ∧ Q v H'
def CR (CX : CXT) (outer : List Env) (P : Program) (w : World) (H : Hp) (s : Shared) (Q : VK) (E : XK) (r : Result) (s' : Shared) : Prop :=
  match r with
  | .ok (.ret u) => CE outer P w H s Q u s'
  | .ok _ => False
  | .error e => CX.cx outer H s E e s'
structure FnOk (P : Program) (w : World) (K : PySem.W.Frag) (mg : Str → Option Value) (base : Heap) (CX : CXT) (k : Nat) (f : Addr) (fd : FuncData) (ps : List Str) (sp : Sp) : Prop where
  len : ∀ vs H Q E, sp vs H Q E → vs.length = ps.length
  run : ∀ (A : Around) (outer : List Env) (s : Shared) (H : Hp) (args : Args) (us : List Value) (vs : List V) (Q : VK) (E : XK), Room k A → (CX.cm = true → A.handled = none) → (CX.sm = true → Hd A H) → Env0 P w K mg base A outer s H → BindsTo s fd args (ps.zip us) → Vals vs us → sp vs H Q E →
    codeAny (model P w) A (.call (.ref f) args) (CR CX outer P w H s Q E) s
theorem Env0.make {P : Program} {w : World} {K : PySem.W.Frag} {mg : Str → Option Value} {base : Heap} {A : Around} {outer : List Env} {s : Shared} {H : Hp} (e : Env0 P w K mg base A outer s H) (C : Addr) (us : List Value) (kw : List (Str × Value)) :
    Env0 P w K mg base (A.under (.builtin "type.__call__" ⟨.ref C :: us, kw⟩)) outer s H := ⟨by first | exact e.frames | (simpa [Around.under, Code.envs, Code.isFrame, pushEnvs] using e.frames), e.mod, e.bs, e.bsz, e.funs, e.frf, e.hok, e.bare⟩
section
variable {X : Cx} {pins : List (Addr × Obj)} {σ : St} {H : Hp} {s s' : Shared}
/-- from a body: what a callee wants -/
theorem Inv.env0 (I : Inv X pins σ H s) : Env0 X.prog X.w X.K X.mg X.base X.A X.stack s H :=
  ⟨I.ok.frames, I.ok.mod, I.bs, Nat.le_trans I.ok.bsz I.sz, I.stack, I.stkFree, I.hok, I.bare⟩
/-- behind a call -/
theorem Inv.after {Q : VK} {u : Value} (I : Inv X pins σ H s) (h : CE X.stack X.prog X.w H s Q u s') : EP X pins σ Q u s' := by
  obtain ⟨v, H', os, bare, un, hok, r, q⟩ := h
  obtain ⟨hh, g, d, t, os'⟩ := s'
  obtain rfl : os' = s.os := os
  exact ⟨v, H', I.call (h' := hh) (g' := g) (d' := d) (t' := t) (ch := []) un hok bare (fun b z => absurd z (by simp)), r, q⟩
end

/-! ### calls -/
/-- f(..): the written arguments, then the defaults dvs; E: what is wanted of an exception -/
def tCall (sp : Sp) (dvs : List V) (E : XK) (t : TA) : TE := fun σ H Q => t σ H fun vs H1 => sp (vs ++ dvs) H1 Q E
/-- o.m(..) of an instance of the class at C -/
def tMeth (C : Addr) (m : Str) (sp : Sp) (dvs : List V) (E : XK) (ta : TE) (t : TA) : TE := fun σ H Q => ta σ H fun x H1 => ∃ a dx fs, x = .ref a ∧ H1 a = some (.ins C dx fs) ∧ fs.lookup m = none ∧
  t σ H1 fun vs H2 => sp (x :: (vs ++ dvs)) H2 Q E
/-- C(..): a new instance and its dict, then __init__ -/
def tMake (C : Addr) (sp : Sp) (dvs : List V) (E : XK) (t : TA) : TE := fun σ H Q => t σ H fun vs H1 => ∀ x dx, H1 x = none → H1 dx = none → dx ≠ x →
  sp (.ref x :: (vs ++ dvs)) (upd (upd H1 dx (.own x)) x (.ins C dx [])) (fun v H2 => v = .non ∧ Q (.ref x) H2) E

/-- how the parameters are bound: us the positional arguments, kw the keywords' values by name, ds the defaults that fill up -/
def Binds (K : PySem.W.Frag) (fd : FuncData) (ps : List Str) (ds : List Value) : Prop :=
  ∀ (s : Shared) (us : List Value), K.In s.heap → (us ++ ds).length = ps.length → BindsTo s fd ⟨us, []⟩ (ps.zip (us ++ ds))
/-- every parameter is given -/
theorem Binds.all {K : PySem.W.Frag} {fd : FuncData} {ps : List Str} (h : ∀ us : List Value, us.length = ps.length → bindArgs fd ⟨us, []⟩ = pure (ps.zip us)) : Binds K fd ps [] := fun s us _ hl => by
  rw [List.append_nil] at hl ⊢
  exact .of_eq (h us hl)

/-- an exception of a callee reaches what this body wants of exceptions -/
def Passes (CX : CXT) (X : Cx) (E : XK) : Prop := (CX.cm = true → X.calm = true) ∧ CX.sm = false ∧ ∀ (pins : List (Addr × Obj)) (σ : St) (H : Hp) (s : Shared) (e : Value) (s' : Shared), Inv X pins σ H s → CX.cx X.stack H s E e s' → X.xe e s'

section
variable {X : Cx} {CX : CXT} {k : Nat} {f C : Addr} {fd : FuncData} {ps : List Str} {sp : Sp} {dvs : List V} {ds : List Value} {E : XK} {x m : Str} {p pos apos : Pos} {e o : Expr} {es : List Expr} {ta : TE} {t : TA}

/-- the callee runs -/
theorem run_fn {pins : List (Addr × Obj)} {σ : St} {H : Hp} {s : Shared} {Q : VK} {us : List Value} {vs : List V} (F : FnOk X.prog X.w X.K X.mg X.base CX k f fd ps sp) (hr : Room k X.A) (hb : Binds X.K fd ps ds) (hd : Vals dvs ds) (hx : Passes CX X E)
    (I : Inv X pins σ H s) (r : Vals vs us) (h : sp (vs ++ dvs) H Q E) : wpAny (model X.prog X.w) X.A (call (.ref f) us) (EP X pins σ Q) X.xe s := by
  have r2 : Vals (vs ++ dvs) (us ++ ds) := r.append hd
  have hl : (us ++ ds).length = ps.length := by rw [← r2.length]; exact F.len _ _ _ _ h
  refine wpAny_call (codeAny_mono (F.run X.A X.stack s H ⟨us, []⟩ (us ++ ds) (vs ++ dvs) Q E hr (fun z => I.ok.hd (hx.1 z)) (fun z => by rw [hx.2.1] at z; cases z) I.env0 (hb s us I.kIn hl) r2 h) fun r s' hq => ?_)
  cases r with
  | error e => exact hx.2.2 pins σ H s e s' I hq
  | ok fl =>
    cases fl with
    | ret u => exact I.after hq
    | next => exact False.elim hq
    | brk => exact False.elim hq
    | cont => exact False.elim hq

theorem pe_call (F : FnOk X.prog X.w X.K X.mg X.base CX k f fd ps sp) (hr : Room k X.A) (hg : Gl X x) (hm : X.mg x = some (.ref f)) (hk : PySem.W.keepIn X.K (.ref f) = true) (hb : Binds X.K fd ps ds) (hd : Vals dvs ds) (hx : Passes CX X E)
    (ha : PA X (e :: es) t) (hdb : (x == ("__debug__" : Str)) = false := by decide) (he : starEach (e :: es) X.env = (false, eval e X.env) :: starEach es X.env := by rfl) (hpl : (backTo pos (starEach es X.env)).any (·.1) = false := by rfl) :
    PE X (.Call (.Name x p) (e :: es) [] pos) (tCall sp dvs E t) := by
  intro pins s σ H Q I h
  refine wpAny_Call_Name_kw (ld_glob I hg hm ?_ hdb)
  refine PySem.W.callWith_K (h₀ := X.base) I.ok.mod.kin hk (thn (ha pos pins s σ H _ I h) fun us s1 ⟨vs, H1, I1, r, q⟩ => ⟨I1.kIn, ?_⟩) he hpl
  exact run_fn F hr hb hd hx I1 r q
/-- o.m(e, ..) -/
theorem pe_meth {pl : Sem Bool} (he : PE X o ta) (c : Cls X.K C) (hm : Meth X.K C m f) (F : FnOk X.prog X.w X.K X.mg X.base CX k f fd ps sp) (hr : Room k X.A) (hb : Binds X.K fd ps ds) (hd : Vals dvs ds) (hx : Passes CX X E) (ha : PA X (e :: es) t)
    (hst : starEach (e :: es) X.env = (false, eval e X.env) :: starEach es X.env := by rfl) (hpl : (backTo pos (starEach es X.env)).any (·.1) = false := by rfl)
    (ht : eval (.Call (.Attribute o m apos) (e :: es) [] pos) X.env = (do
      let ov ← eval o X.env
      standAt apos.atName
      let (f, first) ← holding [ov] (getMethod ov m pl)
      callWith pos f first (backTo pos (starEach (e :: es) X.env)) (backToKw pos (keywordEach [] X.env))) := by rfl) :
    PE X (.Call (.Attribute o m apos) (e :: es) [] pos) (tMeth C m sp dvs E ta t) := by
  intro pins s σ H Q I h
  refine PySem.W.methodCall_KW (pl := pl) (thn (he pins s σ H _ I h) fun u s1 ⟨x, H1, I1, rx, a, dx, fs, ex, ea, l, q⟩ => ?_) ht
  subst ex
  obtain rfl : u = Value.ref a := rx
  refine getmeth_ok I1 ea c hm l ?_
  refine PySem.W.callWith_K (first := [.ref a]) (h₀ := X.base) I.ok.mod.kin hm.kp (thn (ha pos pins s1 σ H1 _ I1 q) fun us s2 ⟨vs, H2, I2, r, q2⟩ => ⟨I2.kIn, ?_⟩) hst hpl
  exact run_fn (us := .ref a :: us) (vs := .ref a :: vs) F hr hb hd hx I2 (.cons rfl r) q2
/-- o.m() -/
theorem pe_meth0 {pl : Sem Bool} (he : PE X o ta) (c : Cls X.K C) (hm : Meth X.K C m f) (F : FnOk X.prog X.w X.K X.mg X.base CX k f fd ps sp) (hr : Room k X.A) (hb : Binds X.K fd ps ds) (hd : Vals dvs ds) (hx : Passes CX X E)
    (ht : eval (.Call (.Attribute o m apos) [] [] pos) X.env = (do
      let ov ← eval o X.env
      standAt apos.atName
      let (f, first) ← holding [ov] (getMethod ov m pl)
      callWith pos f first (backTo pos (starEach [] X.env)) (backToKw pos (keywordEach [] X.env))) := by rfl) :
    PE X (.Call (.Attribute o m apos) [] [] pos) (tMeth C m sp dvs E ta tNil) := by
  intro pins s σ H Q I h
  refine PySem.W.methodCall_KW (pl := pl) (thn (he pins s σ H _ I h) fun u s1 ⟨x, H1, I1, rx, a, dx, fs, ex, ea, l, q⟩ => ?_) ht
  subst ex
  obtain rfl : u = Value.ref a := rx
  refine getmeth_ok I1 ea c hm l ?_
  exact PySem.W.callWith_K0 (first := [.ref a]) I1.kIn hm.kp (run_fn (us := [.ref a]) (vs := [.ref a]) F hr hb hd hx I1 (.cons rfl .nil) q)

/-- what a class must have to be made -/
structure Mk (K : PySem.W.Frag) (C f : Addr) : Prop where
  makes : PySem.W.makesIn K C = true
  init : PySem.W.findIn K (.ref C) "__init__" = some (some (.ref f))
  fn : PySem.W.isFn K (.ref f) = true
  kp : PySem.W.keepIn K (.ref C) = true

theorem run_make {pins : List (Addr × Obj)} {σ : St} {H : Hp} {s : Shared} {Q : VK} {us : List Value} {vs : List V} (M : Mk X.K C f) (F : FnOk X.prog X.w X.K X.mg X.base CX k f fd ps sp) (hr : Room (k + 1) X.A) (hb : Binds X.K fd ps ds) (hd : Vals dvs ds)
    (hx : Passes CX X E) (I : Inv X pins σ H s) (r : Vals vs us)
    (h : ∀ x dx, H x = none → H dx = none → dx ≠ x → sp (.ref x :: (vs ++ dvs)) (upd (upd H dx (.own x)) x (.ins C dx [])) (fun v H2 => v = .non ∧ Q (.ref x) H2) E) :
    wpAny (model X.prog X.w) X.A (call (.ref C) us) (EP X pins σ Q) X.xe s := by
  have hq := h (s.heap.objs.size + 1) s.heap.objs.size (I.hok.fresh (Nat.le_succ _)) (I.hok.fresh (Nat.le_refl _)) (Nat.ne_of_lt (Nat.lt_succ_self _))
  have I2 := Inv.made (C := C) I
  have r2 : Vals (V.ref (s.heap.objs.size + 1) :: (vs ++ dvs)) (Value.ref (s.heap.objs.size + 1) :: (us ++ ds)) := .cons rfl (r.append hd)
  have hl : (Value.ref (s.heap.objs.size + 1) :: us ++ ds).length = ps.length := by
    have e := r2.length
    rw [F.len _ _ _ _ hq] at e
    exact e.symm
  refine wpAny_call (make_map (f := f) I.kIn M.makes M.init (beq_iff_eq.mp M.fn) (codeAny_mono (F.run _ X.stack _ _ ⟨Value.ref (s.heap.objs.size + 1) :: us, []⟩ (Value.ref (s.heap.objs.size + 1) :: (us ++ ds)) _ _ E (hr.make C us []) (fun z => I.ok.hd (hx.1 z)) (fun z => by rw [hx.2.1] at z; cases z)
    (I2.env0.make C us []) (hb _ (Value.ref (s.heap.objs.size + 1) :: us) I2.kIn hl) r2 hq) fun r s' hq' => ?_))
  cases r with
  | error e => exact hx.2.2 pins σ _ _ e s' I2 hq'
  | ok fl =>
    cases fl with
    | ret u =>
      obtain ⟨v, H', I3, rv, ev, q3⟩ := I2.after hq'
      subst ev
      exact ⟨rv, ⟨V.ref (s.heap.objs.size + 1), H', I3, rfl, q3⟩⟩
    | next => exact False.elim hq'
    | brk => exact False.elim hq'
    | cont => exact False.elim hq'
theorem pe_make0 (M : Mk X.K C f) (F : FnOk X.prog X.w X.K X.mg X.base CX k f fd ps sp) (hr : Room (k + 1) X.A) (hg : Gl X x) (hm : X.mg x = some (.ref C)) (hb : Binds X.K fd ps ds) (hd : Vals dvs ds) (hx : Passes CX X E)
    (hdb : (x == ("__debug__" : Str)) = false := by decide) : PE X (.Call (.Name x p) [] [] pos) (tMake C sp dvs E tNil) := by
  intro pins s σ H Q I h
  refine wpAny_Call_Name_kw (ld_glob I hg hm ?_ hdb)
  exact PySem.W.callWith_K0 I.kIn M.kp (run_make (us := []) M F hr hb hd hx I .nil h)
end

/-! ### keywords -/
/-- the values of the keywords, from the left -/
def PK (X : Cx) (kws : List Keyword) (t : TA) : Prop :=
  ∀ (pos : Pos) (pins : List (Addr × Obj)) (s : Shared) (σ : St) (H : Hp) (Q : List V → Hp → Prop), Inv X pins σ H s → t σ H Q → wpAny (model X.prog X.w) X.A (evalAll ((backToKw pos (keywordEach kws X.env)).map (·.2))) (AP X pins σ Q) X.xe s
section
variable {X : Cx} {CX : CXT} {k : Nat} {f C : Addr} {fd : FuncData} {ps ks : List Str} {sp : Sp} {E : XK} {x m : Str} {p pos apos kpos : Pos} {e o : Expr} {es : List Expr} {kws : List Keyword} {te ta : TE} {t tk : TA} {nm : Option Str}
/-- how a call with keywords binds: g puts the positional values us and the keywords' values ws (names ks) in the parameters' order, defaults among them -/
structure KBinds (K : PySem.W.Frag) (fd : FuncData) (ps ks : List Str) (g : List Value → List Value → List Value) (gV : List V → List V → List V) : Prop where
  to : ∀ (s : Shared) (us ws : List Value), K.In s.heap → (g us ws).length = ps.length → BindsTo s fd ⟨us, ks.zip ws⟩ (ps.zip (g us ws))
  rel : ∀ {vs : List V} {us : List Value} {zs : List V} {ws : List Value}, Vals vs us → Vals zs ws → Vals (gV vs zs) (g us ws)
def tCallK (sp : Sp) (gV : List V → List V → List V) (E : XK) (t tk : TA) : TE := fun σ H Q => t σ H fun vs H1 => tk σ H1 fun zs H2 => sp (gV vs zs) H2 Q E
variable {g : List Value → List Value → List Value} {gV : List V → List V → List V}
end

/-! ### a def's body keeps its promise -/
/-- names: the parameters first -/
structure FnScope (N P : List Str) (sc : Scope) : Prop where
  kind : sc.kind = .function
  co : sc.isCoroutine = false
  gen : sc.isGenerator = false
  nd : N.Nodup
  pre : N.take P.length = P
  par : ∀ x ∈ P, sc.names.lookup x = some .local ∨ sc.names.lookup x = some .cell
  nofree : ∀ y ∈ sc.names, y.2 ≠ .free

theorem bindL_out {kindOf : Str → Option NameKind} {x : Str} : ∀ {binds : List (Str × Value)} {m : Str → Option Value}, (∀ v, (x, v) ∉ binds) → bindL kindOf binds m x = m x
  | [], _, _ => rfl
  | (n, v) :: r, m, h => by
    unfold bindL
    rw [bindL_out fun w hw => h w (List.mem_cons_of_mem _ hw)]
    split
    · have : x ≠ n := by rintro rfl; exact h v List.mem_cons_self
      simp [this]
    · rfl
theorem bindC_out {kindOf : Str → Option NameKind} {x : Str} : ∀ {binds : List (Str × Value)} {m : Str → Option Value}, (∀ v, (x, v) ∉ binds) → bindC kindOf binds m x = m x
  | [], _, _ => rfl
  | (n, v) :: r, m, h => by
    unfold bindC
    rw [bindC_out fun w hw => h w (List.mem_cons_of_mem _ hw)]
    split
    · rfl
    · have : x ≠ n := by rintro rfl; exact h v List.mem_cons_self
      simp [this]
theorem bindL_get {kindOf : Str → Option NameKind} {x : Str} {v : Value} : ∀ {P : List Str} {vs : List Value} {i : Nat} {m : Str → Option Value}, P.Nodup → P[i]? = some x → vs[i]? = some v → kindOf x = some .local →
    bindL kindOf (P.zip vs) m x = some v
  | [], _, _, _, _, h, _, _ => by simp at h
  | _ :: _, [], _, _, _, _, h, _ => by simp at h
  | p :: P, w :: vs, 0, m, nd, h1, h2, hk => by
    simp at h1 h2; subst h1; subst h2
    show bindL kindOf ((p, w) :: P.zip vs) m p = _
    unfold bindL
    rw [bindL_out fun v hv => (List.nodup_cons.mp nd).1 (List.of_mem_zip hv).1, if_pos hk]
    simp
  | p :: P, w :: vs, i + 1, m, nd, h1, h2, hk => by
    show bindL kindOf ((p, w) :: P.zip vs) m x = _
    unfold bindL
    exact bindL_get (i := i) (List.nodup_cons.mp nd).2 (by simpa using h1) (by simpa using h2) hk
theorem bindC_get {kindOf : Str → Option NameKind} {x : Str} {v : Value} : ∀ {P : List Str} {vs : List Value} {i : Nat} {m : Str → Option Value}, P.Nodup → P[i]? = some x → vs[i]? = some v → kindOf x ≠ some .local →
    bindC kindOf (P.zip vs) m x = some v
  | [], _, _, _, _, h, _, _ => by simp at h
  | _ :: _, [], _, _, _, _, h, _ => by simp at h
  | p :: P, w :: vs, 0, m, nd, h1, h2, hk => by
    simp at h1 h2; subst h1; subst h2
    show bindC kindOf ((p, w) :: P.zip vs) m p = _
    unfold bindC
    rw [bindC_out fun v hv => (List.nodup_cons.mp nd).1 (List.of_mem_zip hv).1, if_neg hk]
    simp
  | p :: P, w :: vs, i + 1, m, nd, h1, h2, hk => by
    show bindC kindOf ((p, w) :: P.zip vs) m x = _
    unfold bindC
    exact bindC_get (i := i) (List.nodup_cons.mp nd).2 (by simpa using h1) (by simpa using h2) hk

/-- the names' values at the entry -/
def start (N : List Str) (vs : List V) : St := vs.map some ++ List.replicate (N.length - vs.length) none

/-- the context of a def's body, at its entry; an exception leaves the frame, then lies as CX says -/
def cxOf (CX : CXT) (P : Program) (w : World) (K : PySem.W.Frag) (mg : Str → Option Value) (base : Heap) (N : List Str) (qual : Str) (scope : Scope) (f : Addr) (cd : Value) (A : Around) (outer : List Env) (s : Shared) (H : Hp) (E : XK) : Cx where
  prog := P
  w := w
  K := K
  mg := mg
  base := base
  A := A.deeper (envOfC qual scope s.heap.objs.size f cd)
  N := N
  s₀ := s
  H₀ := H
  env := envOfC qual scope s.heap.objs.size f cd
  outer := outer
  stack := envOfC qual scope s.heap.objs.size f cd :: outer
  ex := []
  calm := CX.cm
  suit := CX.sm
  fn := fun _ => true
  pn := []
  xe := fun e s' => wpAny (model P w) (A.deeper (envOfC qual scope s.heap.objs.size f cd)) (leaving (envOfC qual scope s.heap.objs.size f cd) e) (fun _ s'' => CX.cx outer H s E e s'') (fun e' s'' => CX.cx outer H s E e' s'') s'

theorem cell_has {sc : Scope} {n : Nat} {x : Str} (h : sc.names.lookup x = some .cell) : ∃ c, (cellsFrom n sc.names []).lookup x = some c := by
  have q := PySem.W.cellsFrom_some sc.names n [] (.inl h)
  exact Option.isSome_iff_exists.mp q

theorem inv_start {CX : CXT} {P : Program} {w : World} {K : PySem.W.Frag} {mg : Str → Option Value} {base : Heap} {N ps : List Str} {qual : Str} {scope : Scope} {f : Addr} {cd : Value} {A : Around} {outer : List Env} {s s1 : Shared} {H : Hp} {E : XK} {us : List Value} {vs : List V}
    (S : FnScope N ps scope) (hd : CX.cm = true → A.handled = none) (hsm : CX.sm = true → Hd A H) (e0 : Env0 P w K mg base A outer s H) (hl : vs.length = ps.length) (r : Vals vs us)
    (x : InCallC s s.heap.objs.size (bindL (envOfC qual scope s.heap.objs.size f cd).kindOf (ps.zip us) fun _ => none) (cellsFrom (s.heap.objs.size + 1) scope.names []) (bindC (envOfC qual scope s.heap.objs.size f cd).kindOf (ps.zip us) fun _ => none) s1) :
    Inv (cxOf CX P w K mg base N qual scope f cd A outer s H E) [] (start N vs) H s1 := by
  have hpl : ps.length ≤ N.length := by have := congrArg List.length S.pre; rw [List.length_take] at this; omega
  obtain ⟨h1, tk, rfl, hk⟩ := x.done
  have noA : ∀ b : Addr, b ∉ (cxOf CX P w K mg base N qual scope f cd A outer s H E).ex := fun b z => absurd (show b ∈ ([] : List Addr) from z) (by simp)
  refine ⟨⟨e0.mod, S.kind, rfl, rfl, Nat.le_refl _, fun y z c h1 h2 => ?_, fun y hy => ?_, fun y c _ h => ?_, hd, Around.frames_deeper e0.frames, .inr ⟨rfl, rfl⟩, fun b z => absurd z (noA b), e0.bs, e0.bsz, fun b _ _ => noA b, fun b z => absurd z (noA b), e0.funs, e0.frf, hsm⟩,
    rfl, e0.bare, Un.kept hk, ⟨_, x.toInCall.ns, fun i y v h1 h2 h3 => ?_⟩, fun y c h => ⟨_, x.cell y c h⟩, e0.hok.fresh (Nat.le_refl _), fun y c h => ?_, fun p hp => absurd (show p ∈ ([] : List (Addr × Obj)) from hp) (by simp), e0.hok.kept hk, ?_⟩
  · exact name_of_addr x.apart (PySem.mem_of_lookup h1) (PySem.mem_of_lookup h2)
  · have hy : scope.names.lookup y = some .cell ∨ scope.names.lookup y = some .free := hy
    rcases hy with hy | hy
    · exact cell_has hy
    · exact absurd rfl (S.nofree _ (PySem.mem_of_lookup hy))
  · exact Nat.le_of_lt (x.above y c (PySem.mem_of_lookup h))
  · have hi : i < vs.length := by
      unfold start at h2
      by_cases hi : i < vs.length
      · exact hi
      · rw [List.getElem?_append_right (by simpa using hi)] at h2
        rw [List.getElem?_replicate] at h2
        split at h2 <;> cases h2
    have ha : vs[i]? = some v := by
      unfold start at h2
      rw [List.getElem?_append_left (by simpa using hi), List.getElem?_map] at h2
      cases e : vs[i]? with
      | none => rw [e] at h2; cases h2
      | some a => rw [e] at h2; cases h2; rfl
    obtain ⟨u, hu, rv⟩ := r.get ha
    have hp : ps[i]? = some y := by
      rw [← S.pre, List.getElem?_take_of_lt (by omega)]; exact h1
    have ndP : ps.Nodup := by rw [← S.pre]; exact S.nd.sublist (List.take_sublist _ _)
    refine ⟨u, rv, ?_⟩
    rcases S.par y (List.mem_of_getElem? hp) with k | k
    · exact .inl ⟨k, bindL_get ndP hp hu k⟩
    · obtain ⟨c, e⟩ := cell_has (n := s.heap.objs.size + 1) k
      refine .inr ⟨.inl k, c, e, ?_⟩
      have q := x.cell y c e
      rw [bindC_get ndP hp hu (by show scope.names.lookup y ≠ _; rw [k]; decide)] at q
      exact q
  · exact e0.hok.fresh (Nat.le_of_lt (x.above y c (PySem.mem_of_lookup h)))
  · unfold start
    show _ = N.length
    rw [List.length_append, List.length_map, List.length_replicate]
    omega

/-- THE RULE: a def (or a method) of the text, by its body. The body's reading t is chosen for each entry; it is run at the parameters' values -/
theorem fn_of {CX : CXT} {P : Program} {w : World} {K : PySem.W.Frag} {mg : Str → Option Value} {base : Heap} {k : Nat} {f : Addr} {name qual : Str} {params : Arguments} {body : List Stmt} {scope : Scope} {dV kV doc pm cdv ct oc : Value} {an od : Option Addr}
    {osl : Array (Option Value)} {N ps : List Str} {sp : Sp} (lk : K.lookup f = some ⟨oc, od, .func (PySem.W.fnOf name qual params body scope dV kV doc pm an cdv ct), osl⟩) (hcd : PySem.W.codeIn K cdv qual = true) (S : FnScope N ps scope)
    (len : ∀ vs H Q E, sp vs H Q E → vs.length = ps.length)
    (hbody : ∀ (A : Around) (outer : List Env) (s : Shared) (H : Hp) (vs : List V) (Q : VK) (E : XK), Room k (A.deeper (envOfC qual scope s.heap.objs.size f cdv)) → sp vs H Q E →
      ∃ t, PSs (cxOf CX P w K mg base N qual scope f cdv A outer s H E) body t ∧ t { nx := fun _ H' => Q .non H', rt := Q } (start N vs) H) :
    FnOk P w K mg base CX (k + 1) f (PySem.W.fnOf name qual params body scope dV kV doc pm an cdv ct) ps sp := by
  refine ⟨len, fun A outer s H args us vs Q E hr hcm hsm e0 hb r hsp => ?_⟩
  have hl := len _ _ _ _ hsp
  have KX : K.In s.heap := e0.mod.kin.keeps fun b o e => (e0.bs b o e).1
  have lim : s.heap.NoLimit := e0.mod.nolimit.keeps fun b o e => (e0.bs b o e).1
  have hkind : ∀ y ∈ ps.zip us, scope.names.lookup y.1 = some .local ∨ (scope.names.lookup y.1 = some .cell ∧ ((cellsFrom (s.heap.objs.size + 1) scope.names []).lookup y.1).isSome = true) := fun ⟨n, v⟩ hy => by
    rcases S.par n (List.of_mem_zip hy).1 with q | q
    · exact .inl q
    · exact .inr ⟨q, PySem.W.cellsFrom_some _ _ _ (.inl q)⟩
  refine codeAny_call_function hr.depth (KX _ _ lk) rfl S.co S.gen rfl (PySem.W.codeRec_of KX hcd) (hb _ _ _ _ ?_)
  refine wpAny_newFunctionEnv_cells S.kind hkind fun env he s1 x => ?_
  subst he
  refine ⟨lim.keeps x.toInCall.keep, codeAny_func ?_⟩
  obtain ⟨t, ht, hq⟩ := hbody A outer s H vs Q E (hr.deeper _) hsp
  have I : Inv (cxOf CX P w K mg base N qual scope f cdv A outer s H E) [] (start N vs) H s1 := inv_start S hcm hsm e0 hl r x
  refine wpAny_mono (ht [] s1 (start N vs) H _ I hq) (fun fl s' hs => ?_) fun e s' hs => hs
  have fin : ∀ {σ' : St} {H' : Hp} {v : V} {u : Value}, Inv (cxOf CX P w K mg base N qual scope f cdv A outer s H E) [] σ' H' s' → RelV v u → Q v H' → CE outer P w H s Q u s' :=
    fun {σ' H' v u} J rv q => ⟨v, H', J.os, J.bare, J.base, J.hok, rv, q⟩
  cases fl with
  | ret u =>
    obtain ⟨v, σ', H', J, rv, q⟩ := hs
    exact fin J rv q
  | next =>
    obtain ⟨σ', H', J, q⟩ := hs
    exact fin (v := V.non) (u := Value.none) J rfl q
  | brk =>
    obtain ⟨_, _, _, q⟩ := hs
    exact False.elim q
  | cont =>
    obtain ⟨_, _, _, q⟩ := hs
    exact False.elim q
end L2

namespace L2
open PySem PySem.Spec PyProof.Rows
section
variable {X : Cx} {x : Str} {p pos : Pos} {e : Expr} {es : List Expr} {t : TA} {id T : String} {r : List V → Hp → VK → Prop}

def tCB (r : List V → Hp → VK → Prop) (t : TA) : TE := fun σ H Q => t σ H fun vs H1 => r vs H1 Q
/-- f(e, ..), f a built-in function -/
theorem pe_callB (hc : CallR X (.builtin id) r) (hg : Gl X x) (hm : X.mg x = none) (hv : bootBuiltins x = some (.builtin id)) (ha : PA X (e :: es) t) (hn : x ≠ "__name__" := by decide) (hdb : (x == ("__debug__" : Str)) = false := by decide)
    (he : starEach (e :: es) X.env = (false, eval e X.env) :: starEach es X.env := by rfl) (hpl : (backTo pos (starEach es X.env)).any (·.1) = false := by rfl) : PE X (.Call (.Name x p) (e :: es) [] pos) (tCB r t) := by
  intro pins s σ H Q I h
  refine wpAny_Call_Name_kw (ld_blt I hg hm hv ?_ hn hdb)
  exact PyProof.Rows.callWith_builtin1 (thn (ha pos pins s σ H _ I h) fun us s1 ⟨vs, H1, I1, r1, q1⟩ => hc pins s1 σ H1 vs us Q I1 r1 q1) he hpl
end
end L2

namespace HT
open PySem PyProof.Rows

/-- t < u of tuples of ints -/
def lexLt : List Int → List Int → Bool
  | [], [] => false
  | [], _ :: _ => true
  | _ :: _, [] => false
  | x :: xs, y :: ys => if x = y then lexLt xs ys else decide (x < y)
section
open PySem.SeqAt
open PySem.AutoSeq1 (wpAny_loadPart')
open PySem.MeetsSeq PySem.MeetsSeq2 PySem.MeetsSeq3

end

section
variable {prog : Program} {w : World} {A : Around} {E : Value → Shared → Prop} {s : Shared}

/-! ### t[a:b], not the whole -/
/-- a slice's bound as a place among n (d where it is left out) -/
def sIx (n d : Nat) : Option Int → Nat
  | none => d
  | some v => if v < 0 then (v + (n : Int)).toNat else min v.toNat n
theorem sIx_nat (n d k : Nat) : sIx n d (some (k : Int)) = min k n := by
  show (if (k : Int) < 0 then ((k : Int) + (n : Int)).toNat else min (k : Int).toNat n) = min k n
  rw [if_neg (by omega), Int.toNat_natCast]
theorem sIx_le (n d : Nat) (hd : d ≤ n) (o : Option Int) : sIx n d o ≤ n := by
  cases o with
  | none => exact hd
  | some v =>
    show (if v < 0 then (v + (n : Int)).toNat else min v.toNat n) ≤ n
    by_cases hv : v < 0
    · rw [if_pos hv]; omega
    · rw [if_neg hv]; exact Nat.min_le_right _ _
theorem clip_eq (v : Int) (n d : Nat) : (if v < 0 then max (v + (n : Int)) 0 else min v (n : Int)) = ((sIx n d (some v) : Nat) : Int) := by
  show (if v < 0 then max (v + (n : Int)) 0 else min v (n : Int)) = (((if v < 0 then (v + (n : Int)).toNat else min v.toNat n) : Nat) : Int)
  by_cases hv : v < 0
  · simp only [if_pos hv]; omega
  · simp only [if_neg hv]; omega
theorem adjust_gen (lo hi : Option Int) (n : Nat) : Builtin.Slice.sliceAdjust lo hi 1 (n : Int) = (((sIx n 0 lo : Nat) : Int), ((sIx n n hi : Nat) : Int)) := by
  have h1 : ¬ ((1 : Int) < 0) := by omega
  unfold Builtin.Slice.sliceAdjust
  simp only [h1, if_false]
  refine Prod.ext ?_ ?_
  · cases lo with
    | none => rfl
    | some v => exact clip_eq v n 0
  · cases hi with
    | none => rfl
    | some v => exact clip_eq v n n
theorem places_gen (i j : Nat) : Builtin.Slice.slicePlaces (i : Int) (j : Int) 1 = j - i := by
  unfold Builtin.Slice.slicePlaces
  have h1 : (1 : Int) > 0 := by omega
  simp only [h1, if_true, Int.ediv_one]
  split <;> omega
theorem slicePart_ {v : Value} {o : Option Int} {Q : Option Int → Shared → Prop} (p : IsPart v o) (h : Q o s) : wpAny (model prog w) A (Builtin.Slice.slicePartIndex v) Q E s := by
  cases p with
  | none => exact slicePart_none h
  | int i t => exact slicePart_int h
theorem sliceApplied_gen {sl : Addr} {vl vu : Value} {lo hi : Option Int} {n : Nat} {Q : Int × Int × Nat → Shared → Prop} (hs : s.heap.IsSliceOf sl vl vu .none) (pl : IsPart vl lo) (pu : IsPart vu hi)
    (h : Q (((sIx n 0 lo : Nat) : Int), 1, sIx n n hi - sIx n 0 lo) s) : wpAny (model prog w) A (Builtin.Slice.sliceApplied (.ref sl) (pure (n : Int))) Q E s := by
  obtain ⟨os, hos, hcs, hds⟩ := id hs
  unfold Builtin.Slice.sliceApplied Builtin.Slice.sliceFields
  refine wpAny_bind (wpAny_bind (wpAny_field hos hds (x := vl) rfl (wpAny_bind (wpAny_field hos hds (x := vu) rfl (wpAny_bind (wpAny_field hos hds (x := .none) rfl (wpAny_pure ?_)))))))
  refine wpAny_bind (slicePart_none ?_)
  show wpAny _ _ (if ((1 : Int) == 0) = true then _ else _) _ _ s
  rw [if_neg (by decide)]
  refine wpAny_bind (slicePart_ pl (wpAny_bind (slicePart_ pu (wpAny_bind (wpAny_pure ?_)))))
  show wpAny _ _ (match Builtin.Slice.sliceAdjust lo hi 1 (n : Int) with | (lo, hi) => pure (lo, (1 : Int), Builtin.Slice.slicePlaces lo hi 1)) _ _ s
  rw [adjust_gen lo hi n]
  show wpAny _ _ (pure (((sIx n 0 lo : Nat) : Int), (1 : Int), Builtin.Slice.slicePlaces ((sIx n 0 lo : Nat) : Int) ((sIx n n hi : Nat) : Int) 1)) _ _ s
  rw [places_gen]
  exact wpAny_pure h
theorem pick_gen (xs : Array Value) (i k : Nat) : ((List.range k).filterMap fun (m : Nat) => xs[((i : Int) + (m : Int) * 1).toNat]?).toArray = ((xs.toList.drop i).take k).toArray := by
  have e : (fun (m : Nat) => xs[((i : Int) + (m : Int) * 1).toNat]?) = fun m => xs[i + m]? := by
    funext m
    have : ((i : Int) + (m : Int) * 1).toNat = i + m := by omega
    rw [this]
  rw [e]
  have := pick_run xs i k
  rw [List.filterMap_map] at this
  have e2 : ((fun x => xs[x]?) ∘ fun x => i + x) = fun m => xs[i + m]? := rfl
  rw [e2] at this
  rw [this]

theorem getItem_tuple_cut {t sl : Addr} {items : Array Value} {vl vu : Value} {lo hi : Option Int} {Q : Value → Shared → Prop} (ht : IsTup s.heap t items) (hs : s.heap.IsSliceOf sl vl vu .none) (pl : IsPart vl lo) (pu : IsPart vu hi)
    (hw : ¬ (sIx items.size 0 lo = 0 ∧ sIx items.size items.size hi = items.size))
    (h : Q (.ref s.heap.objs.size) { s with heap := s.heap.push { cls := .type "tuple", data := .seq ((items.toList.drop (sIx items.size 0 lo)).take (sIx items.size items.size hi - sIx items.size 0 lo)).toArray } })
    (hsz : items.size ≤ sizeLine) : wpAny (model prog w) A (getItem (.ref t) (.ref sl)) Q E s := by
  have htake : sizeOk (.seq ((items.toList.drop (sIx items.size 0 lo)).take (sIx items.size items.size hi - sIx items.size 0 lo)).toArray) := by
    show ((items.toList.drop (sIx items.size 0 lo)).take (sIx items.size items.size hi - sIx items.size 0 lo)).toArray.size ≤ sizeLine
    rw [List.size_toArray, List.length_take, List.length_drop, Array.length_toList]
    omega
  have hj : sIx items.size items.size hi ≤ items.size := sIx_le _ _ (Nat.le_refl _) hi
  obtain ⟨os, hos, hcs, hds⟩ := id hs
  have hTs : s.TypeIs (.ref sl) "slice" := ⟨os, hos, hcs⟩
  unfold getItem
  try with_reducible refine wpAny_holding ?_
  first | refine wpAny_bind (wpAny_pure ?_) | skip
  refine wpAny_bind (wpAny_sequenceKey ht.typeIs (by decide) ?_)
  refine wpAny_bind (wpAny_callSpecial?_slot (name := Str.ofString "__getitem__") ht.typeIs PyProof.Rows.slot_tuple_getitem
    (wpAny_call_entry PyProof.Rows.slot_tuple_getitem ht.typeIs entry_tuple_getitem ?_ (args_tuple_getitem _ _)))
  show wpAny _ _ (Builtin.Tuple.tupleItemsOf (.ref t) >>= _) _ _ s
  refine wpAny_bind (tupleItemsOf_ ht ?_)
  refine wpAny_bind (wpAny_typeOf hTs ?_)
  rw [if_pos (by decide)]
  refine wpAny_bind (sliceApplied_gen hs pl pu ?_)
  have hno : ¬ ((((sIx items.size 0 lo : Nat) : Int) == 0 && (1 : Int) == 1 && (sIx items.size items.size hi - sIx items.size 0 lo) == items.size) = true) := by
    intro q
    rw [Bool.and_eq_true, Bool.and_eq_true] at q
    have q1 : ((sIx items.size 0 lo : Nat) : Int) = 0 := eq_of_beq q.1.1
    have q2 : sIx items.size items.size hi - sIx items.size 0 lo = items.size := eq_of_beq q.2
    exact hw ⟨by omega, by omega⟩
  show wpAny _ _ (if (((sIx items.size 0 lo : Nat) : Int) == 0 && (1 : Int) == 1 && (sIx items.size items.size hi - sIx items.size 0 lo) == items.size) = true then _ else _) _ _ s
  rw [if_neg hno, pick_gen]
  first
    | exact wpAny_bind (m := Builtin.Tuple.tupleExact _) (wpAny_newObj_type (wpAny_pure ⟨_, rfl, wpAny_pure h⟩) htake)
    | exact wpAny_bind (m := Builtin.Tuple.tupleExact _) (wpAny_newObj_type (wpAny_bind (wpAny_pure (wpAny_pure ⟨_, rfl, wpAny_pure h⟩))) htake)
    | exact wpAny_bind (wpAny_bind (m := Builtin.Tuple.tupleExact _) (wpAny_newObj_type (wpAny_pure (wpAny_pure ⟨_, rfl, wpAny_pure h⟩)) htake))
    | exact wpAny_bind (wpAny_bind (m := Builtin.Tuple.tupleExact _) (wpAny_newObj_type (wpAny_pure ⟨_, rfl, wpAny_pure h⟩) htake))
end
end HT

namespace L2
open PySem PySem.Spec PyProof.Rows

/-! ### the parts of a slice -/
abbrev TO := St → Hp → (Option Int → Hp → Prop) → Prop
/-- a slice's part (left out, or an int) -/
def PO (X : Cx) (e : Option Expr) (t : TO) : Prop :=
  ∀ (pins : List (Addr × Obj)) (s : Shared) (σ : St) (H : Hp) (Q : Option Int → Hp → Prop), Inv X pins σ H s → t σ H Q →
    wpAny (model X.prog X.w) X.A (evalPart e X.env) (fun u s' => ∃ o H', Inv X pins σ H' s' ∧ IsPart u o ∧ Q o H') X.xe s
def tNoPart : TO := fun _ H Q => Q none H
def tPart (t : TE) : TO := fun σ H Q => t σ H fun x H1 => ∃ i, x = .int i ∧ Q (some i) H1

section
variable {X : Cx} {e : Expr} {te : TE} {lo hi : Option Expr} {tl th : TO} {pos p2 : Pos}

theorem po_none : PO X none tNoPart := by
  intro pins s σ H Q I h
  rw [evalPart_none]
  exact wpAny_pure ⟨none, H, I, .none, h⟩
theorem po_some (h : PE X e te) : PO X (some e) (tPart te) := by
  intro pins s σ H Q I hw
  rw [evalPart_some]
  refine thn (h pins s σ H _ I hw) fun u s1 ⟨x, H1, I1, r1, q1⟩ => ?_
  obtain ⟨i, rfl, q⟩ := q1
  obtain ⟨t, rfl⟩ := r1
  exact ⟨some i, H1, I1, .int i t, q⟩

/-- what a slice of a value is, by values: the slice object stands at sl -/
def SlR (X : Cx) (r : V → Option Int → Option Int → Hp → VK → Prop) : Prop :=
  ∀ (pins : List (Addr × Obj)) (s : Shared) (σ : St) (H : Hp) (x : V) (v vl vu : Value) (lo hi : Option Int) (sl : Addr) (Q : VK), Inv X pins σ H s → RelV x v → s.heap.IsSliceOf sl vl vu .none → IsPart vl lo → IsPart vu hi → r x lo hi H Q →
    ∃ T id, typeLookup (.type T) "__getitem__" = pure (some (.builtin id)) ∧ s.TypeIs v T ∧ wpAny (model X.prog X.w) X.A (getItem v (.ref sl)) (EP X pins σ Q) X.xe s
def tSl (r : V → Option Int → Option Int → Hp → VK → Prop) (te : TE) (tl th : TO) : TE := fun σ H Q => te σ H fun x H1 => tl σ H1 fun l H2 => th σ H2 fun u H3 => r x l u H3 Q
/-- a[lo:hi], any a -/
theorem pe_slice {r : V → Option Int → Option Int → Hp → VK → Prop} (hr : SlR X r) (he : PE X e te) (hl : PO X lo tl) (hu : PO X hi th) : PE X (.Subscript e (.Slice lo hi none p2) pos) (tSl r te tl th) := by
  intro pins s σ H Q I h
  refine Subscript_ (thn (he pins s σ H _ I h) fun v s1 ⟨x, H1, I1, r1, q1⟩ => ?_)
  refine wpAny_Slice (thn (hl pins s1 σ H1 _ I1 q1) fun vl s2 ⟨l, H2, I2, pl, q2⟩ => thn (hu pins s2 σ H2 _ I2 q2) fun vu s3 ⟨u, H3, I3, pu, q3⟩ => ?_)
  rw [evalPart_none]
  refine wpAny_pure ?_
  have I4 : Inv X pins σ H3 { s3 with heap := s3.heap.push { cls := .type "slice", data := .fields #[vl, vu, .none] } } := I3.kept (t' := s3.toks) fun b ob q => Heap.get?_push_of_some _ q
  obtain ⟨T, id, hT, ht, hg⟩ := hr pins { s3 with heap := s3.heap.push { cls := .type "slice", data := .fields #[vl, vu, .none] } } σ H3 x v vl vu l u s3.heap.objs.size Q I4 r1 (Heap.IsSliceOf.new ..) pl pu q3
  show wpAny (model X.prog X.w) X.A (subscriptTail e (.Slice lo hi none p2) v (.ref s3.heap.objs.size)) (EP X pins σ Q) X.xe { s3 with heap := s3.heap.push { cls := .type "slice", data := .fields #[vl, vu, .none] } }
  exact tail_any (ops := [.ref s3.heap.objs.size, v]) ht hT hg (by with_unfolding_all rfl)

/-- the items of xs[lo:hi] -/
def cutV (xs : List V) (lo hi : Option Int) : List V := (xs.drop (HT.sIx xs.length 0 lo)).take (HT.sIx xs.length xs.length hi - HT.sIx xs.length 0 lo)
theorem cutV_length (xs : List V) (lo hi : Option Int) : (cutV xs lo hi).length ≤ xs.length := by
  unfold cutV
  rw [List.length_take, List.length_drop]
  omega
/-- t[lo:hi], not the whole of it (the whole would be t itself) -/
def rSlT (K : PySem.W.Frag) : V → Option Int → Option Int → Hp → VK → Prop := fun x lo hi H Q => ∃ a xs, x = .ref a ∧ SqT K H a xs ∧
  ¬ (HT.sIx xs.length 0 lo = 0 ∧ HT.sIx xs.length xs.length hi = xs.length) ∧ ∀ p, H p = none → Q (.ref p) (upd H p (.tup (cutV xs lo hi)))
theorem sl_tup : SlR X (rSlT X.K) := by
  intro pins s σ H x v vl vu lo hi sl Q I rx hs pl pu h
  obtain ⟨a, xs, rfl, hx, hw, q⟩ := h
  cases rx
  obtain ⟨its, r, ht, hz⟩ := I.tuple hx
  have hlen : its.toArray.size = xs.length := by rw [List.size_toArray]; exact r.length.symm
  refine ⟨"tuple", _, PyProof.Rows.slot_tuple_getitem.lookup, ht.typeIs, ?_⟩
  refine HT.getItem_tuple_cut ht hs pl pu (by rw [hlen]; exact hw) ?_ (by rw [hlen]; exact hz)
  rw [hlen]
  refine ⟨.ref s.heap.objs.size, _, I.laid (t' := s.toks) (o := .tup (cutV xs lo hi)) (fun b ob q => Heap.get?_push_of_some _ q) (Nat.le_refl _) ?_, rfl, q _ (I.hok.fresh (Nat.le_refl _))⟩
  exact ⟨Nat.le_trans (cutV_length xs lo hi) hz, _, (r.drop (HT.sIx xs.length 0 lo)).take (HT.sIx xs.length xs.length hi - HT.sIx xs.length 0 lo), IsTup.new _ _⟩

/-! ### t < u, t + u -/
def rLtT (K : PySem.W.Frag) : R2 := fun x y H Q => ∃ a b ns ms, x = .ref a ∧ y = .ref b ∧ SqT K H a (ns.map V.int) ∧ SqT K H b (ms.map V.int) ∧ Q (.bl (HT.lexLt ns ms)) H
/-- t + u, t not empty: u empty gives t itself -/
def rCatT (K : PySem.W.Frag) : R2 := fun x y H Q => ∃ a b xs ys, x = .ref a ∧ y = .ref b ∧ SqT K H a xs ∧ SqT K H b ys ∧ xs ≠ [] ∧ xs.length + ys.length ≤ sizeLine ∧
  (ys = [] → Q (.ref a) H) ∧ (ys ≠ [] → ∀ p, H p = none → Q (.ref p) (upd H p (.tup (xs ++ ys))))
end
end L2

namespace L2
open PySem PySem.Spec PyProof.Rows

/-! ### places -/
/-- the place that an index of any sign means -/
def ixN (n : Nat) (i : Int) : Option Nat := if 0 ≤ i then (if i < n then some i.toNat else none) else if -(n : Int) ≤ i then some (i + n).toNat else none
def atI {α : Type} (xs : List α) (i : Int) : Option α := (ixN xs.length i).bind fun j => xs[j]?
theorem ixN_seq {n : Nat} {i : Int} {j : Nat} (h : ixN n i = some j) : seqIndex? i n = some j ∧ j < n ∧ -(n : Int) ≤ i ∧ i < n := by
  unfold ixN at h
  by_cases h0 : 0 ≤ i
  · rw [if_pos h0] at h
    by_cases h1 : i < n
    · rw [if_pos h1] at h
      have e : i.toNat = j := Option.some.inj h
      exact ⟨by rw [seqIndex_of h0 h1, e], by omega, by omega, h1⟩
    · rw [if_neg h1] at h; cases h
  · rw [if_neg h0] at h
    by_cases h1 : -(n : Int) ≤ i
    · rw [if_pos h1] at h
      have e : (i + n).toNat = j := Option.some.inj h
      exact ⟨by rw [seqIndex_neg (by omega) h1, e], by omega, h1, by omega⟩
    · rw [if_neg h1] at h; cases h
theorem atI_get {α : Type} {xs : List α} {i : Int} {v : α} (h : atI xs i = some v) : ∃ j, seqIndex? i xs.length = some j ∧ xs[j]? = some v ∧ j < xs.length ∧ -(xs.length : Int) ≤ i ∧ i < xs.length := by
  unfold atI at h
  cases e : ixN xs.length i with
  | none => rw [e] at h; cases h
  | some j =>
    rw [e] at h
    obtain ⟨h1, h2, h3, h4⟩ := ixN_seq e
    exact ⟨j, h1, h, h2, h3, h4⟩
theorem atI_nat {α : Type} {xs : List α} {j : Nat} {v : α} (h : xs[j]? = some v) : atI xs (j : Int) = some v := by
  have hj : j < xs.length := (List.getElem?_eq_some_iff.mp h).1
  have e : ixN xs.length (j : Int) = some j := by
    unfold ixN
    rw [if_pos (by omega), if_pos (by omega)]; simp
  unfold atI; rw [e]; exact h
theorem atI_last {α : Type} (xs : List α) (v : α) : atI (xs ++ [v]) (-1) = some v := by
  have hl : (xs ++ [v]).length = xs.length + 1 := by simp
  have e : ixN (xs ++ [v]).length (-1) = some xs.length := by
    unfold ixN
    rw [hl, if_neg (by decide), if_pos (by omega)]
    congr 1
    omega
  unfold atI
  rw [e]
  show (xs ++ [v])[xs.length]? = some v
  simp

/-! ### what may be subscripted -/
/-- what stands as an index of a plain subscript -/
def PlainIx (b : Expr) : Prop := ∀ o i, subscripted b false o i = operate [o, i] (getItem o i)
/-- a subscript by values -/
def IxR (X : Cx) (r : R2) : Prop :=
  ∀ (value slice : Expr) (pins : List (Addr × Obj)) (s : Shared) (σ : St) (H : Hp) (x y : V) (v u : Value) (Q : VK), Inv X pins σ H s → RelV x v → RelV y u → r x y H Q →
    subscripted slice false v u = operate [v, u] (getItem v u) → wpAny (model X.prog X.w) X.A (subscriptTail value slice v u) (EP X pins σ Q) X.xe s
/-- a call of a builtin's method by values: the receiver, the arguments -/
def MtR (X : Cx) (id : String) (r : V → List V → Hp → VK → Prop) : Prop :=
  ∀ (pins : List (Addr × Obj)) (s : Shared) (σ : St) (H : Hp) (x : V) (xs : List V) (v : Value) (us : List Value) (Q : VK), Inv X pins σ H s → RelV x v → Vals xs us → r x xs H Q →
    wpAny (model X.prog X.w) X.A (call (.builtin id) (v :: us)) (EP X pins σ Q) X.xe s
section
variable {X : Cx} {a b : Expr} {ta tb : TE} {pos : Pos}
theorem IxR.or {r r' : R2} (h : IxR X r) (h' : IxR X r') : IxR X (fun x y H Q => r x y H Q ∨ r' x y H Q) := by
  intro value slice pins s σ H x y v u Q I rx ry q hs
  rcases q with q | q
  · exact h value slice pins s σ H x y v u Q I rx ry q hs
  · exact h' value slice pins s σ H x y v u Q I rx ry q hs
/-- a[b] -/
theorem pe_ix {r : R2} (hr : IxR X r) (ha : PE X a ta) (hb : PE X b tb) (hs : PlainIx b) : PE X (.Subscript a b pos) (tOp r ta tb) := by
  intro pins s σ H Q I h
  exact Subscript_ (binT ha hb I h fun v u s2 x y H2 I2 rx ry q => hr a b pins s2 σ H2 x y v u Q I2 rx ry q (hs _ _))

def rIxL (K : PySem.W.Frag) : R2 := fun x y H Q => ∃ p xs i v, x = .ref p ∧ y = .int i ∧ SqL K H p xs ∧ atI xs i = some v ∧ Q v H
def rIxT (K : PySem.W.Frag) : R2 := fun x y H Q => ∃ p xs i v, x = .ref p ∧ y = .int i ∧ SqT K H p xs ∧ atI xs i = some v ∧ Q v H
def rIxS : R2 := fun x y H Q => ∃ z i c, x = .str z ∧ y = .int i ∧ z.length ≤ sizeLine ∧ atI z.cps.toList i = some c ∧ Q (.str ⟨#[c]⟩) H
theorem ix_list : IxR X (rIxL X.K) := by
  intro value slice pins s σ H x y v u Q I rx ry h hs
  obtain ⟨p, xs, i, z, rfl, rfl, hq, he, q⟩ := h
  cases rx
  obtain ⟨t, rfl⟩ := ry
  obtain ⟨its, r, pl, hz⟩ := I.list hq
  obtain ⟨j, h1, h2, h3, h4, h5⟩ := atI_get he
  obtain ⟨w, ew, rw'⟩ := r.get h2
  have hl := r.length
  have hn := line63
  have fin : EP X pins σ Q w s := ⟨z, H, I, rw', q⟩
  by_cases h0 : 0 ≤ i
  · have hj : i.toNat = j := by
      rw [seqIndex_of h0 h5] at h1
      exact Option.some.inj h1
    exact item_listR pl.isList h0 (by omega) (by rw [hj]; simpa using ew) fin hs
  · have hj : (i + (its.toArray.size : Int)).toNat = j := by
      rw [seqIndex_neg (by omega) h4] at h1
      rw [List.size_toArray, ← hl]
      exact Option.some.inj h1
    exact subscriptTail_builtinR (x := w) pl.isList.typeIs slot_list_getitem.lookup
      (wpAny_getItem_list_neg (Q := fun r s' => r = w ∧ EP X pins σ Q r s') pl.isList (by omega) (by rw [List.size_toArray] <;> omega) (by omega) (by rw [hj]; simpa using ew) ⟨rfl, fin⟩) hs
theorem ix_tup : IxR X (rIxT X.K) := by
  intro value slice pins s σ H x y v u Q I rx ry h hs
  obtain ⟨p, xs, i, z, rfl, rfl, hq, he, q⟩ := h
  cases rx
  obtain ⟨t, rfl⟩ := ry
  obtain ⟨its, r, pl, hz⟩ := I.tuple hq
  obtain ⟨j, h1, h2, h3, h4, h5⟩ := atI_get he
  obtain ⟨w, ew, rw'⟩ := r.get h2
  have hl := r.length
  have hn := line63
  have fin : EP X pins σ Q w s := ⟨z, H, I, rw', q⟩
  exact subscriptTail_builtinR (x := w) pl.typeIs slot_tuple_getitem.lookup
    (getItem_tuple (j := j) (Q := fun r s' => r = w ∧ EP X pins σ Q r s') pl (by omega) (by omega) (by rw [List.size_toArray, ← hl]; exact h1) (by simpa using ew) ⟨rfl, fin⟩) hs
theorem ix_str : IxR X rIxS := by
  intro value slice pins s σ H x y v u Q I rx ry h hs
  obtain ⟨z, i, c, rfl, rfl, hz, he, q⟩ := h
  obtain ⟨t, rfl⟩ := rx
  obtain ⟨t', rfl⟩ := ry
  obtain ⟨j, h1, h2, h3, h4, h5⟩ := atI_get he
  have hl : z.cps.toList.length = z.length := by simp [Str.length]
  rw [hl] at h1 h4 h5
  have hn := line63
  exact tail_any (typeIs_str s z t) slot_str_getitem.lookup (getItem_str (c := c) (by
    have e1 : decide (i < -(2 ^ 63 : Int)) = false := decide_eq_false (by omega)
    have e2 : decide (i ≥ 2 ^ 63) = false := decide_eq_false (by omega)
    rw [e1, e2, Bool.or_false]) (by rw [h1]; simpa using h2) ⟨.str ⟨#[c]⟩, H, I.tok _, ⟨_, rfl⟩, q⟩) hs
/-- list, tuple or str -/
def rIx (K : PySem.W.Frag) : R2 := fun x y H Q => rIxL K x y H Q ∨ rIxT K x y H Q ∨ rIxS x y H Q
theorem ix_seq : IxR X (rIx X.K) := ix_list.or (ix_tup.or ix_str)

/-! ### xs[i] = v, any sign -/
def rSetL : V → V → V → Hp → (Hp → Prop) → Prop := fun o i v H Q => ∃ p xs k j, o = .ref p ∧ i = .int k ∧ H p = some (.lst xs) ∧ ixN xs.length k = some j ∧ Q (upd H p (.lst (xs.set j v)))
/-! ### slices -/
theorem slice_bounds (lo hi : Option Int) (n : Nat) : (sliceBounds lo hi none n).1 = ((HT.sIx n 0 lo : Nat) : Int) ∧ (sliceBounds lo hi none n).2.1 = ((HT.sIx n n hi : Nat) : Int) ∧ (sliceBounds lo hi none n).2.2 = 1 := by
  refine ⟨?_, ?_, rfl⟩
  · cases lo with
    | none => simp [sliceBounds, HT.sIx]
    | some i =>
      simp only [sliceBounds, HT.sIx, Option.getD_none, show (1 : Int) > 0 by decide, if_true]
      by_cases h : i < 0
      · simp only [h, if_true] <;> omega
      · simp only [h, if_false] <;> omega
  · cases hi with
    | none => simp [sliceBounds, HT.sIx]
    | some i =>
      simp only [sliceBounds, HT.sIx, Option.getD_none, show (1 : Int) > 0 by decide, if_true]
      by_cases h : i < 0
      · simp only [h, if_true] <;> omega
      · simp only [h, if_false] <;> omega
theorem slicePick_cut (its : List Value) (lo hi : Option Int) : slicePick its.toArray lo hi none = ((its.drop (HT.sIx its.length 0 lo)).take (HT.sIx its.length its.length hi - HT.sIx its.length 0 lo)).toArray := by
  obtain ⟨h1, h2, h3⟩ := slice_bounds lo hi its.toArray.size
  unfold slicePick
  rw [h1, h2, h3]
  simp only [sliceRange_one, pick_run, List.size_toArray] <;> rfl
/-- xs[lo:hi] of a list: a new list -/
def rSlL (K : PySem.W.Frag) : V → Option Int → Option Int → Hp → VK → Prop := fun x lo hi H Q => ∃ a xs, x = .ref a ∧ SqL K H a xs ∧ ∀ p, H p = none → Q (.ref p) (upd H p (.lst (cutV xs lo hi)))
theorem sl_list : SlR X (rSlL X.K) := by
  intro pins s σ H x v vl vu lo hi sl Q I rx hs pl pu h
  obtain ⟨a, xs, rfl, hx, q⟩ := h
  cases rx
  obtain ⟨its, r, ht, hz⟩ := I.list hx
  have hlen := r.length
  refine ⟨"list", _, slot_list_getitem.lookup, ht.isList.typeIs, ?_⟩
  refine wpAny_getItem_list_slice ht.isList hs pl pu .none (by simp) ?_ (by rw [List.size_toArray] <;> omega)
  rw [slicePick_cut, ← hlen]
  refine ⟨.ref s.heap.objs.size, _, I.laid (t' := s.toks) (o := .lst (cutV xs lo hi)) (fun b ob q => Heap.get?_push_of_some _ q) (Nat.le_refl _) ?_, rfl, q _ (I.hok.fresh (Nat.le_refl _))⟩
  exact ⟨Nat.le_trans (cutV_length xs lo hi) hz, _, 0, (r.drop (HT.sIx xs.length 0 lo)).take (HT.sIx xs.length xs.length hi - HT.sIx xs.length 0 lo), Heap.get?_push_size _ rfl⟩

/-! ### in, not in: flat items -/
def flatV : V → Bool
  | .non => true
  | .bl _ => true
  | .int _ => true
  | .str _ => true
  | _ => false
/-- == of flat values -/
def eqV : V → V → Bool
  | .non, .non => true
  | .bl a, .bl b => a == b
  | .bl a, .int b => (if a then 1 else 0) == b
  | .int a, .bl b => a == (if b then 1 else 0)
  | .int a, .int b => a == b
  | .str a, .str b => a == b
  | _, _ => false
theorem eqAt_V {A : Around} {s : Shared} {y x : V} {u v : Value} (ry : RelV y u) (rx : RelV x v) (fy : flatV y = true) (fx : flatV x = true) : SeqAt.EqAt A s u v (eqV y x) := by
  cases y with
  | non =>
    cases ry
    cases x with
    | non => cases rx; exact SeqAt.EqAt.same _
    | bl b => cases rx; exact SeqAt.EqAt.none_bool b
    | int b => obtain ⟨t, rfl⟩ := rx; exact SeqAt.EqAt.none_int b t
    | str b => obtain ⟨t, rfl⟩ := rx; exact SeqAt.EqAt.none_str b t
    | _ => exact absurd (show false = true from fx) Bool.false_ne_true
  | bl a =>
    cases ry
    cases x with
    | non => cases rx; exact SeqAt.EqAt.bool_none a
    | bl b => cases rx; exact SeqAt.EqAt.bool_bool a b
    | int b => obtain ⟨t, rfl⟩ := rx; exact SeqAt.EqAt.bool_int a b t
    | str b => obtain ⟨t, rfl⟩ := rx; exact SeqAt.EqAt.bool_str a b t
    | _ => exact absurd (show false = true from fx) Bool.false_ne_true
  | int a =>
    obtain ⟨t', rfl⟩ := ry
    cases x with
    | non => cases rx; exact SeqAt.EqAt.int_none a t'
    | bl b => cases rx; exact SeqAt.EqAt.int_bool a t' b
    | int b => obtain ⟨t, rfl⟩ := rx; exact SeqAt.EqAt.int_int a t' b t
    | str b => obtain ⟨t, rfl⟩ := rx; exact SeqAt.EqAt.int_str a t' b t
    | _ => exact absurd (show false = true from fx) Bool.false_ne_true
  | str a =>
    obtain ⟨t', rfl⟩ := ry
    cases x with
    | non => cases rx; exact SeqAt.EqAt.str_none a t'
    | bl b => cases rx; exact SeqAt.EqAt.str_bool a t' b
    | int b => obtain ⟨t, rfl⟩ := rx; exact SeqAt.EqAt.str_int a t' b t
    | str b => obtain ⟨t, rfl⟩ := rx; exact SeqAt.EqAt.str_str a t' b t
    | _ => exact absurd (show false = true from fx) Bool.false_ne_true
  | _ => exact absurd (show false = true from fy) Bool.false_ne_true
/-- the items' answers, read off the values (a value's own answer does not lean on its token) -/
def eqU (x : V) (u : Value) : Bool := match u with
  | .none => eqV .non x
  | .bool b => eqV (.bl b) x
  | .int i _ => eqV (.int i) x
  | .str z _ => eqV (.str z) x
  | _ => false
theorem eqU_of {x y : V} {u : Value} (r : RelV y u) (f : flatV y = true) : eqU x u = eqV y x := by
  cases y with
  | non => cases r; rfl
  | bl b => cases r; rfl
  | int i => obtain ⟨t, rfl⟩ := r; rfl
  | str z => obtain ⟨t, rfl⟩ := r; rfl
  | _ => exact absurd (show false = true from f) Bool.false_ne_true
theorem any_eqU {x : V} : ∀ {xs : List V} {us : List Value}, Vals xs us → xs.all flatV = true → us.any (eqU x) = xs.any fun y => eqV y x
  | _, _, .nil, _ => rfl
  | y :: xs, u :: us, .cons r t, f => by
    rw [List.all_cons, Bool.and_eq_true] at f
    rw [List.any_cons, List.any_cons, eqU_of r f.1, any_eqU t f.2]
theorem mem_eqAt {A : Around} {s : Shared} {x : V} {v : Value} (rx : RelV x v) (fx : flatV x = true) : ∀ {xs : List V} {us : List Value}, Vals xs us → xs.all flatV = true → ∀ u ∈ us, SeqAt.EqAt A s u v (eqU x u)
  | _, _, .nil, _ => fun u hu => by cases hu
  | y :: xs, u :: us, .cons r t, f => fun u' hu => by
    rw [List.all_cons, Bool.and_eq_true] at f
    rcases List.mem_cons.mp hu with rfl | hu
    · rw [eqU_of r f.1]; exact eqAt_V r rx f.1 fx
    · exact mem_eqAt rx fx t f.2 u' hu
def inV (x : V) (xs : List V) : Bool := xs.any fun y => eqV y x
/-- x in a list or tuple of flat items -/
def rIn (K : PySem.W.Frag) (neg : Bool) : R2 := fun x y H Q => ∃ p xs, y = .ref p ∧ (SqL K H p xs ∨ SqT K H p xs) ∧ flatV x = true ∧ xs.all flatV = true ∧ Q (.bl (if neg then !inV x xs else inV x xs)) H
theorem op_in_seq : OpR X (compareOp .In) (rIn X.K false) := by
  intro pins s σ H x y v u Q I rx ry h
  obtain ⟨p, xs, rfl, hq, fx, fs, q⟩ := h
  cases ry
  rcases hq with hq | hq
  · obtain ⟨its, r, pl, hz⟩ := I.list hq
    refine SeqAt.in_listAt (eqU x) pl.isList (fun w hw => mem_eqAt rx fx r fs w (by simpa using hw)) ⟨.bl _, H, I, rfl, ?_⟩
    rw [show its.toArray.any (eqU x) = its.any (eqU x) by simp, any_eqU r fs]
    exact q
  · obtain ⟨its, r, pl, hz⟩ := I.tuple hq
    refine SeqAt.in_tupleAt (eqU x) pl (fun w hw => mem_eqAt rx fx r fs w (by simpa using hw)) ⟨.bl _, H, I, rfl, ?_⟩
    rw [show its.toArray.any (eqU x) = its.any (eqU x) by simp, any_eqU r fs]
    exact q
/-! ### len, list(x), tuple(x) of any list or tuple that is read -/
theorem call_len_seq : CallR X (.builtin "len") (fun xs H Q => ∃ p ys, xs = [.ref p] ∧ (SqL X.K H p ys ∨ SqT X.K H p ys) ∧ Q (.int ys.length) H) := by
  intro pins s σ H xs us Q I r h
  obtain ⟨p, ys, rfl, hq, q⟩ := h
  obtain ⟨u, rfl, rx⟩ := vals1 r
  cases rx
  have hn := line63
  rcases hq with hq | hq
  · obtain ⟨its, r', pl, hz⟩ := I.list hq
    have hlen := r'.length
    exact Calls.call_len_list pl.isList (by simp only [List.size_toArray] <;> omega) ⟨.int ys.length, H, I.tok _, ⟨s.toks + 1, by rw [List.size_toArray, hlen]⟩, q⟩
  · obtain ⟨its, r', pl, hz⟩ := I.tuple hq
    have hlen := r'.length
    exact len_tuple pl (by simp only [List.size_toArray] <;> omega) ⟨.int ys.length, H, I.tok _, ⟨s.toks + 1, by rw [List.size_toArray, hlen]⟩, q⟩
/-! ### the call of a builtin's method: o.m(..) -/
/-- the value is of that builtin type -/
def tyV (K : PySem.W.Frag) (T : String) (x : V) (H : Hp) : Prop := match x with
  | .str _ => T = "str"
  | .int _ => T = "int"
  | .ref p => (T = "list" ∧ ∃ xs, SqL K H p xs) ∨ (T = "tuple" ∧ ∃ o, K.lookup p = some o ∧ o.cls = .type "tuple" ∧ o.dict = none) ∨
      (T = "dict" ∧ ((∃ kvs, H p = some (.dK kvs)) ∨ ∃ kvs, H p = some (.dT kvs))) ∨ (T = "set" ∧ ∃ S n, H p = some (.set S n))
  | _ => False
theorem tyV_is {pins : List (Addr × Obj)} {σ : St} {H : Hp} {s : Shared} {T : String} {x : V} {v : Value} (I : Inv X pins σ H s) (r : RelV x v) (ty : tyV X.K T x H) :
    s.TypeIs v T ∧ ∀ a, v = .ref a → ∃ ob, s.heap.get? a = some ob ∧ ob.dict = none := by
  cases x with
  | str z =>
    obtain ⟨t, rfl⟩ := r
    cases (show T = "str" from ty)
    exact ⟨typeIs_str s z t, fun _ e => nomatch e⟩
  | int i =>
    obtain ⟨t, rfl⟩ := r
    cases (show T = "int" from ty)
    exact ⟨typeIs_int s i t, fun _ e => nomatch e⟩
  | ref p =>
    cases r
    rcases ty with ⟨rfl, xs, hq⟩ | ⟨rfl, o, hk, hc, hd⟩ | ⟨rfl, hk⟩ | ⟨rfl, S, n, hk⟩
    · obtain ⟨its, _, pl, _⟩ := I.list hq
      refine ⟨pl.isList.typeIs, fun a e => ?_⟩
      cases e
      obtain ⟨o, n, e, c, hd, _⟩ := pl
      exact ⟨o, e, hd⟩
    · refine ⟨⟨o, I.kIn p o hk, hc⟩, fun a e => ?_⟩
      cases e
      exact ⟨o, I.kIn _ o hk, hd⟩
    · have z : ∃ o, s.heap.get? p = some o ∧ o.ExactDict := by
        rcases hk with ⟨kvs, hk⟩ | ⟨kvs, hk⟩
        · obtain ⟨_, _, _, _, o, _, _, e, ex, _⟩ := I.hok p _ hk
          exact ⟨o, e, ex⟩
        · obtain ⟨_, _, _, _, o, _, _, e, ex, _⟩ := I.hok p _ hk
          exact ⟨o, e, ex⟩
      obtain ⟨o, e, ex⟩ := z
      refine ⟨⟨o, e, ex.1⟩, fun a e2 => ?_⟩
      cases e2
      exact ⟨o, e, ex.2.1⟩
    · obtain ⟨o, _, _, _, e, ex, _⟩ := I.hok p _ hk
      refine ⟨⟨o, e, ex.1⟩, fun a e2 => ?_⟩
      cases e2
      exact ⟨o, e, ex.2.1⟩
  | _ => exact False.elim ty
def tBM0 (K : PySem.W.Frag) (T : String) (r : V → List V → Hp → VK → Prop) (to : TE) : TE := fun σ H Q => to σ H fun x H1 => tyV K T x H1 ∧ r x [] H1 Q
def tBM (K : PySem.W.Frag) (T : String) (r : V → List V → Hp → VK → Prop) (to : TE) (t : TA) : TE := fun σ H Q => to σ H fun x H1 => tyV K T x H1 ∧ t σ H1 fun xs H2 => r x xs H2 Q
variable {o e : Expr} {es : List Expr} {to : TE} {t : TA} {name : Str} {apos cpos : Pos} {T id : String} {r : V → List V → Hp → VK → Prop}
theorem pe_bm0 (pa : PlainAttrs T) (slot : Slot T name id) (hty : typeOf (.builtin id) = pure (.type "method_descriptor")) (hm : MtR X id r) (ho : PE X o to)
    (hbase : attributeBase o name X.env (eval o X.env) = eval o X.env := by rfl) (hline : (apos.endLine == cpos.line) = true := by rfl) : PE X (.Call (.Attribute o name apos) [] [] cpos) (tBM0 X.K T r to) := by
  intro pins s σ H Q I h
  refine wpAny_Call_method0_late hbase hline (thn (ho pins s σ H _ I h) fun v s1 ⟨x, H1, I1, r1, ty, q1⟩ => ?_)
  obtain ⟨h1, h2⟩ := tyV_is I1 r1 ty
  exact ⟨T, id, pa, slot, hty, h1, h2, Calls.callWith_builtin rfl (PySem.evalArgs_none (hm pins s1 σ H1 x [] v [] Q I1 r1 .nil q1))⟩
theorem pe_bm (pa : PlainAttrs T) (slot : Slot T name id) (hty : typeOf (.builtin id) = pure (.type "method_descriptor")) (hm : MtR X id r) (ho : PE X o to) (ha : PA X (e :: es) t)
    (hbase : attributeBase o name X.env (eval o X.env) = eval o X.env := by rfl)
    (hfew : ((backTo cpos (starEach (e :: es) X.env)).all (fun x => !x.1) && (backToKw cpos (keywordEach [] X.env)).all (fun x => x.1.isSome)
      && decide ((e :: es).length + ([] : List Keyword).length + (if ([] : List Keyword).isEmpty then 0 else 1) < 30)) = true := by rfl)
    (hline : (apos.endLine == cpos.line) = true := by rfl) (hs : starEach (e :: es) X.env = (false, eval e X.env) :: starEach es X.env := by rfl) (hplain : (backTo cpos (starEach es X.env)).any (·.1) = false := by rfl) :
    PE X (.Call (.Attribute o name apos) (e :: es) [] cpos) (tBM X.K T r to t) := by
  intro pins s σ H Q I h
  refine wpAny_Call_method_late hbase hfew hline rfl (thn (ho pins s σ H _ I h) fun v s1 ⟨x, H1, I1, r1, ty, q1⟩ => ?_)
  obtain ⟨h1, h2⟩ := tyV_is I1 r1 ty
  refine ⟨T, id, pa, slot, hty, h1, h2, ?_⟩
  have hA := ha cpos pins s1 σ H1 _ I1 q1
  rw [hs] at hA ⊢
  refine Calls.callWith_builtin (by show (false || (backTo cpos (starEach es X.env)).any (·.1)) = false; rw [hplain] <;> rfl) (Calls.evalArgs_plain ?_)
  exact thn hA fun us s2 ⟨vs, H2, I2, r2, q2⟩ => hm pins s2 σ H2 x vs v us Q I2 r1 r2 q2
/- xs.append(e), list.index on a module's tuple .. are MtR facts of 06m -/
end
end L2

namespace L2
open PySem PySem.Spec PyProof.Rows

def MtM (X : Cx) (id : String) (r : V → List V → Hp → VK → Prop) : Prop :=
  ∀ (pins : List (Addr × Obj)) (s : Shared) (σ : St) (H : Hp) (x : V) (xs : List V) (v : Value) (us : List Value) (Q : VK), Inv X pins σ H s → RelV x v → Vals xs us → r x xs H Q →
    wpAny (model X.prog X.w) X.A (call (.builtin id) (v :: us)) (EP X pins σ Q) X.xe s

/-! ### lists of values -/
theorem Vals.one : ∀ {x : V} {us : List Value}, Vals [x] us → ∃ u, us = [u] ∧ RelV x u
  | _, _, .cons r .nil => ⟨_, rfl, r⟩
theorem Vals.two : ∀ {x y : V} {us : List Value}, Vals [x, y] us → ∃ u v, us = [u, v] ∧ RelV x u ∧ RelV y v
  | _, _, _, .cons r (.cons q .nil) => ⟨_, _, rfl, r, q⟩
theorem Vals.zero : ∀ {us : List Value}, Vals [] us → us = []
  | _, .nil => rfl
theorem Vals.rep {xs : List V} {us : List Value} (h : Vals xs us) : ∀ k : Nat, Vals (List.replicate k xs).flatten (List.replicate k us).flatten
  | 0 => .nil
  | k + 1 => by
    rw [List.replicate_succ, List.replicate_succ, List.flatten_cons, List.flatten_cons]
    exact Vals.append h (Vals.rep h k)
theorem foldl_rep (its : List Value) : ∀ (k : Nat) (acc : List Value),
    List.foldl (fun x1 x2 => x1 ++ x2) acc.toArray (List.replicate k its.toArray) = (acc ++ (List.replicate k its).flatten).toArray
  | 0, acc => by simp
  | k + 1, acc => by
    have e : acc.toArray ++ its.toArray = (acc ++ its).toArray := by simp
    have e2 : (acc ++ its) ++ (List.replicate k its).flatten = acc ++ (List.replicate (k + 1) its).flatten := by
      rw [List.replicate_succ, List.flatten_cons, List.append_assoc]
    rw [← e2, ← foldl_rep its k (acc ++ its), ← e, List.replicate_succ, List.foldl_cons]

section
variable {X : Cx} {pins : List (Addr × Obj)} {σ : St} {H : Hp} {s : Shared} {l b : Addr} {xs ys zs : List V}

/-! ### the two steps: a tracked list is rewritten, a new list is laid -/
theorem Inv.lset {its its' : List Value} {n : Nat} {f : Array Value → Array Value} {t' : Nat} (I : Inv X pins σ H s) (hH : H l = some (.lst xs))
    (e : s.heap.get? l = some { cls := .type "list", data := .seq its.toArray n }) (hf : f its.toArray = its'.toArray) (hv : Vals ys its') (hz : ys.length ≤ sizeLine) :
    Inv X pins σ (upd H l (.lst ys)) { s with heap := s.heap.update l (Obj.mapSeq f), toks := t' } := by
  have q := PySem.IsL.update e f
  rw [hf] at q
  refine I.write (x := l) (e := l) (by rw [hH]; exact trivial) (.inl rfl) (fun b' u hb hu => (Heap.get?_update_other s.heap (Obj.mapSeq f) (Ne.symm hb)).trans hu) ⟨_, q⟩ ?_
  exact ⟨hz, its', _, hv, q⟩
theorem Inv.lnew {its : List Value} {t' : Nat} (I : Inv X pins σ H s) (hv : Vals ys its) (hz : ys.length ≤ sizeLine) :
    Inv X pins σ (upd H s.heap.objs.size (.lst ys)) { s with heap := s.heap.push { cls := .type "list", data := .seq its.toArray }, toks := t' } :=
  I.laid (fun _ _ q => Heap.get?_push_of_some _ q) (Nat.le_refl _) ⟨hz, its, 0, hv, Heap.get?_push_size _ rfl⟩
theorem Inv.fresh (I : Inv X pins σ H s) : H s.heap.objs.size = none := I.hok.fresh (Nat.le_refl _)
theorem Inv.lstM (I : Inv X pins σ H s) (hH : H l = some (.lst xs)) : xs.length ≤ sizeLine ∧ ∃ (its : List Value) (n : Nat), Vals xs its ∧ xs.length = its.length ∧ s.heap.get? l = some { cls := .type "list", data := .seq its.toArray n } := by
  obtain ⟨z, its, n, r, e⟩ := I.hok l _ hH
  exact ⟨z, its, n, r, r.length, e⟩

theorem notLongL {n : Nat} (h : n ≤ sizeLine) : Builtin.List.listTooLong n = false := by
  unfold Builtin.List.listTooLong
  exact decide_eq_false (by omega)
end

section
variable {X : Cx}

/-! ### methods -/
def rAppend : V → List V → Hp → VK → Prop := fun x vs H Q => ∃ l xs y, x = .ref l ∧ vs = [y] ∧ H l = some (.lst xs) ∧ xs.length < sizeLine ∧ Q .non (upd H l (.lst (xs ++ [y])))
theorem mt_append : MtM X "list.append" rAppend := by
  intro pins s σ H x vs v us Q I rx rv h
  obtain ⟨l, xs, y, rfl, rfl, hH, hz, q⟩ := h
  cases rx
  obtain ⟨u, rfl, ru⟩ := rv.one
  obtain ⟨z, its, n, r, hl, e⟩ := I.lstM hH
  refine call_meets F.slot_list_append ⟨_, e, rfl⟩ F.entry_list_append (F.args_list_append_2 _ _) (PySem.list_append l its.toArray n u (by rw [List.size_toArray]; omega)) ⟨e, ?_⟩
  refine ⟨.non, _, I.lset (its' := its ++ [u]) hH e (by simp) (r.append (.cons ru .nil)) ?_, rfl, q⟩
  rw [List.length_append, List.length_singleton]
  omega

def rExtend : V → List V → Hp → VK → Prop := fun x vs H Q => ∃ l b xs zs, x = .ref l ∧ vs = [.ref b] ∧ H l = some (.lst xs) ∧ H b = some (.lst zs) ∧ xs.length + zs.length ≤ sizeLine ∧ Q .non (upd H l (.lst (xs ++ zs)))
def rPop : V → List V → Hp → VK → Prop := fun x vs H Q => ∃ l xs y, x = .ref l ∧ vs = [] ∧ H l = some (.lst xs) ∧ xs[xs.length - 1]? = some y ∧ Q y (upd H l (.lst xs.dropLast))
def rPopAt : V → List V → Hp → VK → Prop := fun x vs H Q => ∃ l xs i k y, x = .ref l ∧ vs = [.int i] ∧ H l = some (.lst xs) ∧ -(2 ^ 63) ≤ i ∧ i < 2 ^ 63 ∧ seqIndex? i xs.length = some k ∧ xs[k]? = some y ∧ Q y (upd H l (.lst (xs.eraseIdx k)))
def rReverse : V → List V → Hp → VK → Prop := fun x vs H Q => ∃ l xs, x = .ref l ∧ vs = [] ∧ H l = some (.lst xs) ∧ Q .non (upd H l (.lst xs.reverse))
def rClear : V → List V → Hp → VK → Prop := fun x vs H Q => ∃ l xs, x = .ref l ∧ vs = [] ∧ H l = some (.lst xs) ∧ Q .non (upd H l (.lst []))
theorem mt_clear : MtM X "list.clear" rClear := by
  intro pins s σ H x vs v us Q I rx rv h
  obtain ⟨l, xs, rfl, rfl, hH, q⟩ := h
  cases rx
  have hus := rv.zero
  subst hus
  obtain ⟨z, its, n, r, hl, e⟩ := I.lstM hH
  refine call_meets F.slot_list_clear ⟨_, e, rfl⟩ F.entry_list_clear (F.args_list_clear_1 _) (AutoSeq1.list_clear_list_0 l its.toArray n (by rw [List.size_toArray]; omega)) ⟨e, ?_⟩
  exact ⟨.non, _, I.lset (its' := []) (ys := []) hH e rfl .nil (Nat.zero_le _), rfl, q⟩

/-! ### list + list, list += list, list * int -/
def rCat : R2 := fun x y H Q => ∃ l b xs zs, x = .ref l ∧ y = .ref b ∧ H l = some (.lst xs) ∧ H b = some (.lst zs) ∧ xs.length + zs.length ≤ sizeLine ∧ ∀ p, H p = none → Q (.ref p) (upd H p (.lst (xs ++ zs)))
theorem op_cat : OpR X (binaryOp .Add) rCat := by
  intro pins s σ H x y v u Q I rx ry h
  obtain ⟨l, b, xs, zs, rfl, rfl, hH, hB, hz, q⟩ := h
  cases rx
  cases ry
  obtain ⟨z, its, n, r, hl, e⟩ := I.lstM hH
  obtain ⟨z2, its2, n2, r2, hl2, e2⟩ := I.lstM hB
  refine PySem.P.add_list e e2 ?_ (by rw [List.size_toArray, List.size_toArray]; omega)
  have ea : its.toArray ++ its2.toArray = (its ++ its2).toArray := by simp
  rw [ea]
  exact ⟨.ref _, _, I.lnew (t' := s.toks) (r.append r2) (by rw [List.length_append]; omega), rfl, q _ I.fresh⟩
/-- a list times an int (a negative one is nothing) -/
def rRep : R2 := fun x y H Q => ∃ l k xs, x = .ref l ∧ y = .int k ∧ H l = some (.lst xs) ∧ -(2 ^ 63) ≤ k ∧ k < 2 ^ 63 ∧ xs.length * k.toNat ≤ sizeLine ∧
  ∀ p, H p = none → Q (.ref p) (upd H p (.lst (List.replicate k.toNat xs).flatten))
theorem len_rep {α : Type} (xs : List α) (k : Nat) : (List.replicate k xs).flatten.length = k * xs.length := by
  induction k with
  | zero => simp
  | succ k ih => rw [List.replicate_succ, List.flatten_cons, List.length_append, ih, Nat.succ_mul, Nat.add_comm]
theorem op_rep : OpR X (binaryOp .Mult) rRep := by
  intro pins s σ H x y v u Q I rx ry h
  obtain ⟨l, k, xs, rfl, rfl, hH, h1, h2, hz, q⟩ := h
  cases rx
  obtain ⟨t, rfl⟩ := ry
  obtain ⟨z, its, n, r, hl, e⟩ := I.lstM hH
  have hlen : its.toArray.size * k.toNat ≤ sizeLine := by rw [List.size_toArray, ← hl]; exact hz
  have hcap : ¬ its.toArray.size * k.toNat > (2 ^ 63 - 1) / 8 := by
    have : (sizeLine : Nat) ≤ (2 ^ 63 - 1) / 8 := by decide
    omega
  have hfit : ¬ (!Builtin.List.listFitsIndex k) = true := by
    rw [fitsIndex_both h1 h2]
    exact Bool.false_ne_true
  have hlong : ¬ Builtin.List.listTooLong (its.toArray.size * k.toNat) = true := by
    rw [notLongL hlen]
    exact Bool.false_ne_true
  have hnew : List.foldl (fun x1 x2 => x1 ++ x2) #[] (List.replicate (if its.toArray.isEmpty = true then 0 else k.toNat) its.toArray) = (List.replicate k.toNat its).flatten.toArray := by
    have f0 : ∀ m : Nat, List.foldl (fun x1 x2 => x1 ++ x2) #[] (List.replicate m its.toArray) = (List.replicate m its).flatten.toArray := fun m => by
      have := foldl_rep its m []
      rw [List.nil_append] at this
      exact this
    rw [f0]
    cases its with
    | nil => simp
    | cons a r' => rw [if_neg (by simp)]
  refine wpAny_binaryOp_repeat_ref (T := "list") (U := "int") (by decide) ⟨_, e, rfl⟩ (fun s' => typeIs_int s' k t) noFill_list_mul F.fills_int_mul F.slot_int_rmul repeat_list F.slot_int_index.lookup
    (call_meets F.slot_int_rmul (typeIs_int s k t) F.entry_int_rmul (F.args_int_rmul_2 _ _) (int___rmul___int_list k t l its.toArray n)
      ⟨e, rfl, ⟨_, e, rfl⟩, call_meets F.slot_list_mul ⟨_, e, rfl⟩ F.entry_list_mul (F.args_list_mul_2 _ _) (AutoListH.list___mul___list_int_3 l its.toArray n k t hfit hcap hlong) ⟨e, ?_⟩⟩)
  rw [hnew]
  exact ⟨.ref _, _, I.lnew (t' := s.toks) (r.rep k.toNat) (by rw [len_rep, Nat.mul_comm]; exact hz), rfl, q _ I.fresh⟩

/-! ### del xs[i] -/
end

/-! ### xs[a:b] = ys -/
section
variable {prog : Program} {w : World} {A : Around} {E : Value → Shared → Prop} {s : Shared}
end

section
variable {X : Cx}
end
end L2

namespace Att
open PySem PySem.W PySem.Calls PyProof.Rows

/-! ### the script -/
theorem ints_of_wellAll {P : Params} {h : Heap} : ∀ (ns : List Int) (vs : List Value), WellAll P h vs (ns.map WData.int) → IntsAre vs ns := by
  intro ns
  induction ns with
  | nil =>
    intro vs w
    rw [List.map_nil] at w
    cases w
    exact .nil
  | cons n ns ih =>
    intro vs w
    rw [List.map_cons] at w
    cases w with
    | cons a b =>
      cases a
      exact .cons _ _ (ih _ b)

theorem script_of {l : OpenLaw} {n : Nat} (hn : l.most = some n) {P : Params} {h : Heap} {args : List WData} {vals : List Value}
    (hpre : l.row.toRowW.claim.pre args = true) (hwl : WellAll P h vals args) :
    ∃ a vs ns, vals = [Value.ref a] ∧ args = [WData.list (ns.map WData.int)] ∧ h.get? a = some { cls := .type "list", data := .seq vs.toArray } ∧ IntsAre vs ns ∧ ns.length ≤ n := by
  have hsh : WShape.hasAll [] args [.list .int] = true := (pre_splitW hpre).1
  have hc : l.pre.holds [] { args := args } = true := (pre_splitW hpre).2
  obtain ⟨d, r, rfl, h1, h2⟩ := hasAllW_cons hsh
  obtain rfl := hasAllW_nil h2
  obtain ⟨xs, rfl, h3⟩ := hasW_list h1
  obtain ⟨ns, rfl⟩ := items_int h3
  have hlen : ns.length ≤ n := by
    unfold OpenLaw.pre at hc
    have h4 : (WTm.not (.lt (.lit (.int (n : Int))) (.len (.arg 0)))).holds [] { args := [.list (ns.map .int)] } = true := by
      have h4 := (holds_andW hc).1
      rw [hn] at h4
      exact h4
    have h5 := condW_of h4 (w_not (w_lt w_lit (w_len_list (w_arg rfl))))
    rw [List.length_map] at h5
    refine Nat.le_of_not_lt fun q => ?_
    have q' : (n : Int) < ((ns.length : Nat) : Int) := by omega
    first
      | (rw [decide_eq_true q'] at h5; exact absurd h5 (by decide))
      | (simp at h5; omega)
  cases hwl with
  | cons w1 w2 =>
    cases w2
    cases w1 with
    | list ho hall => exact ⟨_, _, ns, rfl, rfl, ho, ints_of_wellAll ns _ hall, hlen⟩

theorem post_true (l : OpenLaw) (args : List WData) : l.row.toRowW.claim.post args (.bool true) args = true :=
  postW_of (r := l.row.toRowW) (X := (true == true))
    (show WShape.has [] (.bool true) .bool = true by first | rfl | decide | simp [WShape.has, WShape.arms, WShape.armsAll])
    (show (WTm.eq .res (.lit (.bool true))).value [] { args := args, res := some (.bool true), after := args } = some (.bool (true == true)) from w_eq_bool (w_res rfl) w_lit) rfl

/-! ### the attachment: holds_open's last premise (the goal 'hc' behind k_head) from a wpAny of the law's body -/
theorem weight_item {ns : List Int} {i : Int} (hi : i ∈ ns) : WData.weight (.int i) ≤ WData.weightAll (ns.map WData.int) := by
  induction ns with
  | nil => cases hi
  | cons a r ih =>
    rw [List.map_cons, WData.weightAll]
    rcases List.mem_cons.mp hi with rfl | h
    · omega
    · have := ih h
      omega
theorem bits_script {ns : List Int} (h : WData.layableAll [WData.list (ns.map WData.int)] = true) : ∀ i ∈ ns, Builtin.Int.intBits i ≤ 1048576 := by
  intro i hi
  have h1 : (WData.list (ns.map WData.int)).layable = true := List.all_eq_true.mp h _ List.mem_cons_self
  have h2 : WData.weight (.list (ns.map WData.int)) ≤ 2 ^ 20 := by
    have h3 := (Bool.and_eq_true_iff.mp h1).2
    exact of_decide_eq_true h3
  rw [WData.weight] at h2
  have h4 := weight_item hi
  have h5 : WData.weight (.int i) = Builtin.Int.intBits i := by rw [WData.weight]; rfl
  rw [h5] at h4
  have e : (2 : Nat) ^ 20 = 1048576 := by decide
  omega
/-- the same from a codeAny of the CALL (for a layer whose function contracts speak of calls) -/
theorem attach_call {l : OpenLaw} {n : Nat} {q : Program} {loose : List Str} {XP : (Str → Option Value) → Heap → Prop} {YP : World → Heap → Prop} {d : DefRec}
    (hn : l.most = some n) (hdf : d.params.defaults = [])
    (call : ∀ (w : World) (s₀ s₁ : Shared) (mg mb : Str → Option Value) (fa : Addr) (o : Obj) (pm cd doc : Value) (a : Addr) (vs : List Value) (ns : List Int),
      Ground q loose [] XP w s₀ mg mb s₁.heap → YP w s₁.heap →
      s₁.heap.get? fa = some o → o.data = .func (docDef d.name d.params d.body d.scope pm cd doc) → s₁.heap.CodeRec cd d.name → mg d.name = some (.ref fa) →
      s₁.heap.get? a = some { cls := .type "list", data := .seq vs.toArray } → IntsAre vs ns → ns.length ≤ n → s₁.gens = #[] → (∀ i ∈ ns, Builtin.Int.intBits i ≤ 1048576) →
      codeAny (model l.prog w) callerA (.call (.ref fa) ⟨[.ref a], []⟩) (fun r s' => r = .ok (.ret (.bool true)) ∧ OldK s₁.heap s'.heap ∧ s'.os = s₁.os ∧ AllBare s'.gens) s₁) :
    WalkO q loose XP YP l.row.toRowW d [] (fun f vs => PySem.call f vs) := by
  intro w s₀ s₁ mg mb G Y fa o pm cd doc dV kV ho hd hcd hD hmg hg args vals as hpre hlay hrd hwl hlo
  obtain rfl : dV = .none := Dflts.none hD hdf
  obtain rfl : kV = .none := Dflts.noKw hD
  obtain ⟨a, vs, ns, rfl, rfl, hobj, hints, hlen⟩ := script_of hn hpre hwl
  refine enter_call (codeAny_mono (call w s₀ s₁ mg mb fa o pm cd doc a vs ns G Y ho (fd_plain hd) hcd hmg hobj hints hlen hg (bits_script hlay)) fun r s' hq => ?_)
  obtain ⟨rfl, h2, h3, h4⟩ := hq
  exact ⟨.inl ⟨.bool true, .bool true, [], rfl, fun _ => rfl, .bool true, post_true l _, fun _ => ⟨List.Pairwise.nil, fun _ hm => (nomatch hm)⟩⟩, h2, h3, h4⟩

/-! ### rules over ANY heap (no ledger) from facts about the written part K: the library's own take a ledger (News) for what they write -/
section
variable {prog : Program} {w : World} {A : Around} {E : Value → Shared → Prop} {s : Shared} {K : Frag}

/-! the whole heap as the ledger: makes every rule that writes through a ledger a rule over any heap -/
def noObjs (h : Heap) : Heap := { h with objs := #[] }
def ledger (h : Heap) (L d : Addr) : List (Addr × Obj) := (List.range h.objs.size).filterMap fun a => if a = L ∨ a = d then none else (h.get? a).map fun o => (a, o)
end
end Att

namespace L2
open PySem PySem.Spec PyProof.Rows

theorem vals_ints : ∀ {vs : List Value} {ns : List Int}, IntsAre vs ns → Vals (ns.map V.int) vs
  | _, _, .nil => .nil
  | _, _, .cons n t h => .cons ⟨t, rfl⟩ (vals_ints h)

/-- nothing is tracked but the script, known to the object (or it is an object of the module) -/
def Only (H : Hp) : Prop := ∀ b, H b = none ∨ ∃ o xs, H b = some (.frz o (.lst xs))

/-- THE HEAD: the law's promise, at the heap behind the top. F, the promise of the law's def, may use that base is part of the heap (so K.In base, base.Ns mainGlobals mg stand in Mod) -/
theorem law_call {P : Program} {w : World} {K : PySem.W.Frag} {mg mb : Str → Option Value} {CX : CXT} {k : Nat} {fa a : Addr} {fd : FuncData} {x : Str} {sp : Sp} {s₁ : Shared} {vs : List Value} {ns : List Int}
    (KX : K.In s₁.heap) (hns : s₁.heap.Ns mainGlobals mg) (hb : s₁.heap.Ns builtinsNs mb) (hbb : ∀ x : Str, x ≠ "__name__" → mb x = bootBuiltins x) (hlim : s₁.heap.NoLimit) (hg : s₁.gens = #[])
    (ha : s₁.heap.get? a = some { cls := .type "list", data := .seq vs.toArray }) (hi : IntsAre vs ns) (hl : ns.length ≤ sizeLine) (hr : Room k callerA)
    (F : ∀ base : Heap, K.In base → base.Ns mainGlobals mg → FnOk P w K mg base CX k fa fd [x] sp) (hbind : ∀ (s : Shared) (u : Value), BindsTo s fd ⟨[u], []⟩ [(x, u)])
    (hsp : ∀ H : Hp, Only H → SqL K H a (ns.map V.int) → sp [.ref a] H (fun v _ => v = .bl true) fun _ _ _ => False)
    (hCX : ∀ H e s', CX.cx [] H s₁ (fun _ _ _ => False) e s' → False) (hsm : CX.sm = false) :
    codeAny (model P w) callerA (.call (.ref fa) ⟨[.ref a], []⟩) (fun r s' => r = .ok (.ret (.bool true)) ∧ OldK s₁.heap s'.heap ∧ s'.os = s₁.os ∧ AllBare s'.gens) s₁ := by
  have rv := vals_ints hi
  have lenV := hi.length
  -- from an abstract heap in which nothing but the script may be tracked
  have core : ∀ H : Hp, Only H → SqL K H a (ns.map V.int) → HOk P w H s₁.heap → (∀ b, H b ≠ none → b = a) → (H a ≠ none → K.lookup a = none) →
      codeAny (model P w) callerA (.call (.ref fa) ⟨[.ref a], []⟩) (fun r s' => r = .ok (.ret (.bool true)) ∧ OldK s₁.heap s'.heap ∧ s'.os = s₁.os ∧ AllBare s'.gens) s₁ := by
    intro H hO hS hok hA hK
    have base_of : ∀ {b : Addr} {o : Obj}, s₁.heap.get? b = some o → H b = none → (hidT s₁.heap H).get? b = some o := fun e n => hidT_get e n
    have noA : ∀ {b : Addr} {o : Obj} {es : Array DictEntry} {ep : Nat}, s₁.heap.get? b = some o → o.data = .dict es ep → H b = none := fun {b o es ep} e d => by
      cases q : H b with
      | none => rfl
      | some u =>
        have e' : b = a := hA b (by rw [q]; simp)
        subst e'
        rw [ha] at e; cases e
        have d' : Data.seq vs.toArray _ = Data.dict es ep := d
        cases d'
    have nsK : ∀ {b : Addr} {m : Str → Option Value}, s₁.heap.Ns b m → (hidT s₁.heap H).Ns b m := fun {b m} ⟨o, es, ep, e, d, r⟩ => ⟨o, es, ep, base_of e (noA e d), d, r⟩
    have hKb : K.In (hidT s₁.heap H) := fun b o e => base_of (KX b o e) (by
      cases q : H b with
      | none => rfl
      | some u =>
        have e' : b = a := hA b (by rw [q]; simp)
        subst e'
        rw [hK (by rw [q]; simp)] at e; cases e)
    have hM : Mod K mg (hidT s₁.heap H) := ⟨hKb, nsK hns, ⟨mb, nsK hb, hbb⟩, let ⟨mc, h1, h2⟩ := hlim; ⟨mc, nsK h1, h2⟩⟩
    have e0 : Env0 P w K mg (hidT s₁.heap H) callerA [] s₁ H := ⟨rfl, hM, fun b o e => of_hidT e, Nat.le_of_eq (hidT_size _ _), trivial, fun b hb => absurd (show b ∈ ([] : List Addr) from hb) (by simp), hok, .of_eq hg⟩
    refine codeAny_mono ((F _ hKb (nsK hns)).run callerA [] s₁ H ⟨[.ref a], []⟩ [.ref a] [.ref a] _ _ hr (fun _ => rfl) (fun z => by rw [hsm] at z; cases z) e0 (hbind s₁ (.ref a)) (.cons rfl .nil) (hsp H hO hS)) fun r s' h => ?_
    cases r with
    | error e => exact (hCX H e s' h).elim
    | ok fl =>
      cases fl with
      | next => exact False.elim h
      | brk => exact False.elim h
      | cont => exact False.elim h
      | ret u =>
        obtain ⟨v, H', os, bare, un, hok', r', q⟩ := h
        have q' : v = .bl true := q
        subst q'
        obtain rfl : u = Value.bool true := r'
        refine ⟨rfl, OldK.of_keep fun b o e => ?_, os, bare⟩
        cases q : H b with
        | none => exact un.keep b o e q (by intro z; exact absurd (show b ∈ ([] : List Addr) from z) (by simp)) (by simp)
        | some u =>
          rcases hO b with z | ⟨ob, xs, z⟩
          · rw [q] at z; cases z
          · have z2 := un.frzs b ob _ z
            obtain ⟨e1, _⟩ := hok b _ z
            obtain ⟨e2, _⟩ := hok' b _ z2
            rw [e] at e1; cases e1
            exact e2
  cases hk : K.lookup a with
  | some o =>
    -- the script is one of the module's own objects
    have e := KX a o hk
    rw [ha] at e
    cases e
    refine core (fun _ => none) (fun _ => .inl rfl) (.inr ⟨_, vs.toArray, _, hk, rfl, rfl, rfl, by rw [List.size_toArray, lenV]; exact hl, by simpa using rv⟩) (fun b u z => by have z' : (none : Option HO) = some u := z; cases z') (fun b z => absurd rfl z) fun z => absurd rfl z
  | none =>
    refine core (fun b => if b = a then some (.frz { cls := .type "list", data := .seq vs.toArray } (.lst (ns.map V.int))) else none) (fun b => ?_) (.inl (.inr ⟨{ cls := .type "list", data := .seq vs.toArray }, if_pos rfl⟩)) (fun b u z => ?_) (fun b z => ?_) fun _ => hk
    · by_cases hb : b = a
      · exact .inr ⟨_, _, if_pos hb⟩
      · exact .inl (if_neg hb)
    · by_cases hb : b = a
      · have z' := (if_pos hb).symm.trans z
        cases z'
        subst hb
        exact ⟨ha, by rw [List.length_map]; exact hl, vs, _, rv, ha⟩
      · have z' := (if_neg hb).symm.trans z
        cases z'
    · by_cases hb : b = a
      · exact hb
      · exact absurd (if_neg hb) z
end L2

namespace L2
open PySem PySem.Spec PyProof.Rows

abbrev KOf {K : PySem.W.Frag} {h : Heap} (_ : K.In h) : PySem.W.Frag := K

/-- the goal that k_head leaves (case hc), from the law's promise. F gives the function object fd (K's own) once, then the promise over every base -/
theorem walk_of {l : PySem.W.OpenLaw} {n k : Nat} {q : Program} {loose : List Str} {XP : (Str → Option Value) → Heap → Prop} {YP : World → Heap → Prop} {d : DefRec} {K : Params → PySem.W.Frag} {CX : World → CXT} {sp : World → Sp} {x : Str}
    (hn : l.most = some n) (hn2 : n ≤ sizeLine) (hdf : d.params.defaults = []) (hr : Room k callerA)
    (hY : ∀ (w : World) (h : Heap), YP w h → (K w.params).In h)
    (F : ∀ (w : World) (mg : Str → Option Value) (fa : Addr) (h : Heap), (K w.params).In h → h.Ns mainGlobals mg → mg d.name = some (.ref fa) →
      ∃ fd : FuncData, (∀ (s : Shared) (u : Value), BindsTo s fd ⟨[u], []⟩ [(x, u)]) ∧
        ∀ base : Heap, (K w.params).In base → base.Ns mainGlobals mg → FnOk l.prog w (K w.params) mg base (CX w) k fa fd [x] (sp w))
    (hsp : ∀ (w : World) (H : Hp) (a : Addr) (ns : List Int), ns.length ≤ n → (∀ i ∈ ns, Builtin.Int.intBits i ≤ 1048576) → Only H → SqL (K w.params) H a (ns.map V.int) → sp w [.ref a] H (fun v _ => v = .bl true) fun _ _ _ => False)
    (hCX : ∀ (w : World) (H : Hp) (s : Shared) (e : Value) (s' : Shared), (CX w).cx [] H s (fun _ _ _ => False) e s' → False) (hsm : ∀ w, (CX w).sm = false) :
    PySem.W.WalkO q loose XP YP l.row.toRowW d [] (fun f vs => PySem.call f vs) := by
  refine Att.attach_call hn hdf fun w s₀ s₁ mg mb fa o pm cd doc a vs ns G Y ho hd hcd hmg hobj hints hlen hg hbits => ?_
  have KX := hY w _ Y
  obtain ⟨fd, hb, hF⟩ := F w mg fa _ KX G.T.g hmg
  exact law_call KX G.T.g G.T.b G.T.builtins G.T.nolimit hg hobj hints (Nat.le_trans hlen hn2) hr hF hb (fun H hO hS => hsp w H a ns hlen hbits hO hS) (fun H e s' => hCX w H s₁ e s') (hsm w)
/-- the same where the promise hangs on the written part alone: (sp := My.sp_law), no hole under a binder -/
theorem walk_ofK {l : PySem.W.OpenLaw} {n k : Nat} {q : Program} {loose : List Str} {XP : (Str → Option Value) → Heap → Prop} {YP : World → Heap → Prop} {d : DefRec} {K : Params → PySem.W.Frag} {CX : CXT} {sp : PySem.W.Frag → Sp} {x : Str}
    (hn : l.most = some n) (hn2 : n ≤ sizeLine) (hdf : d.params.defaults = []) (hr : Room k callerA)
    (hY : ∀ (w : World) (h : Heap), YP w h → (K w.params).In h)
    (F : ∀ (w : World) (mg : Str → Option Value) (fa : Addr) (h : Heap), (K w.params).In h → h.Ns mainGlobals mg → mg d.name = some (.ref fa) →
      ∃ fd : FuncData, (∀ (s : Shared) (u : Value), BindsTo s fd ⟨[u], []⟩ [(x, u)]) ∧
        ∀ base : Heap, (K w.params).In base → base.Ns mainGlobals mg → FnOk l.prog w (K w.params) mg base CX k fa fd [x] (sp (K w.params)))
    (hsp : ∀ (K : PySem.W.Frag) (H : Hp) (a : Addr) (ns : List Int), ns.length ≤ n → (∀ i ∈ ns, Builtin.Int.intBits i ≤ 1048576) → Only H → SqL K H a (ns.map V.int) → sp K [.ref a] H (fun v _ => v = .bl true) fun _ _ _ => False)
    (hCX : ∀ (H : Hp) (s : Shared) (e : Value) (s' : Shared), CX.cx [] H s (fun _ _ _ => False) e s' → False) (hsm : CX.sm = false) :
    PySem.W.WalkO q loose XP YP l.row.toRowW d [] (fun f vs => PySem.call f vs) :=
  walk_of (K := K) (CX := fun _ => CX) (sp := fun w => sp (K w.params)) hn hn2 hdf hr hY F (fun w H a ns h1 hb h2 h3 => hsp (K w.params) H a ns h1 hb h2 h3) (fun _ H s e s' => hCX H s e s') fun _ => hsm
end L2

/- THE LAST THEOREM (shape; LID, My.* are yours):
   My.Adr: a structure of the addresses that your layer names (classes, functions); My.Txt K t: a structure (Prop) of the equations over K;
   My.txt_mk : {K} {implicit addresses ..} (e1 : nsIn K mainGlobals "law" = some (some (.ref f))) (e2 : K.lookup f = some ⟨oc, od, .func (fnOf "law" "law" params body scope dV kV doc pm an cdv ct), sl⟩) (e3 : codeIn K cdv "law" = true) .. : ∃ t, My.Txt K t

set_option maxRecDepth 100000 in
set_option maxHeartbeats 0 in
theorem PySem.Challenge.cw_LID_holds : PySem.Challenge.rw_LID.Holds := by
  w_on; o_law; k_head; (case hw => w_witness2)
  k_fill
  refine L2.walk_of (l := PySem.Challenge.rw_LID) (n := 63) (k := 40) (x := "script") (CX := fun w => ..) (sp := fun _ => My.sp_law) rfl (by decide) rfl ⟨rfl, by decide, by decide⟩ (fun w h Y => PySem.W.kIn_of Y) ?F ?S ?C
  case F =>
    intro w mg fa h KX G hmg
    have T : ∃ t, My.Txt (L2.KOf KX) t := by
      dsimp only [L2.KOf]                          -- K must stand as «<heap const> w.params» for k_is
      refine' My.txt_mk ?e1 ?e2 ?e3 ..
      (case e1 => PySem.W.k_is)                    -- in the order: a name -> its address -> its object -> its parts
      (case e2 => PySem.W.k_is)
      ..
    obtain ⟨t, T⟩ := T
    have e0 := hmg.symm.trans (PySem.W.mg_of KX G T.law)
    cases e0                                       -- fa is the law's own address
    exact ⟨_, fun s u => .of_eq rfl, fun base kb nb => My.law_fn T kb nb⟩     -- if «.of_eq rfl» comes too early: refine' ⟨_, ?b, fun base kb nb => My.law_fn T kb nb⟩; exact fun s u => .of_eq rfl
  case S => exact fun w H a ns hl hO hS => ..
  case C => exact ..
(the tactic k_is has no namespace: write k_is) -/

/-! SHORT WORDS over the layer: a def of the text, its body, what a loop and a test want. -/
namespace L2
open PySem PySem.Spec PyProof.Rows

/-! ### the text by places -/
/-- the j-th statement of a class's body -/
def inClass (s : Stmt) (j : Nat) : Stmt := match s with
  | .ClassDef _ _ _ body _ _ _ _ _ _ _ => body.getD j (.Pass ⟨0, 0, 0, 0⟩)
  | _ => .Pass ⟨0, 0, 0, 0⟩
def defArgs (s : Stmt) : Arguments := match s with
  | .FunctionDef _ a _ _ _ _ _ _ _ _ => a
  | _ => { posonlyargs := [], args := [], vararg := none, kwonlyargs := [], kw_defaults := [], kwarg := none, defaults := [] }
def defBody (s : Stmt) : List Stmt := match s with
  | .FunctionDef _ _ b _ _ _ _ _ _ _ => b
  | _ => []
def defScope (s : Stmt) : Scope := match s with
  | .FunctionDef _ _ _ _ _ _ sc _ _ _ => sc
  | _ => { kind := .function, names := [], isGenerator := false, isCoroutine := false }

/-! ### no exception leaves a def -/
abbrev CX0 : CXT := ⟨true, false, fun _ _ _ _ _ _ => False⟩
/-- .. also within an except suite -/
abbrev CXN : CXT := ⟨false, false, fun _ _ _ _ _ _ => False⟩
/-- .. there alone: the handled exception is known -/
abbrev CXS : CXT := ⟨false, true, fun _ _ _ _ _ _ => False⟩
abbrev E0 : XK := fun _ _ _ => False
theorem pass0 {X : Cx} (hc : X.calm = true := by rfl) : Passes CX0 X E0 := ⟨fun _ => hc, rfl, fun _ _ _ _ _ _ _ h => h.elim⟩
/-! ### a def (or method) of the text as it stands behind the top -/
structure Fun (K : PySem.W.Frag) (x qual : Str) (st : Stmt) (f : Addr) (fd : FuncData) : Prop where
  ex : ∃ (oc : Value) (od : Option Addr) (kV doc pm : Value) (an : Option Addr) (cdv ct : Value) (osl : Array (Option Value)),
    fd = PySem.W.fnOf x qual (defArgs st) (defBody st) (defScope st) .none kV doc pm an cdv ct ∧ K.lookup f = some ⟨oc, od, .func fd, osl⟩ ∧ PySem.W.codeIn K cdv qual = true
  kp : PySem.W.keepIn K (.ref f) = true
section
variable {P : Program} {w : World} {K : PySem.W.Frag} {mg : Str → Option Value} {base : Heap}
/-- a def, whatever its exceptions -/
theorem Fun.okX {x qual : Str} {st : Stmt} {f : Addr} {fd : FuncData} {N ps : List Str} {k : Nat} {sp : Sp} {CX : CXT} (F : Fun K x qual st f fd) (S : FnScope N ps (defScope st)) (len : ∀ vs H Q E, sp vs H Q E → vs.length = ps.length)
    (hbody : ∀ (cdv : Value) (A : Around) (outer : List Env) (s : Shared) (H : Hp) (vs : List V) (Q : VK) (E : XK), Room k (A.deeper (envOfC qual (defScope st) s.heap.objs.size f cdv)) → sp vs H Q E →
      ∃ t, PSs (cxOf CX P w K mg base N qual (defScope st) f cdv A outer s H E) (defBody st) t ∧ t { nx := fun _ H' => Q .non H', rt := Q } (start N vs) H) : FnOk P w K mg base CX (k + 1) f fd ps sp := by
  obtain ⟨oc, od, kV, doc, pm, an, cdv, ct, osl, rfl, lk, hcd⟩ := F.ex
  exact fn_of lk hcd S len fun A outer s H vs Q E hr hsp => hbody cdv A outer s H vs Q E hr hsp
/-- a def that raises nothing -/
theorem Fun.ok {x qual : Str} {st : Stmt} {f : Addr} {fd : FuncData} {N ps : List Str} {k : Nat} {sp : Sp} {CX : CXT} (F : Fun K x qual st f fd) (S : FnScope N ps (defScope st)) (len : ∀ vs H Q E, sp vs H Q E → vs.length = ps.length)
    (hbody : ∀ (cdv : Value) (A : Around) (outer : List Env) (s : Shared) (H : Hp) (vs : List V) (Q : VK) (E : XK), Room k (A.deeper (envOfC qual (defScope st) s.heap.objs.size f cdv)) → sp vs H Q E →
      ∃ t, PSs (cxOf CX P w K mg base N qual (defScope st) f cdv A outer s H E).nox (defBody st) t ∧ t { nx := fun _ H' => Q .non H', rt := Q } (start N vs) H) : FnOk P w K mg base CX (k + 1) f fd ps sp := by
  refine F.okX S len fun cdv A outer s H vs Q E hr hsp => ?_
  obtain ⟨t, h, q⟩ := hbody cdv A outer s H vs Q E hr hsp
  exact ⟨t, h.nox, q⟩
/-- how its arguments bind (no defaults): h is «fun _ _ _ _ _ _ us hl => match us, hl with | [_, _], _ => rfl», one _ a parameter -/
theorem Fun.binds {x qual : Str} {st : Stmt} {f : Addr} {fd : FuncData} {ps : List Str} (F : Fun K x qual st f fd)
    (h : ∀ (kV doc pm : Value) (an : Option Addr) (cdv ct : Value) (us : List Value), us.length = ps.length → bindArgs (PySem.W.fnOf x qual (defArgs st) (defBody st) (defScope st) .none kV doc pm an cdv ct) ⟨us, []⟩ = pure (ps.zip us)) : Binds K fd ps [] := by
  obtain ⟨oc, od, kV, doc, pm, an, cdv, ct, osl, rfl, lk, hcd⟩ := F.ex
  exact .all (h kV doc pm an cdv ct)
theorem fun_mk {x qual : Str} {st : Stmt} {f : Addr} {oc : Value} {od an : Option Addr} {osl : Array (Option Value)} {kV doc pm cdv ct : Value} (l : K.lookup f = some ⟨oc, od, .func (PySem.W.fnOf x qual (defArgs st) (defBody st) (defScope st) .none kV doc pm an cdv ct), osl⟩)
    (c : PySem.W.codeIn K cdv qual = true) (k : PySem.W.keepIn K (.ref f) = true) : Fun K x qual st f (PySem.W.fnOf x qual (defArgs st) (defBody st) (defScope st) .none kV doc pm an cdv ct) := ⟨⟨oc, od, kV, doc, pm, an, cdv, ct, osl, rfl, l, c⟩, k⟩
end
theorem hu_of {A : Around} {k : Nat} (hr : Room k A) : A.units + 1 < cLine := Nat.lt_of_le_of_lt (Nat.add_le_add_left (by decide : 1 ≤ 64) _) hr.units
theorem small1000 {n : Nat} (h : n ≤ 1000) : n < sizeLine := Nat.lt_of_le_of_lt h (by decide)

/-! ### expressions in short: the name that stands in the i-th slot -/
section
variable {X : Cx}
theorem pv (i : Nat) {x : Str} {pos : Pos} (hN : X.N[i]? = some x := by rfl) (hv : Vis X.env.scope x := by first | exact Or.inl rfl | exact Or.inr (Or.inl rfl) | exact Or.inr (Or.inr rfl)) (hd : (x == ("__debug__" : Str)) = false := by decide)
    (hcd : (x == ("__classdict__" : Str)) = false := by decide) : PE X (.Name x pos) (tVar i) := pe_var hN hv hd hcd
end

/-! ### tests -/
theorem iteF {A B : Prop} (h : B) : if false = true then A else B := by
  rw [if_neg Bool.false_ne_true]
  exact h
theorem iteT {A B : Prop} (h : A) : if true = true then A else B := by
  rw [if_pos rfl]
  exact h
theorem ite2 {c A B : Prop} [Decidable c] (h1 : c → A) (h2 : ¬ c → B) : if c then A else B := by
  by_cases h : c
  · rw [if_pos h]
    exact h1 h
  · rw [if_neg h]
    exact h2 h
/-! ### heaps -/
/-- all that was tracked is as it was -/
def Same (H H' : Hp) : Prop := ∀ b o, H b = some o → H' b = some o
theorem Same.refl (H : Hp) : Same H H := fun _ _ h => h
theorem Same.trans {H H1 H2 : Hp} (a : Same H H1) (b : Same H1 H2) : Same H H2 := fun c o h => b c o (a c o h)
theorem Same.free {H H' : Hp} (e : Same H H') {l : Addr} (h : H' l = Option.none) : H l = Option.none := by
  cases q : H l with
  | none => rfl
  | some o =>
    rw [e l o q] at h
    cases h
theorem Same.seq {K : PySem.W.Frag} {H H' : Hp} {a : Addr} {xs : List V} (e : Same H H') (h : SqL K H a xs) : SqL K H' a xs := by
  rcases h with (h | ⟨o, h⟩) | h
  · exact .inl (.inl (e _ _ h))
  · exact .inl (.inr ⟨o, e _ _ h⟩)
  · exact .inr h

end L2

/-! EXT 1: operations beyond the layer: powers, == of data, isinstance; a comprehension. -/
namespace L2
open PySem PySem.Spec PyProof.Rows

/-! ### powers of ints that fit -/
section
variable {X : Cx}
def CPowB (i j : Int) : Prop := 0 ≤ j ∧ (Builtin.Int.intBits i : Int) * j ≤ 2 ^ 27
theorem op_powB : OpR X (binaryOp .Pow) (rI CPowB fun i j => .int (i ^ j.toNat)) := opI fun _ _ _ _ _ _ _ hc q => pow_int hc.1 hc.2 q
end

/-! ### == and != of data: values as they are read -/
mutual
inductive DatV (K : PySem.W.Frag) (H : Hp) : V → PyData → Prop where
  | non : DatV K H .non .none
  | bl (b : Bool) : DatV K H (.bl b) (.bool b)
  | int (i : Int) : DatV K H (.int i) (.int i)
  | str (x : Str) : DatV K H (.str x) (.str x)
  | lst {a : Addr} {xs : List V} {ds : List PyData} (h : SqL K H a xs) (r : DatVs K H xs ds) : DatV K H (.ref a) (.list ds)
  | tup {a : Addr} {xs : List V} {ds : List PyData} (h : SqT K H a xs) (r : DatVs K H xs ds) : DatV K H (.ref a) (.tuple ds)
inductive DatVs (K : PySem.W.Frag) (H : Hp) : List V → List PyData → Prop where
  | nil : DatVs K H [] []
  | cons {x : V} {d : PyData} {xs : List V} {ds : List PyData} (h : DatV K H x d) (r : DatVs K H xs ds) : DatVs K H (x :: xs) (d :: ds)
end
section
variable {X : Cx} {pins : List (Addr × Obj)} {σ : St} {H : Hp} {s : Shared}
mutual
theorem DatV.reads (I : Inv X pins σ H s) : ∀ {x : V} {d : PyData}, DatV X.K H x d → ∀ {u : Value}, RelV x u → ∃ as, Reads s.heap u d as
  | _, _, .non, u, r => by cases (show u = Value.none from r); exact ⟨_, .none⟩
  | _, _, .bl b, u, r => by cases (show u = Value.bool b from r); exact ⟨_, .bool b⟩
  | _, _, .int i, u, r => by obtain ⟨t, rfl⟩ := (show ∃ t, u = Value.int i t from r); exact ⟨_, .int i t⟩
  | _, _, .str x, u, r => by obtain ⟨t, rfl⟩ := (show ∃ t, u = Value.str x t from r); exact ⟨_, .str x t⟩
  | _, _, .lst (a := a) h rs, u, r => by
    cases (show u = Value.ref a from r)
    obtain ⟨its, rv, ⟨o, n, e, hc, _, hd⟩, _⟩ := I.list h
    obtain ⟨as, ra⟩ := DatVs.reads I rs rv
    exact ⟨_, .list e hc hd (by simpa using ra)⟩
  | _, _, .tup (a := a) h rs, u, r => by
    cases (show u = Value.ref a from r)
    obtain ⟨its, rv, ⟨o, e, hc, n, hd⟩, _⟩ := I.tuple h
    obtain ⟨as, ra⟩ := DatVs.reads I rs rv
    exact ⟨_, .tuple e hc hd (by simpa using ra)⟩
theorem DatVs.reads (I : Inv X pins σ H s) : ∀ {xs : List V} {ds : List PyData}, DatVs X.K H xs ds → ∀ {us : List Value}, Vals xs us → ∃ as, ReadsAll s.heap us ds as
  | _, _, .nil, us, r => by cases r; exact ⟨_, .nil⟩
  | _, _, .cons h rs, us, r => by
    cases r with
    | cons r1 r2 =>
      obtain ⟨as, e1⟩ := DatV.reads I h r1
      obtain ⟨bs, e2⟩ := DatVs.reads I rs r2
      exact ⟨_, .cons e1 e2⟩
end
end
def rEqD (K : PySem.W.Frag) : R2 := fun x y H Q => ∃ d d', DatV K H x d ∧ DatV K H y d' ∧ SeqAt.shaped d = true ∧ SeqAt.shaped d' = true ∧ Q (.bl (PyData.eqv d d')) H
def rNeD (K : PySem.W.Frag) : R2 := fun x y H Q => ∃ d d', DatV K H x d ∧ DatV K H y d' ∧ SeqAt.shaped d = true ∧ SeqAt.shaped d' = true ∧ Q (.bl (!PyData.eqv d d')) H
section
variable {X : Cx}
theorem op_eqD (hu : X.A.units + 64 < cLine) : OpR X (compareOp .Eq) (rEqD X.K) := by
  intro pins s σ H x y v u Q I rx ry h
  obtain ⟨d, d', h1, h2, h3, h4, q⟩ := h
  obtain ⟨as, ra⟩ := h1.reads I rx
  obtain ⟨bs, rb⟩ := h2.reads I ry
  exact eq_dataH ra rb h3 h4 hu ⟨.bl _, H, I, rfl, q⟩
theorem op_neD (hu : X.A.units + 64 < cLine) : OpR X (compareOp .NotEq) (rNeD X.K) := by
  intro pins s σ H x y v u Q I rx ry h
  obtain ⟨d, d', h1, h2, h3, h4, q⟩ := h
  obtain ⟨as, ra⟩ := h1.reads I rx
  obtain ⟨bs, rb⟩ := h2.reads I ry
  exact ne_dataH ra rb h3 h4 hu ⟨.bl _, H, I, rfl, q⟩
end
theorem datVs_ints {K : PySem.W.Frag} {H : Hp} : ∀ ns : List Int, DatVs K H (ns.map V.int) (ns.map PyData.int)
  | [] => .nil
  | n :: r => .cons (.int n) (datVs_ints r)
/-! ### isinstance -/
section
variable {X : Cx}
theorem call_isinst : CallR X (.builtin "isinstance") (fun xs H Q => ∃ x c t cv b, xs = [x, c] ∧ TyOf X.K H x t ∧ RelV c cv ∧ PySem.W.kitOne X.K t cv = some b ∧ Q (.bl b) H) := by
  intro pins s σ H xs us Q I r h
  obtain ⟨x, c, t, cv, b, rfl, ty, rc, e, q⟩ := h
  obtain ⟨u, w', rfl, rx, rc'⟩ := vals2 r
  have ec : w' = cv := by
    cases c with
    | non => exact (show w' = _ from rc').trans (show cv = _ from rc).symm
    | bl _ => exact (show w' = _ from rc').trans (show cv = _ from rc).symm
    | ref _ => exact (show w' = _ from rc').trans (show cv = _ from rc).symm
    | ty _ => exact (show w' = _ from rc').trans (show cv = _ from rc).symm
    | int i =>
      obtain ⟨t2, rfl⟩ := (show ∃ t2, cv = Value.int i t2 from rc)
      exact absurd e (by unfold PySem.W.kitOne PySem.W.kitCls; cases ty <;> simp)
    | str i =>
      obtain ⟨t2, rfl⟩ := (show ∃ t2, cv = Value.str i t2 from rc)
      exact absurd e (by unfold PySem.W.kitOne PySem.W.kitCls; cases ty <;> simp)
    | byt i =>
      obtain ⟨t2, rfl⟩ := (show ∃ t2, cv = Value.bytes i t2 from rc)
      exact absurd e (by unfold PySem.W.kitOne PySem.W.kitCls; cases ty <;> simp)
    | flt i =>
      obtain ⟨t2, rfl⟩ := (show ∃ t2, cv = Value.float i t2 from rc)
      exact absurd e (by unfold PySem.W.kitOne PySem.W.kitCls; cases ty <;> simp)
  subst ec
  exact isinst_ok I rx ty e fun tk => ⟨.bl b, H, I.tok tk, rfl, q⟩
end

/-! ### a comprehension -/
/-- the free names of a comprehension's block, by the cells of the code around -/
def clOf (names : List (Str × NameKind)) (env : Env) : List (Str × Addr) := (names.filter fun p => p.2 == .free).reverse.map fun p => (p.1, (env.cells.lookup p.1).getD 0)
def cxC (X : Cx) (N : List Str) (scope : Scope) (C : Addr) (s₂ : Shared) (H₂ : Hp) (fp : List Addr) : Cx where
  prog := X.prog
  w := X.w
  K := X.K
  mg := X.mg
  base := X.base
  A := X.A
  N := N
  s₀ := s₂
  H₀ := H₂
  env := compEnvC scope (clOf scope.names X.env) C X.env
  outer := X.stack
  stack := X.stack
  ex := fp
  fn := fun _ => false
  calm := X.calm
  suit := X.suit
  pn := []
  xe := fun _ _ => False
theorem lookup_map_key {names : List (Str × NameKind)} {f : Str → NameKind → NameKind} {x : Str} {k : NameKind} : (names.map fun p => (p.1, f p.1 p.2)).lookup x = some k → ∃ k0, names.lookup x = some k0 ∧ k = f x k0 := by
  induction names with
  | nil => intro h; simp at h
  | cons p r ih =>
    obtain ⟨n, k1⟩ := p
    intro h
    rw [List.map_cons, List.lookup_cons] at h
    rw [List.lookup_cons]
    cases hx : x == n with
    | true =>
      rw [hx] at h
      have e : x = n := beq_iff_eq.mp hx
      subst e
      exact ⟨k1, rfl, (Option.some.inj h).symm⟩
    | false =>
      rw [hx] at h
      exact ih h
theorem relabel_names {scope : Scope} {env : Env} : (relabel scope env).names = scope.names.map fun p => (p.1, if (p.2 == .free && env.scope.kind == .function && env.kindOf p.1 == some .cell) = true then NameKind.cell else p.2) := by
  unfold relabel
  refine List.map_congr_left fun p _ => ?_
  obtain ⟨n, k⟩ := p
  show (if (k == .free && env.scope.kind == .function && env.kindOf n == some .cell) = true then (n, NameKind.cell) else (n, k)) = _
  split <;> rfl
theorem lookup_mapV {α β : Type} {l : List (Str × α)} {f : Str → β} {x : Str} {c : β} : (l.map fun p => (p.1, f p.1)).lookup x = some c → c = f x ∧ ∃ a, (x, a) ∈ l := by
  induction l with
  | nil => intro h; simp at h
  | cons p r ih =>
    intro h
    rw [List.map_cons, List.lookup_cons] at h
    cases hx : x == p.1 with
    | true =>
      rw [hx] at h
      have e : x = p.1 := beq_iff_eq.mp hx
      refine ⟨?_, p.2, ?_⟩
      · rw [e]; exact (Option.some.inj h).symm
      · rw [e]; exact List.mem_cons_self
    | false =>
      rw [hx] at h
      obtain ⟨e, a, m⟩ := ih h
      exact ⟨e, a, List.mem_cons_of_mem _ m⟩
theorem lookup_mapV_some {α β : Type} {l : List (Str × α)} {f : Str → β} {x : Str} {a : α} (h : (x, a) ∈ l) : (l.map fun p => (p.1, f p.1)).lookup x = some (f x) := by
  induction l with
  | nil => cases h
  | cons p r ih =>
    rw [List.map_cons, List.lookup_cons]
    cases hx : x == p.1 with
    | true =>
      have e : x = p.1 := beq_iff_eq.mp hx
      rw [e]
    | false =>
      rcases List.mem_cons.mp h with e | m
      · rw [← e] at hx
        simp at hx
      · exact ih m
/-- what a comprehension's scope is -/
structure CompOk (X : Cx) (scope : Scope) : Prop where
  kind : scope.kind = .function
  clos : closureFor scope X.env = pure (clOf scope.names X.env)
  cell : ∀ y ∈ scope.names, y.2 ≠ .cell
  names : ∀ y ∈ scope.names, y.2 = .local → scope.names.lookup y.1 = some .local
  free : ∀ y ∈ scope.names, y.2 = .free → (X.env.cells.lookup y.1).isSome = true
theorem clOf_lookup {X : Cx} {scope : Scope} (ok : CompOk X scope) {x : Str} {c : Addr} (h : (clOf scope.names X.env).lookup x = some c) : X.env.cells.lookup x = some c := by
  unfold clOf at h
  obtain ⟨e, a, m⟩ := lookup_mapV (f := fun n => (X.env.cells.lookup n).getD 0) h
  have m' := List.mem_filter.mp (List.mem_reverse.mp m)
  have fr := ok.free _ m'.1 (by simpa using m'.2)
  cases q : X.env.cells.lookup x with
  | none => rw [q] at fr; cases fr
  | some d => rw [e, q]; rfl
theorem clOf_has {X : Cx} {scope : Scope} {x : Str} (h : (x, NameKind.free) ∈ scope.names) : (clOf scope.names X.env).lookup x = some ((X.env.cells.lookup x).getD 0) := by
  unfold clOf
  exact lookup_mapV_some (f := fun n => (X.env.cells.lookup n).getD 0) (List.mem_reverse.mpr (List.mem_filter.mpr ⟨h, by simp⟩))
/-- the names of the block that stand around it: their slots there -/
inductive FrOk (X : Cx) (scope : Scope) : List Nat → List Str → Prop where
  | nil : FrOk X scope [] []
  | cons {j : Nat} {x : Str} {js : List Nat} {xs : List Str} (h1 : X.N[j]? = some x) (h2 : X.env.kindOf x = some .cell ∨ X.env.kindOf x = some .free) (h3 : scope.names.lookup x = some .free) (r : FrOk X scope js xs) : FrOk X scope (j :: js) (x :: xs)
/-- the block's slots: the targets, then the names around -/
def mkC (k : Nat) (js : List Nat) (σ : St) : St := List.replicate k none ++ js.map fun j => (σ[j]?).getD none
theorem mem_of_lookupK {α : Type} {l : List (Str × α)} {x : Str} {a : α} (h : l.lookup x = some a) : (x, a) ∈ l := PySem.mem_of_lookup h
theorem FrOk.len {X : Cx} {scope : Scope} : ∀ {js : List Nat} {xs : List Str}, FrOk X scope js xs → js.length = xs.length
  | _, _, .nil => rfl
  | _, _, .cons _ _ _ r => by simp [FrOk.len r]
theorem FrOk.at {X : Cx} {scope : Scope} : ∀ {js : List Nat} {xs : List Str}, FrOk X scope js xs → ∀ {i : Nat} {x : Str}, xs[i]? = some x → ∃ j, js[i]? = some j ∧ X.N[j]? = some x ∧ (X.env.kindOf x = some .cell ∨ X.env.kindOf x = some .free) ∧ scope.names.lookup x = some .free
  | _, _, .nil, i, x, h => by simp at h
  | _, _, .cons h1 h2 h3 r, 0, x, h => by simp at h; subst h; exact ⟨_, rfl, h1, h2, h3⟩
  | _, _, .cons h1 h2 h3 r, i + 1, x, h => by
    obtain ⟨j, e, q⟩ := FrOk.at r (i := i) (x := x) (by simpa using h)
    exact ⟨j, by simpa using e, q⟩
/-- the start of the block -/
theorem comp_start {X : Cx} {pins : List (Addr × Obj)} {σ : St} {H2 : Hp} {s₂ : Shared} {scope : Scope} {fp : List Addr} {ts xs : List Str} {js : List Nat} {h₁ : Heap} {C : Addr} {tk : Nat}
    (I : Inv X pins σ H2 s₂) (ok : CompOk X scope) (fr : FrOk X scope js xs) (htl : ∀ x ∈ ts, scope.names.lookup x = some .local) (hfp : ∀ b ∈ fp, FpOk X pins H2 b) (hlt : ∀ b ∈ fp, b < s₂.heap.objs.size)
    (hC : C = s₂.heap.objs.size + 1) (hns : h₁.Ns C (fun _ => none)) (old : ∀ b o, s₂.heap.get? b = some o → h₁.get? b = some o)
    (hD : h₁.get? s₂.heap.objs.size = some { cls := .type "list", data := .seq ([] : List Value).toArray 0 }) :
    Inv (cxC X (ts ++ xs) scope C s₂ H2 fp) [] (mkC ts.length js σ) (upd H2 s₂.heap.objs.size (.lst [])) { s₂ with heap := h₁, toks := tk } := by
  have hf := I.hok.fresh (a := s₂.heap.objs.size) (Nat.le_refl _)
  have hlk : ∀ {x : Str} {k : NameKind}, (compEnvC scope (clOf scope.names X.env) C X.env).kindOf x = some k → ∃ k0, scope.names.lookup x = some k0 ∧ k = if (k0 == .free && X.env.scope.kind == .function && X.env.kindOf x == some .cell) = true then NameKind.cell else k0 := fun {x k} h => by
    have h' : (relabel scope X.env).names.lookup x = some k := h
    rw [relabel_names] at h'
    exact lookup_map_key (f := fun n k => if (k == .free && X.env.scope.kind == .function && X.env.kindOf n == some .cell) = true then NameKind.cell else k) h'
  have freeOf : ∀ {x : Str}, ((compEnvC scope (clOf scope.names X.env) C X.env).kindOf x = some .cell ∨ (compEnvC scope (clOf scope.names X.env) C X.env).kindOf x = some .free) → scope.names.lookup x = some .free := fun {x} h => by
    rcases h with h | h
    · obtain ⟨k0, e, q⟩ := hlk h
      by_cases c : (k0 == .free && X.env.scope.kind == .function && X.env.kindOf x == some .cell) = true
      · rw [Bool.and_eq_true, Bool.and_eq_true] at c
        rw [e, beq_iff_eq.mp c.1.1]
      · rw [if_neg c] at q
        exact absurd q.symm (ok.cell _ (mem_of_lookupK e))
    · obtain ⟨k0, e, q⟩ := hlk h
      by_cases c : (k0 == .free && X.env.scope.kind == .function && X.env.kindOf x == some .cell) = true
      · rw [if_pos c] at q; cases q
      · rw [if_neg c] at q; rw [e, q]
  refine ⟨⟨I.ok.mod, ok.kind, I.ok.glob, I.ok.blt, ?_, fun x y c h1 h2 => I.ok.inj x y c (clOf_lookup ok h1) (clOf_lookup ok h2), fun x hx => ⟨_, clOf_has (mem_of_lookupK (freeOf hx))⟩, fun x c h _ => Bool.noConfusion (show false = true from h),
      I.ok.hd, I.ok.frames, .inl rfl, fun b hb => ⟨?_, fun x c h => (hfp b hb).2.2.2.2.1 x c (clOf_lookup ok h)⟩, I.bs, Nat.le_trans I.ok.bsz I.sz, fun b o e hb => ?_, fun b hb hs => ?_, I.stack, I.stkFree, fun z => ?_⟩,
    rfl, I.bare, Un.laid old (Nat.le_refl _) hf, ⟨_, hns, fun i x v h1 h2 h3 => ?_⟩, fun x c h => ?_, ?_, fun x c h => ?_, fun p hp => absurd (show p ∈ ([] : List (Addr × Obj)) from hp) (by simp), ?_, ?_⟩
  · show s₂.heap.objs.size ≤ C
    rw [hC]
    exact Nat.le_succ _
  · show b ≠ C
    rw [hC]
    exact Nat.ne_of_lt (Nat.lt_succ_of_lt (hlt b hb))
  · have h1 := (hfp b hb).2.2.2.1
    rcases h1 with z | z
    · exact I.ok.noex b o e z
    · exact absurd (Nat.lt_of_lt_of_le (Heap.lt_size e) (Nat.le_trans I.ok.bsz z)) (Nat.lt_irrefl _)
  · rcases List.mem_cons.mp (I.stkSub b hs) with z | z
    · exact (hfp b hb).2.1 z
    · exact (hfp b hb).2.2.1 z
  · obtain ⟨ex, cls, dx, a0, tb, hA, hE⟩ := I.ok.hs z
    exact ⟨ex, cls, dx, a0, tb, hA, I.base.frzs ex _ _ hE⟩
  · -- a name around: its cell
    have hi : ts.length ≤ i := by
      refine Nat.le_of_not_lt fun hi => ?_
      unfold mkC at h2
      rw [List.getElem?_append_left (by simpa using hi), List.getElem?_replicate, if_pos hi] at h2
      cases h2
    have h1' : xs[i - ts.length]? = some x := by
      have h1'' : (ts ++ xs)[i]? = some x := h1
      rw [List.getElem?_append_right hi] at h1''
      exact h1''
    obtain ⟨j, ej, hN, hk, hfree⟩ := fr.at h1'
    have hσ : σ[j]? = some (some v) := by
      unfold mkC at h2
      rw [List.getElem?_append_right (by simpa using hi), List.length_replicate, List.getElem?_map, ej] at h2
      simp only [Option.map_some, Option.some.injEq] at h2
      cases q : σ[j]? with
      | none => rw [q] at h2; cases h2
      | some z => rw [q] at h2; exact congrArg some h2
    obtain ⟨m, hn, hl⟩ := I.loc
    have vis : Vis X.env.scope x := by
      rcases hk with hk | hk
      · exact .inr (.inl hk)
      · exact .inr (.inr hk)
    obtain ⟨u, r, l⟩ := hl j x v hN hσ vis
    refine ⟨u, r, .inr ?_⟩
    rcases l with ⟨k, _⟩ | ⟨_, c, hc, z⟩
    · rcases hk with hk | hk <;> (rw [k] at hk; cases hk)
    · refine ⟨?_, c, ?_, z.keeps old⟩
      · rcases h3 with q | q | q
        · obtain ⟨k0, e, w⟩ := hlk (x := x) (k := .local) q
          rw [hfree] at e
          cases e
          split at w <;> cases w
        · exact .inl q
        · exact .inr q
      · have e := clOf_has (X := X) (mem_of_lookupK hfree)
        rw [hc] at e
        exact e
  · obtain ⟨v, z⟩ := I.cell x c (clOf_lookup ok h)
    exact ⟨v, z.keeps old⟩
  · show (upd H2 s₂.heap.objs.size (.lst [])) C = none
    rw [hC, upd_ne (Nat.ne_of_gt (Nat.lt_succ_self _))]
    exact I.hok.fresh (Nat.le_succ _)
  · obtain ⟨v, z⟩ := I.cell x c (clOf_lookup ok h)
    rw [upd_ne (Nat.ne_of_lt z.lt)]
    exact I.freeC x c (clOf_lookup ok h)
  · exact I.hok.laid old (Nat.le_refl _) ⟨Nat.zero_le _, [], 0, .nil, hD⟩
  · unfold mkC
    show _ = (ts ++ xs).length
    rw [List.length_append, List.length_append, List.length_replicate, List.length_map, fr.len]
end L2

namespace L2
open PySem PySem.Spec PyProof.Rows

/-- (a, b, ..) = a tuple, where an exception is handled around -/
theorem pg_tupS {X : Cx} {pos : Pos} {es : List Expr} {k : Nat} {t : TGs} {n : Nat} (hc : X.suit = true) (h : PGs X es t)
    (hn : (assignEach es X.env).length = n := by rfl) (hst : (assignEach es X.env).findIdx? (·.1) = none := by rfl) : PG X (.Tuple es k pos) (gTup X.K n t) := by
  intro pins s σ H v u Q I r hw
  obtain ⟨a, xs, e1, hq, hl, hw⟩ := hw
  subst e1
  cases r
  obtain ⟨its, rv, ht, hz⟩ := I.tuple hq
  obtain ⟨e, cls, dx, a0, tb, hA, hE⟩ := I.ok.hs hc
  obtain ⟨he, _⟩ := I.hok e _ (I.base.frzs e _ _ hE)
  refine assign_tupS hA he rfl rfl ht (by simp [hn, ← hl, rv.length]) hst fun h' hx => ?_
  have I1 : Inv X pins σ H { s with heap := h' } := I.kept (t' := s.toks) fun b o e => hx b o (Nat.ne_of_lt (Heap.lt_size e)) e
  exact h pins _ σ H xs _ Q I1 (by simpa using rv) hw
/-- the tests of a clause -/
def PIf (X : Cx) (ifs : List Expr) (t : TT) : Prop :=
  ∀ (pins : List (Addr × Obj)) (s : Shared) (σ : St) (H : Hp) (Q : Bool → Hp → Prop), Inv X pins σ H s → t σ H Q →
    wpAny (model X.prog X.w) X.A (forIn ifs true fun c r => if r = true then do let ok ← isTrue c X.env (eval c X.env); pure (ForInStep.yield ok) else pure (ForInStep.yield r)) (TP X pins σ Q) X.xe s
def tTrue : TT := fun _ H Q => Q true H
theorem pif_nil {X : Cx} : PIf X [] tTrue := fun _ _ _ H _ I h => wpAny_tests_nil ⟨H, I, h⟩
theorem pif_one {X : Cx} {c : Expr} {t : TT} (hc : PT X c t) : PIf X [c] t := fun pins s σ H Q I h => wpAny_tests_one (hc pins s σ H Q I h)

theorem compLoop_any {prog : Program} {w : World} {A : Around} {R : Result → Shared → Prop} {s : Shared} {elt target iter : Expr} {ifs : List Expr} {scope : Scope} {pos : Pos} {it acc : Value} {env : Env} (J : Nat → Shared → Prop)
    (turn : ∀ n s, J n s → wpAny (model prog w) A (pyNext it) (fun r s₁ => match r with
      | none => R (.ok .next) s₁
      | some v => wpAny (model prog w) A (letOwnedTupleGo target it v) (fun _ s₂ => wpAny (model prog w) A (assign target env v) (fun _ s₃ =>
          wpAny (model prog w) A (forIn ifs true fun c r => if r = true then do let ok ← isTrue c env (eval c env); pure (ForInStep.yield ok) else pure (ForInStep.yield r)) (fun ok s₄ =>
            if ok = true then wpAny (model prog w) A (eval elt env) (fun x s₅ =>
              wpAny (model prog w) A (call (.builtin "list.append") [acc, x]) (fun _ s₆ => ∃ m, m < n ∧ J m s₆) (fun _ _ => False) s₅) (fun _ _ => False) s₄
            else ∃ m, m < n ∧ J m s₄) (fun _ _ => False) s₃) (fun _ _ => False) s₂) (fun _ _ => False) s₁) (fun _ _ => False) s)
    (n : Nat) (h : J n s) : codeAny (model prog w) A (.compLoop (.ListComp elt [⟨target, iter, ifs, 0⟩] scope pos) 0 it acc env) R s := by
  refine codeAny_loop rfl J (fun n s hI => ?_) n h
  show wpAny _ A ((compTurn (.ListComp elt [⟨target, iter, ifs, 0⟩] scope pos) 0 it acc env).onRaise (fun x => do noteFrame x env; theTreesLotGoes x)) _ _ s
  refine wpAny_noted (wpAny_noRaise ?_)
  rw [compTurn_list]
  refine wpAny_bind (wpAny_standAt (wpAny_bind (thn (turn n s hI) fun r s₁ h₁ => ?_)))
  cases r with
  | none => exact wpAny_pure h₁
  | some v =>
    refine wpAny_bind (thn h₁ fun _ s₂ h₂ => wpAny_bind (thn h₂ fun _ s₃ h₃ => wpAny_bind (thn h₃ fun ok s₄ h₄ => ?_)))
    cases ok with
    | false => exact wpAny_pure ⟨rfl, h₄⟩
    | true => exact wpAny_bind (wpAny_bind (thn h₄ fun x s₅ h₅ => wpAny_bind (thn h₅ fun _ s₆ h₆ => wpAny_pure (wpAny_pure ⟨rfl, h₆⟩))))

/-- every slot that σ knows, τ knows likewise -/
def Sub (σ τ : St) : Prop := ∀ (i : Nat) v, σ[i]? = some (some v) → τ[i]? = some (some v)
theorem Sub.set {σ : St} {i : Nat} {x : Option V} (h : σ[i]? = some none) : Sub σ (σ.set i x) := fun j v e => by
  by_cases hj : i = j
  · subst hj; rw [h] at e; cases e
  · rw [List.getElem?_set_ne hj]; exact e
/-- a list by a comprehension: W by the turn, a measure, the items so far, the heap -/
def CompW (J : It) (H1 : Hp) (σ0 : St) (g : TG) (tif : TT) (te : TE) (Q : VK) : Prop := ∀ D, H1 D = none → ∃ W : Nat → Nat → List V → Hp → Prop, (∃ m, W 0 m [] (upd H1 D (.lst []))) ∧
  ∀ i m ys H, W i m ys H → H D = some (.lst ys) ∧ ((J.stop i H ∧ Q (.ref D) H) ∨ (J.go i H ∧ ∀ x H', J.yld i H x H' → g x σ0 H' fun σ2 H2 => Sub σ0 σ2 ∧ tif σ2 H2 fun b H3 =>
    if b = true then te σ2 H3 fun y H4 => H4 D = some (.lst ys) ∧ ys.length < sizeLine ∧ ∃ m', m' < m ∧ W (i + 1) m' (ys ++ [y]) (upd H4 D (.lst (ys ++ [y]))) else ∃ m', m' < m ∧ W (i + 1) m' ys H3))
def tComp (mk : St → St) (wi : TI) (g : TG) (tif : TT) (te : TE) : TE := fun σ H Q => wi σ H fun J H1 => CompW J H1 (mk σ) g tif te Q

section
variable {X : Cx} {scope : Scope} {ts xs : List Str} {js : List Nat} {target iter elt : Expr} {ifs : List Expr} {wi : TI} {g : TG} {tif : TT} {te : TE} {pos : Pos}
theorem PIE.mono {pins : List (Addr × Obj)} {σ : St} {tg : Expr} {R R' : It → Hp → Prop} {v : Value} {s : Shared} (h : PIE X pins σ tg R v s) (k : ∀ J H1, R J H1 → R' J H1) : PIE X pins σ tg R' v s := by
  obtain ⟨it, fp, tn, J, H', e, I, T, st, f, r⟩ := h
  exact ⟨it, fp, tn, J, H', e, I, T, st, f, k _ _ r⟩
/-- the block, up to its end -/
theorem comp_run {pins : List (Addr × Obj)} {σ : St} {s₂ : Shared} {Q : VK} {itv : Value} {E : Value → Shared → Prop} {RR : Value → Addr → Result → Shared → Prop} (ok : CompOk X scope) (fr : FrOk X scope js xs) (htl : ∀ x ∈ ts, scope.names.lookup x = some .local)
    (hg : ∀ C s₀ H₀ fp, PG (cxC X (ts ++ xs) scope C s₀ H₀ fp) target g) (hif : ∀ C s₀ H₀ fp, PIf (cxC X (ts ++ xs) scope C s₀ H₀ fp) ifs tif) (he : ∀ C s₀ H₀ fp, PE (cxC X (ts ++ xs) scope C s₀ H₀ fp) elt te)
    (h : PIE X pins σ target (fun J H1 => (X.calm = true ∨ J.sok = true ∧ X.suit = true) ∧ CompW J H1 (mkC ts.length js σ) g tif te Q) itv s₂)
    (hRR : ∀ D C s' H' m', Inv X pins σ H' s' → s'.heap.Ns C m' → FpOk X pins H' C → Q (.ref D) H' → RR (.ref D) C (.ok .next) s') :
    wpAny (model X.prog X.w) X.A (newList []) (fun acc s₃ => wpAny (model X.prog X.w) X.A (newFunctionEnv scope X.env.globals (clOf scope.names X.env) [] X.env.qual none .none (some X.env)) (fun cenv s₄ =>
      codeAny (model X.prog X.w) X.A (.compStart (.ListComp elt [⟨target, iter, ifs, 0⟩] scope pos) 0 itv acc { cenv with scope := relabel scope X.env }) (RR acc cenv.locals) s₄) E s₃) E s₂ := by
  obtain ⟨it, fp, tn, J, H2, e, I2, T, st2, f2, hc, hw⟩ := h
  subst e
  have hlt : ∀ b ∈ fp, b < s₂.heap.objs.size := fun b hb => by
    obtain ⟨o, e, _⟩ := T.obj _ _ st2 b hb
    exact Heap.lt_size e
  refine wpAny_newObj_type (wpAny_newFunctionEnv ok.cell (by intro y hy; simp at hy) (fun h₁ hns₁ hsb₁ => ?_) ok.kind)
  dsimp only at hns₁ hsb₁ ⊢
  have hsz : (s₂.heap.push { cls := .type "list", dict := none, data := .seq ([] : List Value).toArray }).objs.size = s₂.heap.objs.size + 1 := Heap.size_push _ _
  generalize hC : (s₂.heap.push { cls := .type "list", dict := none, data := .seq ([] : List Value).toArray }).objs.size = C at hns₁ hsb₁ hsz ⊢
  have keep1 : ∀ b o, (s₂.heap.push { cls := .type "list", dict := none, data := .seq ([] : List Value).toArray }).get? b = some o → h₁.get? b = some o := fun b o e => by
    have hb : b ≠ C := by
      rw [← hC]
      exact Nat.ne_of_lt (Heap.lt_size e)
    exact (hsb₁.2 b hb).trans (Heap.get?_push_of_some _ e)
  have old : ∀ b o, s₂.heap.get? b = some o → h₁.get? b = some o := fun b o e => keep1 b o (Heap.get?_push_of_some _ e)
  have hD₁ : h₁.get? s₂.heap.objs.size = some { cls := .type "list", data := .seq ([] : List Value).toArray 0 } := keep1 _ _ (Heap.get?_push_size _ rfl)
  have hfD := I2.hok.fresh (a := s₂.heap.objs.size) (Nat.le_refl _)
  obtain ⟨W, ⟨m0, w0⟩, turn⟩ := hw s₂.heap.objs.size hfD
  have IC := comp_start (tk := s₂.toks + ([] : List (Str × Value)).length) I2 ok fr htl f2 hlt hsz hns₁ old hD₁
  have hst₁ : tn 0 h₁ := T.keep _ _ _ st2 fun b hb o e => old b o e
  -- what is asked of the iterator, within
  have stat : ∀ {H' : Hp}, (∀ b ∈ fp, H' b = none) → ∀ b ∈ fp, FpOk (cxC X (ts ++ xs) scope C s₂ H2 fp) [] H' b := fun {H'} hn b hb =>
    ⟨hn b hb, (IC.ok.exf b hb).1, IC.ok.exfs b hb, .inl hb, fun x c e => (IC.ok.exf b hb).2 x c e, fun p hp => absurd (show p ∈ ([] : List (Addr × Obj)) from hp) (by simp)⟩
  have fp0 : ∀ b ∈ fp, (upd H2 s₂.heap.objs.size (.lst [])) b = none := fun b hb => by
    rw [upd_ne (Nat.ne_of_lt (hlt b hb))]
    exact (f2 b hb).1
  have loop : codeAny (model X.prog X.w) X.A (.compLoop (.ListComp elt [⟨target, iter, ifs, 0⟩] scope pos) 0 (.ref it) (.ref s₂.heap.objs.size) (compEnvC scope (clOf scope.names X.env) C X.env))
      (RR (.ref s₂.heap.objs.size) C) { s₂ with heap := h₁, toks := s₂.toks + ([] : List (Str × Value)).length } := by
    refine compLoop_any (fun n s' => ∃ i H' ys, Inv (cxC X (ts ++ xs) scope C s₂ H2 fp) [] (mkC ts.length js σ) H' s' ∧ tn i s'.heap ∧ (∀ b ∈ fp, H' b = none) ∧ W i n ys H') ?_ m0 ⟨0, _, [], IC, hst₁, fp0, w0⟩
    rintro n s3 ⟨i, H3, ys, I3, st3, fr3, w3⟩
    obtain ⟨hDl, alt⟩ := turn i n ys H3 w3
    rcases alt with ⟨stop, qn⟩ | ⟨go, step⟩
    · refine thn (T.done (cxC X (ts ++ xs) scope C s₂ H2 fp) rfl rfl rfl hc i [] s3 _ H3 _ I3 (stat fr3) st3 stop) fun r s4 ⟨hr, I4⟩ => ?_
      subst hr
      have hCn : H3 C = none := I4.free
      have I5 : Inv X pins σ H3 s4 := I2.call' (ch := fp) (s' := s4) I4.os I4.base I4.hok I4.bare fun b hb => ⟨(f2 b hb).2.2.2.1, (f2 b hb).2.1, (f2 b hb).2.2.2.2.1, (f2 b hb).2.2.2.2.2⟩
      obtain ⟨m', hn', _⟩ := I4.loc
      exact hRR _ _ s4 H3 m' I5 hn' (I2.fpOk (by rw [hsz]; exact Nat.le_succ _) hCn) qn
    · refine thn (T.item (cxC X (ts ++ xs) scope C s₂ H2 fp) rfl rfl rfl hc i [] s3 _ H3 _ I3 (stat fr3) st3 go) fun r s4 ⟨u, hr, h4⟩ => ?_
      subst hr
      refine thn h4 fun _ s5 ⟨x, H5, I5, r5, y5, st5, fr5⟩ => ?_
      have I5' := I5.pinned (stat fr5) (T.obj _ _ st5)
      have pinK : ∀ {σ7 : St} {H7 : Hp} {s7 : Shared}, Inv (cxC X (ts ++ xs) scope C s₂ H2 fp) ([] ++ pinsAt fp s5.heap) σ7 H7 s7 → tn (i + 1) s7.heap ∧ ∀ b ∈ fp, H7 b = none := fun {σ7 H7 s7} I7 => by
        refine ⟨T.keep _ _ _ st5 fun b hb o e => (I7.pin (b, o) (List.mem_append_right _ (List.mem_append_right _ (mem_pinsAt hb e)))).1, fun b hb => ?_⟩
        obtain ⟨o, e, d⟩ := T.obj _ _ st5 b hb
        exact (I7.pin (b, o) (List.mem_append_right _ (List.mem_append_right _ (mem_pinsAt hb e)))).2.1
      have back : ∀ {σ7 : St} {H7 : Hp} {s7 : Shared}, Inv (cxC X (ts ++ xs) scope C s₂ H2 fp) ([] ++ pinsAt fp s5.heap) σ7 H7 s7 → Sub (mkC ts.length js σ) σ7 → Inv (cxC X (ts ++ xs) scope C s₂ H2 fp) [] (mkC ts.length js σ) H7 s7 := fun {σ7 H7 s7} I7 sb =>
        I7.unpinned.weak (IC.len.trans I7.len.symm) sb
      refine thn (hg _ _ _ _ _ s5 _ H5 x u _ I5' r5 (step x H5 y5)) fun _ s6 ⟨σ6, H6, I6, sb6, q6⟩ => ?_
      refine thn (hif _ _ _ _ _ s6 σ6 H6 _ I6 q6) fun okb s7 ⟨H7, I7, q7⟩ => ?_
      cases okb with
      | false =>
        obtain ⟨m', hm, w7⟩ := (show ∃ m', m' < n ∧ W (i + 1) m' ys H7 from q7)
        obtain ⟨t7, n7⟩ := pinK I7
        exact ⟨m', hm, i + 1, H7, ys, back I7 sb6, t7, n7, w7⟩
      | true =>
        refine thn (he _ _ _ _ _ s7 σ6 H7 _ I7 q7) fun u8 s8 ⟨y, H8, I8, r8, hD8, hlen, m', hm, w8⟩ => ?_
        refine thn (mt_append (X := cxC X (ts ++ xs) scope C s₂ H2 fp) _ s8 σ6 H8 (.ref s₂.heap.objs.size) [y] (.ref s₂.heap.objs.size) [u8] (fun _ H9 => W (i + 1) m' (ys ++ [y]) H9) I8 rfl (.cons r8 .nil) ⟨_, ys, y, rfl, rfl, hD8, hlen, w8⟩) fun u9 s9 ⟨_, H9, I9, _, w9⟩ => ?_
        obtain ⟨t9, n9⟩ := pinK I9
        exact ⟨m', hm, i + 1, H9, ys ++ [y], back I9 sb6, t9, n9, w9⟩
  exact codeAny_compStart_list loop (T.self _ 0 _ _ _ hst₁ loop)

theorem pe_comp (hc : X.calm = true) (ok : CompOk X scope) (fr : FrOk X scope js xs) (htl : ∀ x ∈ ts, scope.names.lookup x = some .local) (hi : PI X target iter wi)
    (hg : ∀ C s₀ H₀ fp, PG (cxC X (ts ++ xs) scope C s₀ H₀ fp) target g) (hif : ∀ C s₀ H₀ fp, PIf (cxC X (ts ++ xs) scope C s₀ H₀ fp) ifs tif) (he : ∀ C s₀ H₀ fp, PE (cxC X (ts ++ xs) scope C s₀ H₀ fp) elt te)
    (hs : ∀ x, foldedSetIterable iter X.env x = pure x := by intro _; rfl) : PE X (.ListComp elt [⟨target, iter, ifs, 0⟩] scope pos) (tComp (mkC ts.length js) wi g tif te) := by
  intro pins s σ H Q I h
  rw [eval_ListComp]
  refine wpAny_comprehension_free (use := none) rfl hs ok.clos ok.kind ok.names (thn (hi pins s σ H _ I h) fun v s1 h1 => thn h1 fun itv s2 h2 => ?_)
  refine comp_run (Q := Q) ok fr htl hg hif he (PIE.mono h2 fun J H1 z => ⟨.inl hc, z⟩) fun D C s' H' m' I' hn fpC q => ?_
  refine ⟨m', hn, fun h' hs' => ?_⟩
  obtain ⟨f0, f1, f2, f3, f4, f5⟩ := fpC
  exact ⟨.ref D, H', I'.turned (t' := s'.toks) (fun b o hb e => (hs'.2 b hb).trans e) f0 f1 f3 f4 f5, rfl, q⟩
end

/-- .. of a list, where an exception is handled around -/
def tCompS (mk : St → St) (wi : TI) (g : TG) (tif : TT) (te : TE) : TE := fun σ H Q => wi σ H fun J H1 => J.sok = true ∧ CompW J H1 (mk σ) g tif te Q
theorem ps_setCompS {X : Cx} {scope : Scope} {ts xs : List Str} {js : List Nat} {target iter elt : Expr} {ifs : List Expr} {wi : TI} {g : TG} {tif : TT} {te : TE} {pos : Pos} {y : Str} {py spos : Pos} {i : Nat} (hc : X.suit = true) (ok : CompOk X scope) (fr : FrOk X scope js xs) (htl : ∀ x ∈ ts, scope.names.lookup x = some .local) (hi : PI X target iter wi)
    (hg : ∀ C s₀ H₀ fp, PG (cxC X (ts ++ xs) scope C s₀ H₀ fp) target g) (hif : ∀ C s₀ H₀ fp, PIf (cxC X (ts ++ xs) scope C s₀ H₀ fp) ifs tif) (he : ∀ C s₀ H₀ fp, PE (cxC X (ts ++ xs) scope C s₀ H₀ fp) elt te)
    (hN : X.N.Nodup) (hy : X.N[i]? = some y) (hx : Loc X.env.scope y)
    (hsw : swapsWith (.ListComp elt [⟨target, iter, ifs, 0⟩] scope pos) (some (.Name y py)) spos.line X.env = pure true)
    (hs : ∀ x, foldedSetIterable iter X.env x = pure x := by intro _; rfl) (hf : X.fn y = true ∨ X.env.scope.names.lookup y = some .local := by first | exact .inl rfl | exact .inr rfl | assumption) :
    PS X (.Assign [.Name y py] (.ListComp elt [⟨target, iter, ifs, 0⟩] scope pos) spos) (tAsg (tCompS (mkC ts.length js) wi g tif te) (gName i)) := by
  intro pins s σ H D I h
  rw [exec_Assign_Name_used _ _ _ _ hsw]
  refine wpAny_bind (wpAny_standAt (wpAny_bind ?_))
  show wpAny _ X.A (do let _ ← comprehension (.ListComp elt [⟨target, iter, ifs, 0⟩] scope pos) scope X.env _ (newList []) false (eval iter X.env) (some (assign (.Name y py) X.env))) _ _ s
  refine wpAny_bind (thn (wpAny_comprehension_free (use := some (assign (.Name y py) X.env)) (Q := fun _ s' => SP X pins D .next s') rfl hs ok.clos ok.kind ok.names (thn (hi pins s σ H _ I h) fun v s1 h1 => thn h1 fun itv s2 h2 => ?_)) fun _ s' hq => wpAny_pure (wpAny_pure hq))
  refine comp_run (Q := fun x H1 => gName i x σ H1 D.nx) ok fr htl hg hif he (PIE.mono h2 fun J H1 z => ⟨.inr ⟨z.1, hc⟩, z.2⟩) fun Dl C s' H' m' I' hn fpC q => ?_
  show wpAny _ X.A (assign (.Name y py) X.env (.ref Dl)) _ _ _
  obtain ⟨f0, f1, f2, f3, f4, f5⟩ := fpC
  refine wpAny_assign_Name (store_ok2 (v := .ref Dl) I' hN hy hx rfl (fun s2 I2 ⟨a, sb, ha⟩ => ?_) hf)
  have neC : C ≠ a := by
    rcases ha with z | z
    · rw [z]; exact f1
    · exact fun e => f4 y a z e.symm
  refine ⟨m', hn.sameBut sb neC, fun h' hs' => ?_⟩
  exact ⟨_, H', I2.turned (t' := s2.toks) (fun b o hb e => (hs'.2 b hb).trans e) f0 f1 f3 f4 f5, q⟩

/-! ### the forms one uses -/
end L2

/-! EXT 2: exceptions: how one flies, leaves a def, passes a caller, is caught. -/
namespace L2
open PySem PySem.Spec PyProof.Rows

/-- in flight over the frames l: B is all that stays -/
structure Fly (B : Heap) (l : List Env) (e : Addr) (cls : Value) (dx : Option Addr) (fl : Value) (h : Heap) : Prop where
  st : B.StaysIn h
  ne : B.get? e = none
  fr : h.FunFrames B l
  ob : ∃ a0 T oT ts, h.get? e = some (xObj cls dx a0 (.ref T)) ∧ B.get? T = none ∧ T ≠ e ∧ h.get? T = some oT ∧ oT.data = .fields ts ∧ ts[3]? = some fl
theorem Fly.drop {B : Heap} {env : Env} {l : List Env} {e : Addr} {cls fl : Value} {dx : Option Addr} {h : Heap} (F : Fly B (env :: l) e cls dx fl h) : Fly B l e cls dx fl h := ⟨F.st, F.ne, F.fr.2.2, F.ob⟩

section
variable {M : Model} {A : Around} {E : Value → Shared → Prop} {s : Shared} {B : Heap} {env : Env} {outer : List Env} {L e : Addr} {cls fl a0 head : Value} {dx : Option Addr} {Q : Unit → Shared → Prop}
/-- a new entry of the trace -/
theorem fly_entry {hadNext : Bool} (hfr : A.frames = some (env :: outer)) (hl : s.heap.FunFrames B (env :: outer)) (hf : env.frame = some L) (he : s.heap.get? e = some (xObj cls dx a0 head)) (st : B.StaysIn s.heap) (ne : B.get? e = none)
    (k : ∀ h', Fly B (env :: outer) e cls dx (rawInt L) h' → s.heap.UpToSlots h' → Q () { s with heap := h' }) :
    wpAny M A (do let a ← frameOf env; let pl ← entryPlaceOf L hadNext; let b ← EntryCells.newEntry head a .none (rawInt L) .none pl; setField (.ref e) 1 b) Q E s := by
  have nofr : e ∉ (env :: outer).filterMap (·.frame) := fun hm => by
    obtain ⟨_, o, ho, nf⟩ := hl.mem hm
    rw [he] at ho
    cases ho
    exact nf _ rfl
  refine wpAny_bind (wpAny_frameOf_fun hfr hl hf fun h1 so => ?_)
  refine wpAny_bind (wpAny_entryPlaceOf fun pl hpl => ?_)
  unfold EntryCells.newEntry newFields
  refine wpAny_bind (wpAny_newObj_type ?_ (hpl.sizeOk5 _ _ _ _ _))
  generalize hE : ([head, .ref L, .none, rawInt L, .none] ++ (if pl.isEmpty then List.replicate 6 Value.none else pl)).toArray = flds
  have f3 : flds[3]? = some (rawInt L) := by
    rw [← hE]
    first | (simp; done) | (rcases hpl with rfl | ⟨_, _, _, _, _, _, _, rfl⟩ <;> simp)
  have e1 : h1.get? e = some (xObj cls dx a0 head) := (so.2.1 e nofr).trans he
  have st1 : B.StaysIn h1 := fun b o q => (so.2.1 b fun hm => by rw [(hl.mem hm).1] at q; cases q).trans (st b o q)
  have e2 := Heap.get?_push_of_some (h := h1) { cls := .type "traceback", dict := none, data := .fields flds } e1
  have neT : h1.objs.size ≠ e := Nat.ne_of_gt (Heap.lt_size e1)
  have keep : ∀ b o, b ≠ e → h1.get? b = some o → ((h1.push { cls := .type "traceback", dict := none, data := .fields flds }).update e (Obj.mapFields (·.setIfInBounds 1 (Value.ref h1.objs.size)))).get? b = some o := fun b o hb q => by
    rw [Heap.get?_update_other _ _ (Ne.symm hb)]
    exact Heap.get?_push_of_some _ q
  have norec : ∀ b o, s.heap.get? b = some o → (∀ vs, o.data ≠ .fields vs) → b ≠ e := fun b o q nf z => by
    rw [z, he] at q
    cases q
    exact nf _ rfl
  refine wpAny_setField e2 rfl (by show 1 < 6; decide) (k _ ?_ ?_)
  · refine ⟨fun b o q => keep b o (fun z => by rw [z, ne] at q; cases q) (st1 b o q), ne, hl.of_keeps fun b o q nf => ?_, a0, h1.objs.size, { cls := .type "traceback", dict := none, data := .fields flds }, flds, ?_, st1.fresh, neT, ?_, rfl, f3⟩
    · obtain ⟨sl, q1⟩ := so.2.2 b o q
      exact ⟨_, keep b _ (norec b o q nf) q1, rfl⟩
    · rw [Heap.get?_update_self _ e2 rfl]
      rfl
    · rw [Heap.get?_update_other _ _ (Ne.symm neT)]
      exact Heap.get?_push_size h1 rfl
  · intro b o q nf
    obtain ⟨sl, q1⟩ := so.2.2 b o q
    exact ⟨sl, keep b _ (norec b o q nf) q1⟩
theorem fly_new (hfr : A.frames = some (env :: outer)) (hl : s.heap.FunFrames B (env :: outer)) (hf : env.frame = some L) (he : s.heap.get? e = some (xObj cls dx a0 .none)) (st : B.StaysIn s.heap) (ne : B.get? e = none)
    (k : ∀ h', Fly B (env :: outer) e cls dx (rawInt L) h' → s.heap.UpToSlots h' → Q () { s with heap := h' }) : wpAny M A (noteFrame (.ref e) env) Q E s := by
  unfold noteFrame
  simp only [hf]
  refine wpAny_bind (wpAny_field he rfl (x := .none) rfl ?_)
  rw [if_neg (by decide)]
  exact fly_entry hfr hl hf he st ne k
theorem fly_on (hfr : A.frames = some (env :: outer)) (hf : env.frame = some L) (F : Fly B (env :: outer) e cls dx .none s.heap)
    (k : ∀ h', Fly B (env :: outer) e cls dx (rawInt L) h' → s.heap.UpToSlots h' → Q () { s with heap := h' }) : wpAny M A (noteFrame (.ref e) env) Q E s := by
  obtain ⟨st, ne, fr, a0, T, oT, ts, he, nT, hTe, hT, dT, t3⟩ := F
  unfold noteFrame
  simp only [hf]
  refine wpAny_bind (wpAny_field he rfl (x := .ref T) rfl ?_)
  rw [if_pos (show (Value.ref T != Value.none) = true from by simp)]
  refine wpAny_bind (wpAny_field hT dT t3 ?_)
  rw [if_neg (show ¬ ((Value.none == rawInt L) = true) from by simp [rawInt])]
  refine wpAny_bind (wpAny_setField hT dT (Array.getElem?_eq_some_iff.mp t3).1 ?_)
  have other : ∀ b, b ≠ T → (s.heap.update T (Obj.mapFields (·.setIfInBounds 3 Value.none))).get? b = s.heap.get? b := fun b hb => Heap.get?_update_other _ _ (Ne.symm hb)
  have norec : ∀ b o, s.heap.get? b = some o → (∀ vs, o.data ≠ .fields vs) → b ≠ T := fun b o q nf z => by
    rw [z, hT] at q
    cases q
    exact nf ts dT
  refine fly_entry hfr (fr.of_keeps fun b o q nf => ⟨o, (other b (norec b o q nf)).trans q, rfl⟩) hf ((other e (Ne.symm hTe)).trans he) (fun b o q => (other b fun z => by rw [z, nT] at q; cases q).trans (st b o q)) ne fun h' F' up => k h' F' fun b o q nf => ?_
  exact up b o ((other b (norec b o q nf)).trans q) nf
theorem fly_land {l : List Env} (F : Fly B l e cls dx fl s.heap) (k : ∀ h', Fly B l e cls dx .none h' → s.heap.UpToSlots h' → Q () { s with heap := h' }) : wpAny M A (setFlight (.ref e) none) Q E s := by
  obtain ⟨st, ne, fr, a0, T, oT, ts, he, nT, hTe, hT, dT, t3⟩ := F
  have h3 : 3 < ts.size := (Array.getElem?_eq_some_iff.mp t3).1
  have other : ∀ b, b ≠ T → (s.heap.update T (Obj.mapFields (·.setIfInBounds 3 Value.none))).get? b = s.heap.get? b := fun b hb => Heap.get?_update_other _ _ (Ne.symm hb)
  have norec : ∀ b o, s.heap.get? b = some o → (∀ vs, o.data ≠ .fields vs) → b ≠ T := fun b o q nf z => by
    rw [z, hT] at q
    cases q
    exact nf ts dT
  have dT' := Obj.data_mapFields dT (·.setIfInBounds 3 Value.none)
  unfold setFlight
  refine wpAny_bind (wpAny_field he rfl (x := .ref T) rfl ?_)
  rw [if_pos (show (Value.ref T != Value.none) = true from by simp)]
  refine wpAny_setField hT dT h3 (k _ ⟨fun b o q => (other b fun z => by rw [z, nT] at q; cases q).trans (st b o q), ne, fr.of_keeps fun b o q nf => ⟨o, (other b (norec b o q nf)).trans q, rfl⟩, a0, T, _, _, (other e (Ne.symm hTe)).trans he, nT, hTe, Heap.get?_update_self _ hT (Obj.isFreed_of_fields dT'), dT', by simp [h3]⟩ fun b o q nf => ⟨o.slots, (other b (norec b o q nf)).trans q⟩)
end

/-! ### what stays while one flies -/
structure Kept (fs : List Addr) (H H' : Hp) (h B : Heap) : Prop where
  k1 : ∀ b o, h.get? b = some o → H b = none → b ∉ fs → B.get? b = some o
  k2 : ∀ b o, h.get? b = some o → b ∉ fs → ∃ o', B.get? b = some o'
  tk : ∀ b, H' b ≠ none → ∃ u, B.get? b = some u
section
variable {P : Program} {w : World} {H H' : Hp} {h h' h2 B : Heap} {l l2 : List Env} {e : Addr} {cls fl fl2 : Value} {dx : Option Addr}
theorem ObjOk.some_of {a : Addr} {o : HO} (x : ObjOk P w H h a o) : ∃ u, h.get? a = some u := by
  cases o with
  | lst xs => obtain ⟨_, _, _, _, e⟩ := x; exact ⟨_, e⟩
  | tup xs => obtain ⟨_, _, _, o, e, _⟩ := x; exact ⟨_, e⟩
  | dK kvs => obtain ⟨_, _, _, _, o, _, _, e, _⟩ := x; exact ⟨_, e⟩
  | dT kvs => obtain ⟨_, _, _, _, o, _, _, e, _⟩ := x; exact ⟨_, e⟩
  | set S n => obtain ⟨o, _, _, _, e, _⟩ := x; exact ⟨_, e⟩
  | ins C dx fs => obtain ⟨_, _, _, e, _⟩ := x; exact ⟨_, e⟩
  | own y => exact x
  | xd fs => obtain ⟨_, ⟨o, _, _, e, _⟩, _⟩ := x; exact ⟨_, e⟩
  | rng lo hi => obtain ⟨_, _, _, e⟩ := x; exact ⟨_, e⟩
  | frz ob u => obtain ⟨e, _⟩ := x; exact ⟨_, e⟩
  | tbl ps => exact ⟨_, (show h.get? a = some _ from x)⟩
  | met f y => exact ⟨_, (show h.get? a = some _ from x)⟩
  | ext φ => obtain ⟨_, e, _⟩ := x; exact e
theorem HOk.flown (ok : HOk P w H' h') (tk : ∀ b, H' b ≠ none → ∃ u, B.get? b = some u) (s1 : B.StaysIn h') (s2 : B.StaysIn h2) : HOk P w H' h2 := fun a o q => by
  have same : ∀ b u, H' b ≠ none → h'.get? b = some u → h2.get? b = some u := fun b u n z => by
    obtain ⟨u', e'⟩ := tk b n
    have := s1 b u' e'
    rw [z] at this
    cases this
    exact s2 b _ e'
  refine (ok a o q).stay (fun b u hb z => same b u ?_ z) (fun _ z => z) fun _ _ z => z
  rcases hb with rfl | hb
  · rw [q]; simp
  · rw [hb]; simp
/-- from the state of a call over a flight -/
theorem Un.flown (u : Un (frs l) [] H H' h h') (k : Kept (frs l) H H' h B) (hfs : ∀ b ∈ frs l, H b = none) (F : Fly B l e cls dx fl h') (up : h'.UpToSlots h2) (s2 : B.StaysIn h2) : Un (frs l) [] H H' h h2 where
  keep := fun b o q n hb _ => s2 b o (k.k1 b o q n hb)
  slot := fun b o q n hb hx => by
    obtain ⟨sl, q1⟩ := u.slot b o q n hb hx
    obtain ⟨_, o', q2, nf⟩ := F.fr.mem hb
    rw [q1] at q2
    cases q2
    obtain ⟨sl', q3⟩ := up b _ q1 nf
    exact ⟨sl', q3⟩
  free := u.free
  there := fun b o q hx => by
    by_cases hb : b ∈ frs l
    · obtain ⟨sl, q1⟩ := u.slot b o q (hfs b hb) hb hx
      obtain ⟨_, o', q2, nf⟩ := F.fr.mem hb
      rw [q1] at q2
      cases q2
      obtain ⟨sl', q3⟩ := up b _ q1 nf
      exact ⟨_, q3⟩
    · obtain ⟨o', q'⟩ := k.k2 b o q hb
      exact ⟨o', s2 b o' q'⟩
  tups := u.tups
  frzs := u.frzs
  tbls := u.tbls
end

theorem frames_hide {base h : Heap} {as : List Addr} : ∀ {l : List Env}, h.FunFrames base l → (∀ env ∈ l, ∀ a, env.frame = some a → a ∈ as) → h.FunFrames (PySem.W.hideAll h as) l
  | [], _, _ => trivial
  | env :: r, x, k => by
    obtain ⟨x1, ⟨L, o, x2, _, x3, x4⟩, x5⟩ := x
    exact ⟨x1, ⟨L, o, x2, PySem.W.hideAll_none _ (k env List.mem_cons_self L x2), x3, x4⟩, frames_hide x5 fun e he => k e (List.mem_cons_of_mem _ he)⟩

/-! ### how one lies behind a call -/
def XCx (P : Program) (w : World) (outer : List Env) (H : Hp) (s : Shared) (E : XK) (e : Value) (s' : Shared) : Prop :=
  ∃ (ea : Addr) (cls : Value) (dx : Option Addr) (H' : Hp) (B : Heap), e = .ref ea ∧ s'.os = s.os ∧ AllBare s'.gens ∧ Un (frs outer) [] H H' s.heap s'.heap ∧ HOk P w H' s'.heap ∧ Fly B outer ea cls dx .none s'.heap ∧ H' ea = none ∧ s.heap.get? ea = none ∧
    Kept (frs outer) H H' s.heap B ∧ E cls dx H'
abbrev XC (P : Program) (w : World) (cm : Bool) : CXT := ⟨cm, false, XCx P w⟩
section
variable {cm : Bool} {P : Program} {w : World} {K : PySem.W.Frag} {mg : Str → Option Value} {base : Heap} {N : List Str} {qual : Str} {scope : Scope} {f : Addr} {cd : Value} {A : Around} {outer : List Env} {s : Shared} {H : Hp} {E : XK}
/-- what stays at the very raise -/
theorem Inv.kept_at {pins : List (Addr × Obj)} {σ : St} {Hr : Hp} {sr : Shared} (I : Inv (cxOf (XC P w cm) P w K mg base N qual scope f cd A outer s H E) pins σ Hr sr) :
    (∀ b o, (PySem.W.hideAll sr.heap (frs (envOfC qual scope s.heap.objs.size f cd :: outer))).get? b = some o → sr.heap.get? b = some o) ∧ Kept (frs outer) H Hr s.heap (PySem.W.hideAll sr.heap (frs (envOfC qual scope s.heap.objs.size f cd :: outer))) := by
  have nin : ∀ b o, s.heap.get? b = some o → b ∉ frs outer → b ∉ frs (envOfC qual scope s.heap.objs.size f cd :: outer) := fun b o q hb z => by
    have z' : b ∈ s.heap.objs.size :: frs outer := z
    rcases List.mem_cons.mp z' with e | e
    · exact absurd (Heap.lt_size q) (by rw [e]; exact Nat.lt_irrefl _)
    · exact hb e
  refine ⟨fun b o q => PySem.W.of_hideAll _ q, fun b o q n hb => ?_, fun b o q hb => ?_, fun b n => ?_⟩
  · exact PySem.W.hideAll_get _ (I.base.keep b o q n hb (fun z => absurd (show b ∈ ([] : List Addr) from z) (by simp))) (nin b o q hb)
  · obtain ⟨o', q'⟩ := I.base.there b o q (fun z => absurd (show b ∈ ([] : List Addr) from z) (by simp))
    exact ⟨o', PySem.W.hideAll_get _ q' (nin b o q hb)⟩
  · cases q : Hr b with
    | none => exact absurd q n
    | some x =>
      obtain ⟨u, hu⟩ := (I.hok b x q).some_of
      refine ⟨u, PySem.W.hideAll_get _ hu fun z => ?_⟩
      have := I.stkFree b z
      rw [q] at this
      cases this
/-- raised in a def's own body: the object is new -/
theorem raised_fn {pins : List (Addr × Obj)} {σ : St} {Hr : Hp} {sr : Shared} {h' : Heap} {e : Addr} {cls : Value} {args : List Value} (I : Inv (cxOf (XC P w cm) P w K mg base N qual scope f cd A outer s H E) pins σ Hr sr)
    (m : Heap.MadeExcOf sr.heap h' e cls args) (q : E cls none Hr) : (cxOf (XC P w cm) P w K mg base N qual scope f cd A outer s H E).xe (.ref e) { sr with heap := h' } := by
  obtain ⟨t, he, _, _⟩ := m.there
  obtain ⟨sub, kp⟩ := I.kept_at
  have hen : (PySem.W.hideAll sr.heap (frs (envOfC qual scope s.heap.objs.size f cd :: outer))).get? e = none := by
    cases z : (PySem.W.hideAll sr.heap (frs (envOfC qual scope s.heap.objs.size f cd :: outer))).get? e with
    | none => rfl
    | some o => have := sub e o z; rw [m.new] at this; cases this
  have fr0 : sr.heap.FunFrames base (envOfC qual scope s.heap.objs.size f cd :: outer) := I.stack
  have fr1 : sr.heap.FunFrames (PySem.W.hideAll sr.heap (frs (envOfC qual scope s.heap.objs.size f cd :: outer))) (envOfC qual scope s.heap.objs.size f cd :: outer) :=
    frames_hide fr0 fun env he b hb => List.mem_filterMap.mpr ⟨env, he, hb⟩
  show wpAny (model P w) (A.deeper (envOfC qual scope s.heap.objs.size f cd)) (leaving (envOfC qual scope s.heap.objs.size f cd) (.ref e)) _ _ _
  unfold leaving
  refine wpAny_bind (fly_new (B := PySem.W.hideAll sr.heap (frs (envOfC qual scope s.heap.objs.size f cd :: outer))) I.ok.frames (fr1.of_keeps fun b o z _ => ⟨o, m.keeps b o z, rfl⟩) rfl he (fun b o z => m.keeps b o (sub b o z)) hen fun h1 F1 up1 => ?_)
  refine fly_land F1 fun h2 F2 up2 => ?_
  have un1 : Un (frs outer) [] H Hr s.heap h' := I.base.trans (Un.kept m.keeps)
  have hok1 : HOk P w Hr h' := I.hok.kept m.keeps
  have kpo : Kept (frs outer) H Hr s.heap _ := kp
  have upAll : h'.UpToSlots h2 := up1.trans up2
  have hfs : ∀ b ∈ frs outer, H b = none := I.ok.frf
  have st1 : (PySem.W.hideAll sr.heap (frs (envOfC qual scope s.heap.objs.size f cd :: outer))).StaysIn h' := fun b o z => m.keeps b o (sub b o z)
  have F0 : ∀ b ∈ frs outer, ∃ o, h'.get? b = some o ∧ ∀ vs, o.data ≠ .fields vs := fun b hb => by
    obtain ⟨_, o, q1, nf⟩ := fr1.2.2.mem hb
    exact ⟨o, m.keeps b o q1, nf⟩
  refine ⟨e, cls, none, Hr, _, rfl, I.os, I.bare, ?_, hok1.flown kp.tk st1 F2.st, F2.drop, ?_, ?_, kp, q⟩
  · refine ⟨fun b o q1 n hb _ => F2.st b o (kp.k1 b o q1 n hb), fun b o q1 n hb hx => ?_, un1.free, fun b o q1 hx => ?_, un1.tups, un1.frzs, un1.tbls⟩
    · obtain ⟨sl, q2⟩ := un1.slot b o q1 n hb hx
      obtain ⟨o', q3, nf⟩ := F0 b hb
      rw [q2] at q3
      cases q3
      obtain ⟨sl', q4⟩ := upAll b _ q2 nf
      exact ⟨sl', q4⟩
    · by_cases hb : b ∈ frs outer
      · obtain ⟨o', q3, nf⟩ := F0 b hb
        obtain ⟨sl', q4⟩ := upAll b _ q3 nf
        exact ⟨_, q4⟩
      · obtain ⟨o', q'⟩ := kp.k2 b o q1 hb
        exact ⟨o', F2.st b o' q'⟩
  · cases z : Hr e with
    | none => rfl
    | some x =>
      obtain ⟨u, hu⟩ := (I.hok e x z).some_of
      rw [m.new] at hu
      cases hu
  · cases z : s.heap.get? e with
    | none => rfl
    | some o =>
      obtain ⟨o', q'⟩ := I.base.there e o z (fun z => absurd (show e ∈ ([] : List Addr) from z) (by simp))
      rw [m.new] at q'
      cases q'
/-- an exception of a callee goes on through a def's frame -/
theorem pass_fn {cm' : Bool} (hcm : cm' = true → cm = true) : Passes (XC P w cm') (cxOf (XC P w cm) P w K mg base N qual scope f cd A outer s H E) E := by
  refine ⟨hcm, rfl, fun pins σ H1 s1 e s' I hx => ?_⟩
  obtain ⟨ea, cls, dx, H', B, rfl, os, bare, un, hok, F, hn, hfr, kp, q⟩ := (show XCx P w (envOfC qual scope s.heap.objs.size f cd :: outer) H1 s1 E e s' from hx)
  show wpAny (model P w) (A.deeper (envOfC qual scope s.heap.objs.size f cd)) (leaving (envOfC qual scope s.heap.objs.size f cd) (.ref ea)) _ _ _
  unfold leaving
  refine wpAny_bind (fly_on I.ok.frames rfl F fun h1 F1 up1 => ?_)
  refine fly_land F1 fun h2 F2 up2 => ?_
  have hst : ∀ b ∈ frs (envOfC qual scope s.heap.objs.size f cd :: outer), H1 b = none := I.stkFree
  have un2 : Un (frs (envOfC qual scope s.heap.objs.size f cd :: outer)) [] H1 H' s1.heap h2 := un.flown kp hst F (up1.trans up2) F2.st
  have hok2 : HOk P w H' h2 := hok.flown kp.tk F.st F2.st
  have I2 : Inv (cxOf (XC P w cm) P w K mg base N qual scope f cd A outer s H E) pins σ H' { s' with heap := h2 } := I.call' (ch := []) (s' := { s' with heap := h2 }) os un2 hok2 bare (fun b z => absurd z (by simp))
  have nin : ∀ b o, s.heap.get? b = some o → b ∉ frs outer → b ∉ frs (envOfC qual scope s.heap.objs.size f cd :: outer) := fun b o q hb z => by
    have z' : b ∈ s.heap.objs.size :: frs outer := z
    rcases List.mem_cons.mp z' with e | e
    · exact absurd (Heap.lt_size q) (by rw [e]; exact Nat.lt_irrefl _)
    · exact hb e
  have noE : ∀ b, b ∉ ([] : List Addr) := fun b z => absurd z (by simp)
  refine ⟨ea, cls, dx, H', B, rfl, I2.os, bare, I2.base, hok2, F2.drop, hn, ?_, ⟨fun b o z n hb => ?_, fun b o z hb => ?_, kp.tk⟩, q⟩
  · cases z : s.heap.get? ea with
    | none => rfl
    | some o =>
      obtain ⟨o', q'⟩ := I.base.there ea o z (noE ea)
      rw [hfr] at q'
      cases q'
  · exact kp.k1 b o (I.base.keep b o z n hb (noE b)) (I.base.free b o z n (noE b)) (nin b o z hb)
  · obtain ⟨o', q'⟩ := I.base.there b o z (noE b)
    exact kp.k2 b o' q' (nin b o z hb)
end
end L2

/-! EXT 3: raise, try. -/
namespace L2
open PySem PySem.Spec PyProof.Rows

/-! ### raise C(..), C an own class of exceptions without __init__ -/
theorem exc_of_in {K : PySem.W.Frag} {h : Heap} {C : Addr} {bmB : List Value} {newId : String} (kin : K.In h) (t : PySem.W.excIn K C bmB newId = true) :
    ∃ bm N nm qn bs hd sn sub ab col dd k0 k1 k2 k3 k5 mN, h.get? C = some (excClassObj nm qn C N bs bm hd sn sub ab col dd k0 k1 k2 k3 k5 newId) ∧ h.Ns N mN ∧ mN "__init__" = none ∧ OwnTail h bmB bm := by
  unfold PySem.W.excIn at t
  split at t
  · rename_i dd cd sl lk
    split at t
    · rename_i C' bm k0 k1 k2 k3 n k5 em es
      simp only [Bool.and_eq_true, beq_iff_eq, Bool.not_eq_true'] at t
      obtain ⟨⟨⟨⟨⟨t1, t2⟩, t3⟩, t4⟩, t5⟩, t6⟩ := t
      subst t1 t2
      obtain ⟨nm, bs, mro, ns, qn, hd, sn, sub, ab, col, del⟩ := cd
      dsimp only at em t3 t5 t6
      subst em t3
      obtain ⟨sl⟩ := sl
      simp only at es
      subst es
      exact ⟨bm, ns, nm, qn, bs, hd, sn, sub, ab, col, dd, k0, k1, k2, k3, k5, _, kin _ _ lk, .of_isNs (PySem.W.isNs_of_in kin t5), PySem.W.nsMap_none_of_in kin t5 t6, PySem.W.tail_of_in kin t4⟩
    · cases t
  · cases t
/-- an exception that is made here reaches what this code wants of exceptions -/
def Raises (X : Cx) (cls : Value) (E : XK) : Prop := ∀ (pins : List (Addr × Obj)) (σ : St) (H : Hp) (s : Shared) (h' : Heap) (e : Addr) (args : List Value), Inv X pins σ H s → Heap.MadeExcOf s.heap h' e cls args → E cls none H → X.xe (.ref e) { s with heap := h' }
def tRaise (C : Addr) (E : XK) (ta : TA) : TS := fun _ σ H => ta σ H fun vs H1 => vs.length ≤ sizeLine ∧ E (.ref C) none H1
theorem ps_raise {X : Cx} {x : Str} {C : Addr} {E : XK} {bmB : List Value} {newId initId B : String} {np cpos pos : Pos} {e : Expr} {es : List Expr} {ta : TA} (hc : X.calm = true) (hg : Gl X x) (hm : X.mg x = some (.ref C))
    (t : PySem.W.excIn X.K C bmB newId = true) (F : ExcBaseFacts B newId initId bmB) (hb : bmB.contains (.type "BaseException") = true) (hR : Raises X (.ref C) E) (ha : PA X (e :: es) ta)
    (hdb : (x == ("__debug__" : Str)) = false := by decide) (he : starEach (e :: es) X.env = (false, eval e X.env) :: starEach es X.env := by rfl) (hpl : (backTo cpos (starEach es X.env)).any (·.1) = false := by rfl) :
    PS X (.Raise (some (.Call (.Name x np) (e :: es) [] cpos)) none pos) (tRaise C E ta) := by
  intro pins s σ H D I h
  obtain ⟨bm, N, nm, qn, bs, hd, sn, sub, ab, col, dd, k0, k1, k2, k3, k5, mN, hC, hN, hni, TL⟩ := exc_of_in I.ok.mod.kin t
  have hplain : (backTo cpos (starEach (e :: es) X.env)).any (·.1) = false := by
    rw [he]
    show (false || (backTo cpos (starEach es X.env)).any (·.1)) = false
    rw [hpl]
    rfl
  refine wpAny_Raise_call_subT (C := C) (nm := nm) (q := qn) (N := N) (bs := bs) (bm := bm) (hdct := hd) (sn := sn) (sub := sub) (ab := ab) (col := col) (dd := dd) (k0 := k0) (k1 := k1) (k2 := k2) (k3 := k3) (k5 := k5) F (TL.hasType hb) (I.ok.hd hc) hplain hni (ld_glob I hg hm ⟨rfl, ?_⟩ hdb)
  have hs := ha cpos pins s σ H _ I h
  rw [he] at hs ⊢
  refine Calls.evalArgs_plain (thn hs fun us s2 ⟨vs, H1, I1, r, hz, q⟩ => ⟨rfl, ?_, I1.bk _ _ hC, hN.keeps I1.bk, TL.keeps I1.bk, fun h' e' m => hR pins σ H1 s2 h' e' us I1 m q⟩)
  rw [← r.length]
  exact hz
theorem raises_fn {cm : Bool} {P : Program} {w : World} {K : PySem.W.Frag} {mg : Str → Option Value} {base : Heap} {N : List Str} {qual : Str} {scope : Scope} {f : Addr} {cd : Value} {A : Around} {outer : List Env} {s : Shared} {H : Hp} {E : XK} {cls : Value} :
    Raises (cxOf (XC P w cm) P w K mg base N qual scope f cd A outer s H E) cls E := fun _ _ _ _ _ _ _ I m q => raised_fn I m q

/-! ### a call that may raise, amid a try -/
def PEX (X : Cx) (E : XK) (e0 : Expr) (t : TE) : Prop :=
  ∀ (pins : List (Addr × Obj)) (s : Shared) (σ : St) (H : Hp) (Q : VK), Inv X pins σ H s → t σ H Q →
    wpAny (model X.prog X.w) X.A (eval e0 X.env) (EP X pins σ Q) (fun e s' => ∃ H1 s1, Inv X pins σ H1 s1 ∧ XCx X.prog X.w X.stack H1 s1 E e s') s
theorem pex_call {X : Cx} {cm : Bool} {k : Nat} {f : Addr} {fd : FuncData} {ps : List Str} {sp : Sp} {dvs : List V} {ds : List Value} {E : XK} {x : Str} {p pos : Pos} {e : Expr} {es : List Expr} {t : TA}
    (F : FnOk X.prog X.w X.K X.mg X.base (XC X.prog X.w cm) k f fd ps sp) (hr : Room k X.A) (hg : Gl X x) (hm : X.mg x = some (.ref f)) (hk : PySem.W.keepIn X.K (.ref f) = true) (hb : Binds X.K fd ps ds) (hd : Vals dvs ds) (hcm : cm = true → X.calm = true)
    (ha : PA X.nox (e :: es) t) (hdb : (x == ("__debug__" : Str)) = false := by decide) (he : starEach (e :: es) X.env = (false, eval e X.env) :: starEach es X.env := by rfl) (hpl : (backTo pos (starEach es X.env)).any (·.1) = false := by rfl) :
    PEX X E (.Call (.Name x p) (e :: es) [] pos) (tCall sp dvs E t) := by
  intro pins s σ H Q I h
  refine wpAny_Call_Name_kw (ld_glob I hg hm ?_ hdb)
  refine PySem.W.callWith_K (h₀ := X.base) I.ok.mod.kin hk (wpAny_mono (ha pos pins s σ H _ (I.wish _) h) (fun us s1 ⟨vs, H1, I1, r, q⟩ => ⟨I1.unwish.kIn, ?_⟩) fun _ _ z => False.elim z) he hpl
  have r2 : Vals (vs ++ dvs) (us ++ ds) := r.append hd
  have hl : (us ++ ds).length = ps.length := by rw [← r2.length]; exact F.len _ _ _ _ q
  have J := I1.unwish
  refine wpAny_call (codeAny_mono (F.run X.A X.stack s1 H1 ⟨us, []⟩ (us ++ ds) (vs ++ dvs) Q E hr (fun z => J.ok.hd (hcm z)) (fun z => Bool.noConfusion z) J.env0 (hb s1 us J.kIn hl) r2 q) fun r s' hq => ?_)
  cases r with
  | error e => exact ⟨H1, s1, J, hq⟩
  | ok fl =>
    cases fl with
    | ret u => exact J.after hq
    | next => exact False.elim hq
    | brk => exact False.elim hq
    | cont => exact False.elim hq

/-! ### within an except suite -/
abbrev cxS (X : Cx) (e : Addr) : Cx := { X with A := X.A.mark (some (.ref e)), calm := false, suit := false, xe := fun _ _ => False }
theorem Inv.suite {X : Cx} {pins : List (Addr × Obj)} {σ : St} {H : Hp} {s : Shared} (I : Inv X pins σ H s) (e : Addr) : Inv (cxS X e) pins σ H s :=
  ⟨⟨I.ok.mod, I.ok.kind, I.ok.glob, I.ok.blt, I.ok.above, I.ok.inj, I.ok.has, I.ok.cab, fun z => Bool.noConfusion z, I.ok.frames, I.ok.stk, I.ok.exf, I.ok.bs, I.ok.bsz, I.ok.noex, I.ok.exfs, I.ok.funs, I.ok.frf, fun z => Bool.noConfusion z⟩, I.os, I.bare, I.base, I.loc, I.cell, I.free, I.freeC, I.pin, I.hok, I.len⟩
/-- all names forgotten: the frame's own map has changed -/
theorem Inv.forget {X : Cx} {pins : List (Addr × Obj)} {σ : St} {H : Hp} {s : Shared} {h' : Heap} {m' : Str → Option Value} {t' : Nat} (I : Inv X pins σ H s) (hn : h'.Ns X.env.locals m') (sb : Heap.SameBut X.env.locals s.heap h') :
    Inv X pins (List.replicate X.N.length none) H { s with heap := h', toks := t' } := by
  have neL : ∀ b o, X.s₀.heap.get? b = some o → b ≠ X.env.locals := fun b o e => Nat.ne_of_lt (Nat.lt_of_lt_of_le (Heap.lt_size e) I.ok.above)
  have kp : ∀ b o, b ≠ X.env.locals → s.heap.get? b = some o → h'.get? b = some o := fun b o hb e => (sb.2 b hb).trans e
  refine ⟨I.ok, I.os, I.bare, ⟨fun b o e n hb hx => kp b o (neL b o e) (I.base.keep b o e n hb hx), fun b o e n hb hx => ?_, I.base.free, fun b o e hx => ?_, I.base.tups, I.base.frzs, I.base.tbls⟩, ⟨m', hn, fun i x v e1 e2 _ => ?_⟩, fun x c e => ?_, I.free, I.freeC, fun p hp => ?_, fun b o e => ?_, by simp⟩
  · obtain ⟨sl, q⟩ := I.base.slot b o e n hb hx
    exact ⟨sl, kp b _ (neL b o e) q⟩
  · obtain ⟨o', q⟩ := I.base.there b o e hx
    exact ⟨o', kp b o' (neL b o e) q⟩
  · rw [List.getElem?_replicate] at e2
    split at e2 <;> cases e2
  · obtain ⟨v, z⟩ := I.cell x c e
    exact ⟨v, z.sameBut sb (I.cne x c e)⟩
  · obtain ⟨e, n, ne, nf, d⟩ := I.pin p hp
    exact ⟨kp p.1 p.2 ne e, n, ne, nf, d⟩
  · refine (I.hok b o e).stay (fun c u hc q => kp c u ?_ q) (fun _ q => q) fun _ _ q => q
    rintro rfl
    rcases hc with z | z
    · rw [← z, I.free] at e; cases e
    · rw [I.free] at z; cases z
/-- an untracked thing is tracked -/
theorem HOk.track {P : Program} {w : World} {H : Hp} {h : Heap} {a : Addr} {o : HO} (x : HOk P w H h) (hn : H a = none) (new : ObjOk P w (upd H a o) h a o) : HOk P w (upd H a o) h := fun b u e => by
  by_cases hb : b = a
  · subst hb; rw [upd_same] at e; cases e; exact new
  · rw [upd_ne hb] at e
    exact (x b u e).stay (fun _ _ _ q => q) (fun c q => by rw [upd_ne (ne_of_none q hn)]; exact q) fun c xs q => by rw [upd_ne (ne_of_none q hn)]; exact q
theorem Un.track {fs : List Addr} {H H' : Hp} {h h' : Heap} {a : Addr} {o : HO} (u : Un fs [] H H' h h') (ha : h.get? a = none) (hn : H' a = none) : Un fs [] H (upd H' a o) h h' where
  keep := u.keep
  slot := u.slot
  free := fun b ob e n hx => by
    rw [upd_ne (by rintro rfl; rw [ha] at e; cases e)]
    exact u.free b ob e n hx
  there := u.there
  tups := fun b xs e => by
    have := u.tups b xs e
    rw [upd_ne (ne_of_none this hn)]
    exact this
  frzs := fun b ob z e => by
    have := u.frzs b ob z e
    rw [upd_ne (ne_of_none this hn)]
    exact this
  tbls := fun b ps e => by
    obtain ⟨m, q⟩ := u.tbls b ps e
    exact ⟨m, by rw [upd_ne (ne_of_none q hn)]; exact q⟩
theorem xHO_ok {P : Program} {w : World} {H : Hp} {h : Heap} {e : Addr} {ob : Obj} (q : h.get? e = some ob) : ObjOk P w H h e (xHO e ob) :=
  ⟨q, q, ⟨ob, q⟩, fun h1 h2 a k => k ob a⟩

/-! ### try: call, except C as n: suite that returns -/
/-- wants: the call's own end; of an exception: it is caught, and the suite, over the heap with the exception in it, returns -/
def xTry (K : PySem.W.Frag) (c : Value) (i : Nat) (ts : Addr → TS) (D : Ends) (σ : St) : XK := fun cls dx H' => PySem.W.exmOne K cls c = some true ∧
  ∀ e a0 tb, H' e = none → ts e { D with nx := fun _ _ => False, bk := fun _ _ => False, ct := fun _ _ => False } (σ.set i (some (.ref e))) (upd H' e (xHO e (xObj cls dx a0 tb)))
section
variable {X : Cx} {x n : Str} {np hpos pos p1 : Pos} {c0 : Expr} {b₀ : Stmt} {suite : List Stmt} {i : Nat} {ts : Addr → TS} {tc : XK → TE} {c : Value} {v0 : V}
/-- from the place where it came up -/
theorem handle {pins : List (Addr × Obj)} {σ : St} {H1 : Hp} {s1 s' : Shared} {D : Ends} {e : Value} (hst : X.stack = X.env :: X.outer) (hf : X.env.frame = some X.env.locals) (hg : Gl X x) (hm : X.mg x = some c) (rc : RelV v0 c)
    (hs : ∀ e, PSs (cxS X e) (b₀ :: suite) (ts e)) (hN : X.N.Nodup) (hi : X.N[i]? = some n) (hl : X.env.scope.names.lookup n = some .local) (I : Inv X pins σ H1 s1) (hx : XCx X.prog X.w X.stack H1 s1 (xTry X.K c i ts D σ) e s')
    (hdb : (x == ("__debug__" : Str)) = false := by decide) :
    wpAny (model X.prog X.w) X.A (noteFrame e X.env) (fun _ s₂ => wpAny (model X.prog X.w) X.A (setFlight e none) (fun _ s₃ => wpAny (model X.prog X.w) X.A (handleBy e X.env [.ExceptHandler (some (.Name x np)) (some n) (b₀ :: suite) hpos]) (SP X pins D) X.xe s₃) X.xe s₂) X.xe s' := by
  obtain ⟨ea, cls, dx, H', B, rfl, os, bare, un, hok, F, hn, hfr, kp, hm1, hq⟩ := hx
  have hframes : X.A.frames = some (X.env :: X.outer) := by rw [← hst]; exact I.ok.frames
  have F0 : Fly B (X.env :: X.outer) ea cls dx .none s'.heap := by rw [← hst]; exact F
  refine fly_on hframes hf F0 fun h4 F4 up4 => ?_
  refine fly_land F4 fun h5 F5 up5 => ?_
  -- the state as it stands at any landing
  have land : ∀ {h6 : Heap} {fl : Value}, Fly B (X.env :: X.outer) ea cls dx fl h6 → s'.heap.UpToSlots h6 → Un (frs X.stack) [] H1 H' s1.heap h6 ∧ HOk X.prog X.w H' h6 := fun {h6 fl} F6 up => by
    refine ⟨un.flown kp I.stkFree F up F6.st, hok.flown kp.tk F.st F6.st⟩
  obtain ⟨un5, hok5⟩ := land F5 (up4.trans up5)
  have I5 : Inv X pins σ H' { s' with heap := h5 } := I.call' (ch := []) (s' := { s' with heap := h5 }) os un5 hok5 bare (fun b z => absurd z (by simp))
  obtain ⟨a0, T, oT, tss, he5, _⟩ := F5.ob
  have LT : PySem.W.Looks (model X.prog X.w) h5 (typeOf (.ref ea)) cls := (PySem.W.Looks.ld he5).andThen .now
  refine wpAny_handleBy_cons (codeAny_handlers_test (ld_glob (X := cxS X ea) (I5.suite ea) hg hm ?_ hdb)) (by intro z; cases z)
  refine (PySem.W.exm_one I5.kIn LT hm1).here ?_
  refine codeAny_handlers_suite_as (wpAny_noRaise ?_)
  refine fly_land F5 fun h6 F6 up6 => ?_
  obtain ⟨un6, hok6⟩ := land F6 ((up4.trans up5).trans up6)
  obtain ⟨a6, T6, oT6, ts6, he6, _⟩ := F6.ob
  have hokT : HOk X.prog X.w (upd H' ea (xHO ea (xObj cls dx a6 (.ref T6)))) h6 := hok6.track hn (xHO_ok he6)
  have I6 : Inv X pins σ (upd H' ea (xHO ea (xObj cls dx a6 (.ref T6)))) { s' with heap := h6 } := I.call' (ch := []) (s' := { s' with heap := h6 }) os (un6.track hfr hn) hokT bare (fun b z => absurd z (by simp))
  refine store_ok (X := cxS X ea) (i := i) (v := .ref ea) (I6.suite ea) hN hi (.inl hl) rfl (fun s7 I7 => ?_) (.inr hl)
  refine wpAny_mono (hs ea pins s7 _ _ _ I7 (hq ea a6 (.ref T6) hn)) (fun fl s8 q8 => ?_) fun _ _ z => False.elim z
  -- behind the suite: the name goes
  show wpAny (model X.prog X.w) X.A (do bindName X.env n .none; unbindBehindTheSuite X.env n hpos) (fun _ s9 => SP X pins D fl s9) X.xe s8
  cases fl with
  | next => obtain ⟨_, _, _, z⟩ := q8; exact False.elim z
  | brk => obtain ⟨_, _, _, z⟩ := q8; exact False.elim z
  | cont => obtain ⟨_, _, _, z⟩ := q8; exact False.elim z
  | ret u =>
    obtain ⟨v, σ8, H8, I8, r8, z8⟩ := q8
    have J8 : Inv X pins σ8 H8 s8 := ⟨I.ok, I8.os, I8.bare, I8.base, I8.loc, I8.cell, I8.free, I8.freeC, I8.pin, I8.hok, I8.len⟩
    obtain ⟨m, hm8, _⟩ := J8.loc
    exact wpAny_nameGoes hl hm8 (by rw [I.ok.kind]; rfl) fun h9 m9 hn9 sb9 => ⟨v, _, H8, J8.forget hn9 sb9, r8, z8⟩
end
end L2

namespace L2
open PySem PySem.Spec PyProof.Rows
section
variable {K : PySem.W.Frag}
/-- what an own class of exceptions must tell for its attributes -/
structure XCls (K : PySem.W.Frag) (C : Addr) : Prop where
  hd : PySem.W.hasDictIn K C = true
  ga : PySem.W.findIn K (.ref C) "__getattribute__" = some (some (.builtin "BaseException.__getattribute__"))
  gx : PySem.W.findIn K (.ref C) "__getattr__" = some none
  ca : PySem.W.findIn K (.ref C) "__class__" = some (some (.builtin "object.__class__"))
  gs : PySem.W.specialIn K (.builtin "object.__class__") "__get__" = some (some (.builtin "getset_descriptor.__get__"))
  ts : PySem.W.takesIn K (.builtin "object.__class__") = some true
  mo : PySem.W.mroIn K C (.type "object") = some true
  mb : PySem.W.mroIn K C (.type "BaseException") = some true
variable {prog : Program} {w : World} {A : Around} {E : Value → Shared → Prop} {s : Shared} {e C : Addr} {oe : Obj} {od : Option Obj} {name : Str}
theorem bexc_kind : builtinKind "BaseException.__getattribute__" = some .slot := by decide +kernel
theorem bexc_split : splitId "BaseException.__getattribute__" = some ("BaseException", "__getattribute__") := by decide +kernel
theorem bexc_plain : plainId "BaseException.__getattribute__" = true := by decide +kernel
theorem bexc_check {M : Model} {A : Around} {E : Value → Shared → Prop} {s : Shared} {e : Addr} {v : Value} {Q : Unit → Shared → Prop} (L : PySem.W.Looks M s.heap (isInstance (.ref e) (.type "BaseException")) true) (q : Q () s) :
    wpAny M A (checkBuiltinCall "BaseException.__getattribute__" ⟨[.ref e, v], []⟩) Q E s :=
  PySem.W.check_slot (i := "BaseException.__getattribute__") (owner := "BaseException") (n := "__getattribute__") (self := .ref e) (rest := [v]) (kw := []) bexc_kind bexc_split L (F.args_bexc_ga _ _) q
theorem xexc {M : Model} (Z : XCls K C) (X : K.In s.heap) (I : PySem.W.InstAt s.heap e oe C od) : PySem.W.Looks M s.heap (isInstance (.ref e) (.type "BaseException")) true := by
  unfold isInstance
  exact PySem.W.Looks.andThen I.type (PySem.W.looks_mroIn X Z.mb)
theorem xattr {tk : Tok} {expr fill : Bool} {Q : Value → Shared → Prop} (Z : XCls K C) (X : K.In s.heap) (I : PySem.W.InstAt s.heap e oe C od)
    (h : codeAny (model prog w) A (.call (.builtin "BaseException.__getattribute__") ⟨[.ref e, .str name tk], []⟩) (fun r s' => match r with | .ok (.ret v) => wpAny (model prog w) A (handedOut v) Q E s' | _ => False) s) :
    wpAny (model prog w) A (getAttrBy (.ref e) (.str name tk) fill expr) Q E s := by
  obtain ⟨hh, g, d, t, os⟩ := s
  have L0 := I.type (M := model prog w)
  have L1 := PySem.W.looks_findIn (M := model prog w) X Z.ga
  unfold getAttrBy
  refine wpAny_holding (wpAny_bind (L0.at (wpAny_bind (L1.at ?_))))
  dsimp only
  have hne : (Value.builtin "BaseException.__getattribute__" == Value.builtin "object.__getattribute__") = false := by decide +kernel
  rw [if_neg (by rw [hne, Bool.and_false]; exact Bool.false_ne_true)]
  unfold getAttrByItsOwn
  refine wpAny_bind ((PySem.W.looks_hook (M := model prog w) X (mc := .ref C) (r := none) (by show (if true = true then _ else _) = _; rw [if_pos rfl]; exact Z.gx)).at ?_)
  unfold callGetattribute
  rw [if_neg (by show ¬ ((expr && false) = true); rw [Bool.and_false]; exact Bool.false_ne_true)]
  unfold boundAndCalled
  refine wpAny_bind (wpAny_attempt (wpAny_holding (wpAny_bind (wpAny_of_eq (F.excAttr_ValueError.ga.bind (.ref e)) ?_))))
  dsimp only
  refine wpAny_call (codeAny_mono h fun r s' hr => ?_)
  cases r with
  | error x => exact False.elim hr
  | ok f =>
    cases f with
    | ret v => exact hr
    | next => exact False.elim hr
    | brk => exact False.elim hr
    | cont => exact False.elim hr
theorem xcls_attr {Q : Option Value → Shared → Prop} (Z : XCls K C) (X : K.In s.heap) (I : PySem.W.InstAt s.heap e oe C od) (h : Q (some (.ref C)) { s with toks := s.toks + 1 }) : wpAny (model prog w) A (getAttr? (.ref e) "__class__") Q E s := by
  obtain ⟨hh, g, d, t, os⟩ := s
  have L0 := I.type (M := model prog w)
  have hf : PySem.W.findObj K C od "__class__" = some (.bind (.builtin "getset_descriptor.__get__") (.builtin "object.__class__")) := by
    obtain ⟨cd, hc, _⟩ := PySem.W.any_some Z.hd
    unfold PySem.W.findObj
    rw [hc, Option.bind_some, Z.ca, Option.bind_some]
    simp [Z.gs, Z.ts]
  have L1 := PySem.W.looks_find (M := model prog w) X I hf
  unfold getAttr? getAttrBy?
  refine wpAny_bind (wpAny_mkText (wpAny_bind (wpAny_attempt (xattr Z X I (codeAny_call_builtin bexc_plain F.entry_bexc_ga (bexc_check (xexc Z X I) ?_))))))
  unfold Builtin.«object.__getattribute__»
  refine wpAny_bind (wpAny_pure ?_)
  dsimp only
  refine wpAny_bind (wpAny_pure (wpAny_bind (L0.at (wpAny_bind (L1.at ?_)))))
  dsimp only
  unfold Builtin.ObjectAttr.bindTo
  dsimp only
  refine wpAny_bind (wpAny_holding (wpAny_call (PySem.W.class_get (od := od) X I Z.mo ?_)))
  refine wpAny_pure ?_
  show wpAny _ _ (handedOut (.ref C)) _ _ _
  rw [PySem.W.handedOut_of rfl]
  exact wpAny_pure (wpAny_pure h)
theorem kitx_exc {K : PySem.W.Frag} {C e : Addr} {oe : Obj} {od : Option Obj} (Z : XCls K C) : PySem.W.KitX K (.ref e) (.ref C) (fun h => PySem.W.InstAt h e oe C od) where
  ty := fun _ _ _ I => I.type
  it := fun _ _ X _ => by
    obtain ⟨cdD, hcD, _⟩ := PySem.W.any_some Z.hd
    unfold PySem.W.clsIn at hcD
    split at hcD
    · rename_i c' d' cd' sl' ho
      intro A' Q' E' s' k q
      unfold isType loadHead
      exact wpAny_bind (wpAny_loadPart (k _ _ (X _ _ ho)) (wpAny_pure q))
    · cases hcD
  ne := fun h tp dd its n sl X htp => by
    obtain ⟨cdD, hcD, _⟩ := PySem.W.any_some Z.hd
    refine Bool.eq_false_iff.mpr fun q => ?_
    have e : C = tp := Value.ref.inj (beq_iff_eq.mp q)
    subst e
    unfold PySem.W.clsIn at hcD
    split at hcD
    · rename_i c' d' cd' sl' ho
      have := X _ _ ho
      rw [htp] at this
      cases this
    · cases hcD
  ca := fun X I q => xcls_attr Z X I q
/-- isinstance(e, c), e an exception that is held -/
theorem call_isinstX {X : Cx} : CallR X (.builtin "isinstance") (fun xs H Q => ∃ e C dx a0 tb c cv b, xs = [.ref e, c] ∧ H e = some (xHO e (xObj (.ref C) dx a0 tb)) ∧ XCls X.K C ∧ (dx = none ∨ ∃ d fs, dx = some d ∧ H d = some (.xd fs)) ∧ ((∃ a, c = .ref a ∧ cv = .ref a) ∨ ∃ T, c = .ty T ∧ cv = .type T) ∧ PySem.W.kitOne X.K (.ref C) cv = some b ∧ Q (.bl b) H) := by
  intro pins s σ H xs us Q I r h
  obtain ⟨e, C, dx, a0, tb, c, cv, b, rfl, hE, Z, hdx, hcv, hk, q⟩ := h
  obtain ⟨u, w', rfl, rx, rc'⟩ := vals2 r
  cases (show u = Value.ref e from rx)
  obtain ⟨he, _⟩ := I.hok e _ hE
  have ec : w' = cv := by
    rcases hcv with ⟨a, rfl, rfl⟩ | ⟨T, rfl, rfl⟩
    · exact rc'
    · exact rc'
  subst ec
  have IA : ∃ od, PySem.W.InstAt s.heap e (xObj (.ref C) dx a0 tb) C od := by
    rcases hdx with rfl | ⟨d, fs, rfl, hd⟩
    · exact ⟨none, he, rfl, rfl, trivial⟩
    · obtain ⟨o, eo⟩ := (I.hok d _ hd).some_of
      exact ⟨some o, he, rfl, rfl, eo⟩
  obtain ⟨od, IA⟩ := IA
  exact PySem.W.kia_one (kitx_exc Z) I.kIn IA hk (fun z => nomatch z) fun tk => ⟨.bl b, H, I.tok tk, rfl, q⟩
end
end L2

namespace L2
open PySem PySem.Spec PyProof.Rows
section
variable {X : Cx} {pins : List (Addr × Obj)} {σ : St} {H : Hp} {s : Shared}
theorem Inv.big (I : Inv X pins σ H s) : sysModules < s.heap.objs.size := by
  have h : mainGlobals < s.heap.objs.size := (I.mod.glob.keeps I.bk).lt
  exact Nat.lt_trans (by decide) h

theorem dk_empty {P : Program} {w : World} {H : Hp} (h : Heap) (hb : sysModules < h.objs.size) : ObjOk P w H (h.push { cls := .type "dict", data := .dict #[] }) h.objs.size (.dK []) :=
  ⟨Nat.zero_le _, beq_eq_false_iff_ne.mpr (Ne.symm (Nat.ne_of_lt hb)), [], .nil, Heap.DictOf.new h⟩
def tDNewK : TE := fun _ H Q => ∀ p, H p = none → Q (.ref p) (upd H p (.dK []))
/-- a call of a def that stands within an except suite alone -/
def tCallS (X : Cx) (sp : Sp) (t : TA) : TE := fun σ H Q => t σ H fun vs H1 => Hd X.A H1 ∧ sp vs H1 Q E0
theorem pe_callS {k : Nat} {f : Addr} {fd : FuncData} {ps : List Str} {sp : Sp} {x : Str} {p pos : Pos} {e : Expr} {es : List Expr} {t : TA}
    (F : FnOk X.prog X.w X.K X.mg X.base CXS k f fd ps sp) (hr : Room k X.A) (hg : Gl X x) (hm : X.mg x = some (.ref f)) (hk : PySem.W.keepIn X.K (.ref f) = true) (hb : Binds X.K fd ps [])
    (ha : PA X (e :: es) t) (hdb : (x == ("__debug__" : Str)) = false := by decide) (he : starEach (e :: es) X.env = (false, eval e X.env) :: starEach es X.env := by rfl) (hpl : (backTo pos (starEach es X.env)).any (·.1) = false := by rfl) :
    PE X (.Call (.Name x p) (e :: es) [] pos) (tCallS X sp t) := by
  intro pins s σ H Q I h
  refine wpAny_Call_Name_kw (ld_glob I hg hm ?_ hdb)
  refine PySem.W.callWith_K (h₀ := X.base) I.ok.mod.kin hk (thn (ha pos pins s σ H _ I h) fun us s1 ⟨vs, H1, I1, r, hd, q⟩ => ⟨I1.kIn, ?_⟩) he hpl
  have hl : us.length = ps.length := by rw [← r.length]; exact F.len _ _ _ _ q
  refine wpAny_call (codeAny_mono (F.run X.A X.stack s1 H1 ⟨us, []⟩ us vs Q E0 hr (fun z => Bool.noConfusion z) (fun _ => hd) I1.env0 (by have z := hb s1 us I1.kIn (by rw [List.append_nil]; exact hl); rw [List.append_nil] at z; exact z) r q) fun r s' hq => ?_)
  cases r with
  | error e => exact False.elim hq
  | ok fl =>
    cases fl with
    | ret u => exact I1.after hq
    | next => exact False.elim hq
    | brk => exact False.elim hq
    | cont => exact False.elim hq
end
end L2

/-! EXT 5: f-strings; exceptions with an __init__ and fields of their own. -/
namespace L2
open PySem PySem.Spec PyProof.Rows

/-! ### f-strings -/
section
variable {X : Cx}
def PJ (X : Cx) (es : List Expr) (t : Str → TE) : Prop :=
  ∀ (pins : List (Addr × Obj)) (s : Shared) (σ : St) (H : Hp) (Q : VK) (acc : Str), Inv X pins σ H s → t acc σ H Q → wpAny (model X.prog X.w) X.A (joinParts acc (evalEach es X.env)) (EP X pins σ Q) X.xe s
def jNil : Str → TE := fun acc _ H Q => acc.length ≤ sizeLine ∧ Q (.str acc) H
def jCons (t : TE) (u : Str → TE) : Str → TE := fun acc σ H Q => t σ H fun x H1 => ∃ y, x = .str y ∧ (acc ++ y).length ≤ sizeLine ∧ u (acc ++ y) σ H1 Q
theorem pj_nil : PJ X [] jNil := fun pins s σ H Q acc I h => joinParts_nil (show EP X pins σ Q _ _ from ⟨.str acc, H, I.tok _, ⟨_, rfl⟩, h.2⟩) h.1
theorem pj_cons {e : Expr} {es : List Expr} {t : TE} {u : Str → TE} (he : PE X e t) (hr : PJ X es u) : PJ X (e :: es) (jCons t u) := fun pins s σ H Q acc I h => by
  show wpAny _ _ (joinParts acc (eval e X.env :: evalEach es X.env)) _ _ _
  refine joinParts_cons (thn (he pins s σ H _ I h) fun v s1 ⟨x, H1, I1, r, y, ex, hz, q⟩ => ?_)
  subst ex
  obtain ⟨t, rfl⟩ := r
  exact ⟨hz, hr pins s1 σ H1 Q (acc ++ y) I1 q⟩
theorem pe_joined {v₁ v₂ : Expr} {rest : List Expr} {pos : Pos} {t : Str → TE} (h : PJ X (v₁ :: v₂ :: rest) t) : PE X (.JoinedStr (v₁ :: v₂ :: rest) pos) (t Str.empty) := fun pins s σ H Q I q =>
  JoinedStr_many (h pins s σ H Q Str.empty I q)
def tFmt (t : TE) : TE := fun σ H Q => t σ H fun x H1 => (∃ y, x = .str y ∧ y.length ≤ sizeLine ∧ Q (.str y) H1) ∨ ∃ i, x = .int i ∧ i.natAbs.log2 < 1920 ∧ Q (.str (toString i)) H1
theorem pe_fmt {e : Expr} {pos : Pos} {t : TE} (he : PE X e t) : PE X (.FormattedValue e (-1) none pos) (tFmt t) := fun pins s σ H Q I h => by
  refine FormattedValue_plain (thn (he pins s σ H _ I h) fun v s1 ⟨x, H1, I1, r, q⟩ => ?_)
  rcases q with ⟨y, ex, hz, q⟩ | ⟨i, ex, hl, q⟩
  · subst ex
    obtain ⟨t, rfl⟩ := r
    exact formatField_str (fun t' tk => (show EP X pins σ Q _ _ from ⟨.str y, H1, I1.tok tk, ⟨_, rfl⟩, q⟩)) hz
  · subst ex
    obtain ⟨t, rfl⟩ := r
    exact PySem.wpAny_formatField_int hl (show EP X pins σ Q _ _ from ⟨.str (toString i), H1, I1.tok _, ⟨_, rfl⟩, q⟩)
end

/-! ### an exception that is being made -/
def xcO (e C : Addr) (dx : Option Addr) : HO := .ext fun h => ∃ a0, h.get? e = some (xObj (.ref C) dx a0 .none)
theorem xcO_ok {P : Program} {w : World} {H : Hp} {h : Heap} {e C : Addr} {dx : Option Addr} {a0 : Value} (q : h.get? e = some (xObj (.ref C) dx a0 .none)) : ObjOk P w H h e (xcO e C dx) :=
  ⟨⟨a0, q⟩, ⟨_, q⟩, fun _ _ ⟨a, e1⟩ k => ⟨a, k _ e1⟩⟩
theorem xcO_get {P : Program} {w : World} {H : Hp} {h : Heap} {e C : Addr} {dx : Option Addr} (ok : HOk P w H h) (q : H e = some (xcO e C dx)) : ∃ a0, h.get? e = some (xObj (.ref C) dx a0 .none) := (show ObjOk P w H h e (xcO e C dx) from ok e _ q).1
theorem upd_eq {H : Hp} {a : Addr} {o : HO} (h : H a = some o) : upd H a o = H := by
  funext b
  unfold upd
  split
  · rename_i z; rw [z, h]
  · rfl
/-- an address is tracked no more -/
def untr (H : Hp) (e : Addr) : Hp := fun b => if b = e then none else H b
theorem untr_self {H : Hp} {e : Addr} : untr H e e = none := if_pos rfl
theorem untr_ne {H : Hp} {e b : Addr} (h : b ≠ e) : untr H e b = H b := if_neg h
theorem HOk.untr {P : Program} {w : World} {H : Hp} {h : Heap} {e C : Addr} {dx : Option Addr} (ok : HOk P w H h) (hx : H e = some (xcO e C dx)) : HOk P w (untr H e) h := fun b o q => by
  have hb : b ≠ e := by rintro rfl; rw [untr_self] at q; cases q
  rw [untr_ne hb] at q
  refine (ok b o q).stay (fun _ _ _ z => z) (fun c z => ?_) fun c xs z => ?_
  · rw [untr_ne (by rintro rfl; rw [hx] at z; cases z)]; exact z
  · rw [untr_ne (by rintro rfl; rw [hx] at z; cases z)]; exact z

abbrev bmV : List Value := [.type "ValueError", .type "Exception", .type "BaseException", .type "object"]
/-- a class of exceptions straight under fe, which stands under ValueError; its __init__ at fI -/
structure XMk (K : PySem.W.Frag) (C fe fI : Addr) : Prop where
  cls : ∃ nm q N bs sn sub ab col dd k0 k1 k2 k3 k5, K.lookup C = some (excClassObj nm q C N bs (.ref fe :: bmV) true sn sub ab col dd k0 k1 k2 k3 k5 "ValueError.__new__") ∧ PySem.W.nsOkIn K N = true ∧ PySem.W.nsIn K N "__init__" = some (some (.ref fI))
  xfe : PySem.W.excIn K fe bmV "ValueError.__new__" = true
  feM : PySem.W.mroIn K fe (.type "ValueError") = some true
  fn : PySem.W.isFn K (.ref fI) = true
  kp : PySem.W.keepIn K (.ref C) = true
  sa : PySem.W.findIn K (.ref C) "__setattr__" = some (some (.builtin "object.__setattr__"))
theorem tail_fe {K : PySem.W.Frag} {h : Heap} {fe : Addr} (kin : K.In h) (t : PySem.W.excIn K fe bmV "ValueError.__new__" = true) (hm : ∃ cd, PySem.W.clsIn K fe = some cd) : OwnTail h bmV (.ref fe :: bmV) := by
  obtain ⟨bm, N, nm, qn, bs, hd, sn, sub, ab, col, dd, k0, k1, k2, k3, k5, mN, hC, hN, hni, TL⟩ := exc_of_in kin t
  exact .own hC hN hni .base
theorem ns_some_of {K : PySem.W.Frag} {h : Heap} {N : Addr} {mN : Str → Option Value} {n : Str} {v : Value} (X : K.In h) (G : h.Ns N mN) (e : PySem.W.nsIn K N n = some (some v)) : mN n = some v := by
  obtain ⟨o, es, ep, ho, hd, _, hf⟩ := G
  unfold PySem.W.nsIn at e
  split at e
  · rename_i c d es' n' sl q
    have := X _ _ q
    rw [ho] at this
    cases this
    cases hd
    split at e
    · rename_i en he
      rw [← hf]
      unfold nsFind findBy
      rw [← Array.find?_toList, he]
      cases e
      rfl
    · split at e <;> cases e
  · cases e

section
variable {prog : Program} {w : World} {A : Around} {E : Value → Shared → Prop} {h : Heap} {g : Array GenState} {d : Drawn} {t : Nat} {os : OsState}
variable {nm q : Str} {C N : Addr} {bs bm bmB : List Value} {hdct : Bool} {sn : List Str} {sub : List Value} {ab : Bool} {col : Option Bool} {dd : Option Addr} {k0 k1 k2 k3 k5 : Option Value} {B newId initId : String}
theorem type_call_own (F : ExcBaseFacts B newId initId bmB) (T : OwnTail h bmB bm) {mN : Str → Option Value} {rest : List Value} {fI : Addr} {oI : Obj} {Q : PySem.Fin → Shared → Prop}
    (hC : h.get? C = some (excClassObj nm q C N bs bm hdct sn sub ab col dd k0 k1 k2 k3 k5 newId)) (hn : h.Ns N mN) (hi : mN "__init__" = some (.ref fI))
    (hfI : h.get? fI = some oI) (hfc : oI.cls = .type "function")
    (hq : ∀ h' e, Heap.MadeExcOf h h' e (.ref C) rest →
      wpAny (model prog w) A (call (.ref fI) (.ref e :: rest)) (fun r s' => r = .none ∧ Q (.done (.ret (.ref e))) s') E ⟨h', g, d, t, os⟩) (hrest : rest.length ≤ sizeLine := by size_fits) :
    wpAny (model prog w) A (Builtin.«type.__call__» ⟨.ref C :: rest, []⟩) Q E ⟨h, g, d, t, os⟩ := by
  repeat (first | with_reducible refine wpAny_loadPart_at hC ?_ | with_reducible refine wpAny_madeBy_exc hC ?_ | wp_step)
  refine codeAny_call_builtin_code (Code.quiet_builtin _ F.quiet) (wpAny_check_new_subT F T hC ?_)
  refine codeAny_exc_new_subT F T hC ?_ hrest
  show wpAny _ _ _ _ _ _
  have hC₁ := Heap.get?_push_of_some { cls := .ref C, data := .fields #[.ref h.objs.size, .none, .none, .none, .bool false, .none] }
    (Heap.get?_push_of_some { cls := .type "tuple", data := .seq rest.toArray } hC)
  have hfI₁ := Heap.get?_push_of_some { cls := .ref C, data := .fields #[.ref h.objs.size, .none, .none, .none, .bool false, .none] }
    (Heap.get?_push_of_some { cls := .type "tuple", data := .seq rest.toArray } hfI)
  have hn₁ : ((h.push { cls := .type "tuple", data := .seq rest.toArray }).push { cls := .ref C, data := .fields #[.ref h.objs.size, .none, .none, .none, .bool false, .none] }).Ns N mN :=
    let ⟨o, es, ep, e, r⟩ := hn; ⟨o, es, ep, Heap.get?_push_of_some _ (Heap.get?_push_of_some _ e), r⟩
  have hget : ((h.push { cls := .type "tuple", data := .seq rest.toArray }).push
      { cls := .ref C, data := .fields #[.ref h.objs.size, .none, .none, .none, .bool false, .none] }).get? (h.objs.size + 1) = some
      { cls := .ref C, data := .fields #[.ref h.objs.size, .none, .none, .none, .bool false, .none] } := by heap_get
  have hcC : (Value.ref C :: bm).contains (.ref C) = true := by simp
  have T₁ := T.keeps (h' := (h.push { cls := .type "tuple", data := .seq rest.toArray }).push { cls := .ref C, data := .fields #[.ref h.objs.size, .none, .none, .none, .bool false, .none] })
    fun b o e => Heap.get?_push_of_some _ (Heap.get?_push_of_some _ e)
  unfold isInstance
  repeat (first | with_reducible refine wpAny_loadPart_at hget ?_ | (with_reducible refine wpAny_isSubtype_exc hC₁ ?_; rw [hcC]) | wp_step)
  show wpAny _ _ (typeLookup (.ref C) _) _ _ _
  refine wpAny_typeLookup_tail hC₁ hn₁ T₁ F.mroIs F.init.lookup ?_
  rw [hi]
  refine wpAny_holding (wpAny_bind ?_)
  unfold bindSpecial
  refine wpAny_bind (wpAny_typeOf (T := "function") ⟨_, hfI₁, hfc⟩ ?_)
  rw [if_pos (by decide)]
  refine wpAny_pure (wpAny_bind (wpAny_mono (hq _ (h.objs.size + 1) ⟨fun b o hb => Heap.get?_push_of_some _ (Heap.get?_push_of_some _ hb), Heap.get?_none_of_le (Nat.le_succ _), h.objs.size, hget, Heap.get?_none_of_le (Nat.le_refl _), ?_⟩) (fun r s' hr => ?_) fun _ _ x => x))
  · exact Heap.get?_push_of_some _ (Heap.get?_push_at rfl rfl)
  · obtain ⟨rfl, hQ⟩ := hr
    wp_walk
    exact hQ
theorem call_own (F : ExcBaseFacts B newId initId bmB) (T : OwnTail h bmB bm) {mN : Str → Option Value} {rest : List Value} {fI : Addr} {oI : Obj} {Q : Value → Shared → Prop}
    (hC : h.get? C = some (excClassObj nm q C N bs bm hdct sn sub ab col dd k0 k1 k2 k3 k5 newId)) (hn : h.Ns N mN) (hi : mN "__init__" = some (.ref fI))
    (hfI : h.get? fI = some oI) (hfc : oI.cls = .type "function")
    (hq : ∀ h' e, Heap.MadeExcOf h h' e (.ref C) rest →
      wpAny (model prog w) (A.under (.builtin "type.__call__" ⟨.ref C :: rest, []⟩)) (call (.ref fI) (.ref e :: rest)) (fun r s' => r = .none ∧ Q (.ref e) s') E ⟨h', g, d, t, os⟩) (hrest : rest.length ≤ sizeLine := by size_fits) :
    wpAny (model prog w) A (call (.ref C) rest) Q E ⟨h, g, d, t, os⟩ := by
  have f1 := tc_lookup
  have f2 := tc_bind (.ref C)
  have hT : (⟨h, g, d, t, os⟩ : Shared).TypeIs (.ref C) "type" := ⟨_, hC, rfl⟩
  refine wpAny_call (codeAny_of_tree ?_)
  show wpAny _ _ (callAny (.ref C) _) _ _ _
  repeat (any_goals (first | assumption | with_reducible refine wpAny_loadPart_at hC ?_ | wp_step))
  refine ⟨rfl, ?_⟩
  refine codeAny_call_builtin_at (Code.quiet_builtin _ (by decide +kernel)) entry_typeCall (wpAny_check_type_call_sub hC (type_call_own (hrest := hrest) F T hC hn hi hfI hfc fun h' e hm => ?_))
  exact hq h' e hm
end

section
variable {M : Model} {A : Around} {E : Value → Shared → Prop} {env : Env}
variable {nm q : Str} {C N : Addr} {bs bm : List Value} {hdct : Bool} {sn : List Str} {sub : List Value} {ab : Bool} {col : Option Bool} {dd : Option Addr} {k0 k1 k2 k3 k5 : Option Value} {newId : String}
theorem raiseStmt_madeD {s : Shared} {x : Sem Value} {Q : Flow → Shared → Prop} (hbase : bm.contains (.type "BaseException") = true) (hh : A.handled = none)
    (h : wpAny M A x (fun v s₁ => ∃ e dx a0, v = .ref e ∧ s₁.heap.get? C = some (excClassObj nm q C N bs bm hdct sn sub ab col dd k0 k1 k2 k3 k5 newId) ∧
      s₁.heap.get? e = some (xObj (.ref C) dx a0 .none) ∧ E (.ref e) s₁) E s) :
    wpAny M A (raiseStmt env (some x) none) Q E s := by
  have hcB : (Value.ref C :: bm).contains (.type "BaseException") = true := by rw [List.contains_cons, hbase, Bool.or_true]
  unfold raiseStmt
  refine wpAny_bind (wpAny_mono h (fun v s₁ h₁ => ?_) fun _ _ x => x)
  obtain ⟨e, dx, a0, rfl, hC, he, hE⟩ := h₁
  obtain ⟨hp, g, d, tk, os⟩ := s₁
  repeat (first | with_reducible refine wpAny_loadPart_at he ?_ | with_reducible refine wpAny_loadPart_at hC ?_ | (with_reducible refine wpAny_isSubtype_exc hC ?_; rw [hcB]) | wp_step)
  exact wpAny_raiseNew_none hh hE
end
/-- an exception that is made here, with its dict, reaches what this code wants of exceptions -/
def RaisesD (X : Cx) (C : Addr) (E : XK) : Prop := ∀ (pins : List (Addr × Obj)) (σ : St) (H : Hp) (s : Shared) (e : Addr) (dx : Option Addr), Inv X pins σ H s → H e = some (xcO e C dx) → (∀ o, X.s₀.heap.get? e = some o → e ∈ X.ex) → E (.ref C) dx (untr H e) → X.xe (.ref e) s
def tRaiseI (C : Addr) (sp : Sp) (E : XK) (ta : TA) : TS := fun _ σ H => ta σ H fun vs H1 => vs.length ≤ sizeLine ∧
  ∀ e, H1 e = none → sp (.ref e :: vs) (upd H1 e (xcO e C none)) (fun v H2 => v = .non ∧ ∃ dx, H2 e = some (xcO e C dx) ∧ E (.ref C) dx (untr H2 e)) E0
theorem ps_raiseI {X : Cx} {x : Str} {C fe fI : Addr} {E : XK} {k : Nat} {fd : FuncData} {ps : List Str} {sp : Sp} {np cpos pos : Pos} {e : Expr} {es : List Expr} {ta : TA} (hc : X.calm = true) (hg : Gl X x) (hm : X.mg x = some (.ref C)) (M : XMk X.K C fe fI)
    (G : FnOk X.prog X.w X.K X.mg X.base CX0 k fI fd ps sp) (hr : Room (k + 1) X.A) (hb : Binds X.K fd ps []) (hR : RaisesD X C E) (ha : PA X (e :: es) ta)
    (hdb : (x == ("__debug__" : Str)) = false := by decide) (he : starEach (e :: es) X.env = (false, eval e X.env) :: starEach es X.env := by rfl) (hpl : (backTo cpos (starEach es X.env)).any (·.1) = false := by rfl) :
    PS X (.Raise (some (.Call (.Name x np) (e :: es) [] cpos)) none pos) (tRaiseI C sp E ta) := by
  intro pins s σ H D I h
  obtain ⟨nm, qn, N, bs, sn, sub, ab, col, dd, k0, k1, k2, k3, k5, lk, nok, nin⟩ := M.cls
  have F := PySem.F.excBase_ValueError
  have hplain : (backTo cpos (starEach (e :: es) X.env)).any (·.1) = false := by
    rw [he]
    show (false || (backTo cpos (starEach es X.env)).any (·.1)) = false
    rw [hpl]
    rfl
  obtain ⟨oI, hoI, hfc⟩ : ∃ oI, X.base.get? fI = some oI ∧ oI.cls = .type "function" := by
    have z : Option.map (fun x => x.cls) (List.lookup fI X.K) = some (.type "function") := beq_iff_eq.mp M.fn
    obtain ⟨o, ho, hc'⟩ := Option.map_eq_some_iff.mp z
    exact ⟨o, I.ok.mod.kin _ _ ho, hc'⟩
  rw [arm_exec_Raise]
  simp only [evalOpt, Option.map]
  refine wpAny_bind (wpAny_standAt (raiseStmt_madeD (C := C) (nm := nm) (q := qn) (N := N) (bs := bs) (bm := .ref fe :: bmV) (hdct := true) (sn := sn) (sub := sub) (ab := ab) (col := col) (dd := dd) (k0 := k0) (k1 := k1) (k2 := k2) (k3 := k3) (k5 := k5) (newId := "ValueError.__new__") (by rw [List.contains_cons, show bmV.contains (.type "BaseException") = true from by decide +kernel, Bool.or_true]) (I.ok.hd hc) ?_))
  refine wpAny_bind (wpAny_mono (wpAny_Call_ofName (ld_glob I hg hm ?_ hdb)) (fun v s₃ h₃ => wpAny_bind (wpAny_standAt (wpAny_pure h₃))) fun _ _ x => x)
  have hs := ha cpos pins s σ H _ I h
  unfold callWith
  rw [he] at hs ⊢
  refine wpAny_bind (wpAny_holding (Calls.evalArgs_plain (thn hs fun us s2 ⟨vs, H1, I1, r, hz, q⟩ => wpAny_bind (wpAny_standAt ?_))))
  rw [← he]
  simp only [hplain]
  have hC := I1.bk _ _ (I.ok.mod.kin _ _ lk)
  have hNs : s2.heap.Ns N (s2.heap.nsMap N) := .of_isNs (PySem.W.isNs_of_in I1.kIn nok)
  have hi := ns_some_of I1.kIn hNs nin
  have T := tail_fe I1.kIn M.xfe (by obtain ⟨cd, a, _⟩ := Option.bind_eq_some_iff.mp M.feM; exact ⟨cd, a⟩)
  obtain ⟨hp, g, d, tk, os⟩ := s2
  refine wpAny_bind (wpAny_keeperOf_exc hC ?_)
  refine wpAny_bind (call_own F T hC hNs hi (I1.bk _ _ hoI) hfc (fun h' e' m => ?_) (by show us.length ≤ sizeLine; rw [← r.length]; exact hz))
  obtain ⟨t0, ht0, _, _⟩ := m.there
  have hen : H1 e' = none := by
    cases z : H1 e' with
    | none => rfl
    | some o =>
      obtain ⟨u, hu⟩ := (I1.hok e' o z).some_of
      rw [show hp.get? e' = none from m.new] at hu
      cases hu
  have hnew : ∀ o, X.s₀.heap.get? e' = some o → e' ∈ X.ex := fun o z => by
    by_cases hx : e' ∈ X.ex
    · exact hx
    · obtain ⟨o', q'⟩ := I1.base.there e' o z hx
      rw [show hp.get? e' = none from m.new] at q'
      cases q'
  have I2 : Inv X pins σ (upd H1 e' (xcO e' C none)) ⟨h', g, d, tk, os⟩ := I1.un (h' := h') (t' := tk) ((Un.kept m.keeps).track m.new hen) ((I1.hok.kept m.keeps).track hen (xcO_ok ht0))
  have q2 := q e' hen
  have r2 : Vals (V.ref e' :: vs) (Value.ref e' :: us) := .cons rfl r
  have hl : (Value.ref e' :: us).length = ps.length := by rw [← r2.length]; exact G.len _ _ _ _ q2
  refine wpAny_call (codeAny_mono (G.run _ X.stack _ _ ⟨Value.ref e' :: us, []⟩ (Value.ref e' :: us) _ _ E0 (hr.make C us []) (fun _ => I.ok.hd hc) (fun z => Bool.noConfusion z) (I2.env0.make C us []) (by have z := hb ⟨h', g, d, tk, os⟩ (Value.ref e' :: us) I2.kIn (by rw [List.append_nil]; exact hl); rw [List.append_nil] at z; exact z) r2 q2) fun r s' hq => ?_)
  cases r with
  | error x => exact False.elim hq
  | ok fl =>
    cases fl with
    | ret u =>
      obtain ⟨v, H', I3, rv, ev, dx, hx, q3⟩ := I2.after hq
      subst ev
      obtain ⟨a0, ho⟩ := xcO_get I3.hok hx
      exact ⟨rv, wpAny_bind (wpAny_holding (wpAny_point (wpAny_pure ⟨e', dx, a0, rfl, I3.bk _ _ (I.ok.mod.kin _ _ lk), ho, hR pins σ H' s' e' dx I3 hx hnew q3⟩)))⟩
    | next => exact False.elim hq
    | brk => exact False.elim hq
    | cont => exact False.elim hq
end L2

/-! EXT 6: the raise of an exception with fields leaves a def; its fields stored and read. -/
namespace L2
open PySem PySem.Spec PyProof.Rows

section
variable {cm : Bool} {P : Program} {w : World} {K : PySem.W.Frag} {mg : Str → Option Value} {base : Heap} {N : List Str} {qual : Str} {scope : Scope} {f : Addr} {cd : Value} {A : Around} {outer : List Env} {s : Shared} {H : Hp} {E : XK}
theorem raised_fnD {C : Addr} : RaisesD (cxOf (XC P w cm) P w K mg base N qual scope f cd A outer s H E) C E := fun pins σ Hr sr e dx I hx hnew q => by
  obtain ⟨a0, he⟩ := xcO_get I.hok hx
  have noE : ∀ b, b ∉ ([] : List Addr) := fun b z => absurd z (by simp)
  have new : s.heap.get? e = none := by
    cases z : s.heap.get? e with
    | none => rfl
    | some o => exact absurd (hnew o z) (noE e)
  have hokU : HOk P w (untr Hr e) sr.heap := I.hok.untr hx
  have sub : ∀ b o, (PySem.W.hideAll sr.heap (e :: frs (envOfC qual scope s.heap.objs.size f cd :: outer))).get? b = some o → sr.heap.get? b = some o := fun b o q => PySem.W.of_hideAll _ q
  have nin : ∀ b o, s.heap.get? b = some o → b ∉ frs outer → b ∉ e :: frs (envOfC qual scope s.heap.objs.size f cd :: outer) := fun b o q hb z => by
    rcases List.mem_cons.mp z with ez | z
    · rw [ez, new] at q; cases q
    · have z' : b ∈ s.heap.objs.size :: frs outer := z
      rcases List.mem_cons.mp z' with e | e
      · exact absurd (Heap.lt_size q) (by rw [e]; exact Nat.lt_irrefl _)
      · exact hb e
  have kp : Kept (frs outer) H (untr Hr e) s.heap (PySem.W.hideAll sr.heap (e :: frs (envOfC qual scope s.heap.objs.size f cd :: outer))) := by
    refine ⟨fun b o q n hb => ?_, fun b o q hb => ?_, fun b n => ?_⟩
    · exact PySem.W.hideAll_get _ (I.base.keep b o q n hb (noE b)) (nin b o q hb)
    · obtain ⟨o', q'⟩ := I.base.there b o q (noE b)
      exact ⟨o', PySem.W.hideAll_get _ q' (nin b o q hb)⟩
    · have hbe : b ≠ e := by rintro rfl; exact n untr_self
      rw [untr_ne hbe] at n
      cases q : Hr b with
      | none => exact absurd q n
      | some x =>
        obtain ⟨u, hu⟩ := (I.hok b x q).some_of
        refine ⟨u, PySem.W.hideAll_get _ hu fun z => ?_⟩
        rcases List.mem_cons.mp z with ez | z
        · exact hbe ez
        · have := I.stkFree b z
          rw [q] at this
          cases this
  have hen : (PySem.W.hideAll sr.heap (e :: frs (envOfC qual scope s.heap.objs.size f cd :: outer))).get? e = none := PySem.W.hideAll_none _ List.mem_cons_self
  have fr0 : sr.heap.FunFrames base (envOfC qual scope s.heap.objs.size f cd :: outer) := I.stack
  have fr1 : sr.heap.FunFrames (PySem.W.hideAll sr.heap (e :: frs (envOfC qual scope s.heap.objs.size f cd :: outer))) (envOfC qual scope s.heap.objs.size f cd :: outer) :=
    frames_hide fr0 fun env he b hb => List.mem_cons_of_mem _ (List.mem_filterMap.mpr ⟨env, he, hb⟩)
  show wpAny (model P w) (A.deeper (envOfC qual scope s.heap.objs.size f cd)) (leaving (envOfC qual scope s.heap.objs.size f cd) (.ref e)) _ _ _
  unfold leaving
  refine wpAny_bind (fly_new (B := PySem.W.hideAll sr.heap (e :: frs (envOfC qual scope s.heap.objs.size f cd :: outer))) I.ok.frames fr1 rfl he (fun b o z => sub b o z) hen fun h1 F1 up1 => ?_)
  refine fly_land F1 fun h2 F2 up2 => ?_
  have ne_of : ∀ b o, Hr b = some o → (∀ C dx, o ≠ xcO e C dx) → b ≠ e := fun b o z n => by
    rintro rfl
    rw [hx] at z
    exact n _ _ (Option.some.inj z).symm
  have upAll : sr.heap.UpToSlots h2 := up1.trans up2
  have F0 : ∀ b ∈ frs outer, ∃ o, sr.heap.get? b = some o ∧ ∀ vs, o.data ≠ .fields vs := fun b hb => by
    obtain ⟨_, o, q1, nf⟩ := fr1.2.2.mem hb
    exact ⟨o, q1, nf⟩
  have un1 : Un (frs outer) [] H Hr s.heap sr.heap := I.base
  refine ⟨e, .ref C, dx, untr Hr e, _, rfl, I.os, I.bare, ?_, hokU.flown kp.tk (fun b o z => sub b o z) F2.st, F2.drop, untr_self, new, kp, q⟩
  refine ⟨fun b o q1 n hb _ => F2.st b o (kp.k1 b o q1 n hb), fun b o q1 n hb hx => ?_, fun b o q1 n hx' => ?_, fun b o q1 hx => ?_, fun b xs z => ?_, fun b o u z => ?_, fun b ps z => ?_⟩
  · obtain ⟨sl, q2⟩ := un1.slot b o q1 n hb hx
    obtain ⟨o', q3, nf⟩ := F0 b hb
    rw [q2] at q3
    cases q3
    obtain ⟨sl', q4⟩ := upAll b _ q2 nf
    exact ⟨sl', q4⟩
  · unfold untr
    split
    · rfl
    · exact un1.free b o q1 n hx'
  · by_cases hb : b ∈ frs outer
    · obtain ⟨o', q3, nf⟩ := F0 b hb
      obtain ⟨sl', q4⟩ := upAll b _ q3 nf
      exact ⟨_, q4⟩
    · obtain ⟨o', q'⟩ := kp.k2 b o q1 hb
      exact ⟨o', F2.st b o' q'⟩
  · have z' := un1.tups b xs z
    rw [untr_ne (ne_of b _ z' (fun _ _ y => by cases y))]
    exact z'
  · have z' := un1.frzs b o u z
    rw [untr_ne (ne_of b _ z' (fun _ _ y => by cases y))]
    exact z'
  · obtain ⟨m, z'⟩ := un1.tbls b ps z
    exact ⟨m, by rw [untr_ne (ne_of b _ z' (fun _ _ y => by cases y))]; exact z'⟩
end

/-! ### FormError.__init__(self, ..) -/
section
variable {X : Cx}
def tXInit (C : Addr) (ta : TA) : TE := fun σ H Q => ta σ H fun vs H1 => ∃ e rest dx, vs = .ref e :: rest ∧ H1 e = some (xcO e C dx) ∧ rest.length ≤ sizeLine ∧ Q .non H1
/-- what the class above must tell -/
structure XBase (K : PySem.W.Frag) (fe : Addr) : Prop where
  ga : PySem.W.specialIn K (.ref fe) "__getattribute__" = some (some (.builtin "type.__getattribute__"))
  rd : PySem.W.readsIn K fe (.type "type") = true
  fi : PySem.W.findCls K (.ref fe) (.type "type") "__init__" = some (.val (.builtin "ValueError.__init__"))
theorem pe_xinit {pl : Sem Bool} {x : Str} {C fe fI : Addr} {np apos pos : Pos} {e : Expr} {es : List Expr} {ta : TA} (hg : Gl X x) (hm : X.mg x = some (.ref fe)) (Z : XBase X.K fe) (M : XMk X.K C fe fI) (ha : PA X (e :: es) ta)
    (hdb : (x == ("__debug__" : Str)) = false := by decide) (he : starEach (e :: es) X.env = (false, eval e X.env) :: starEach es X.env := by rfl) (hpl : (backTo pos (starEach es X.env)).any (·.1) = false := by rfl)
    (ht : eval (.Call (.Attribute (.Name x np) "__init__" apos) (e :: es) [] pos) X.env = (do
      let ov ← eval (.Name x np) X.env
      standAt apos.atName
      let (f, first) ← holding [ov] (getMethod ov "__init__" pl)
      callWith pos f first (backTo pos (starEach (e :: es) X.env)) (backToKw pos (keywordEach [] X.env))) := by rfl) :
    PE X (.Call (.Attribute (.Name x np) "__init__" apos) (e :: es) [] pos) (tXInit C ta) := by
  intro pins s σ H Q I h
  have F := PySem.F.excBase_ValueError
  obtain ⟨nm, qn, N, bs, sn, sub, ab, col, dd, k0, k1, k2, k3, k5, lk, nok, nin⟩ := M.cls
  refine PySem.W.methodCall_KW (pl := pl) (ld_glob I hg hm ?_ hdb) ht
  refine PySem.W.method_cls I.kIn Z.ga (PySem.W.cls_value I.kIn Z.rd Z.fi rfl ?_)
  refine PyProof.Rows.callWith_builtin1 (thn (ha pos pins _ σ H _ (I.tok _) h) fun us s1 ⟨vs, H1, I1, r1, e', rest, dx, ev, hx, hz, q1⟩ => ?_) he hpl
  subst ev
  cases us with
  | nil => exact absurd r1.length (by simp)
  | cons u us =>
    obtain ⟨hu, hr⟩ : u = .ref e' ∧ Vals rest us := by cases r1 with | cons a b => exact ⟨a, b⟩
    subst hu
    obtain ⟨a0, ho⟩ := xcO_get I1.hok hx
    have hC := I1.bk _ _ (I.ok.mod.kin _ _ lk)
    have T := tail_fe I1.kIn M.xfe (by obtain ⟨cd, a, _⟩ := Option.bind_eq_some_iff.mp M.feM; exact ⟨cd, a⟩)
    have hus : us.length ≤ sizeLine := by rw [← hr.length]; exact hz
    obtain ⟨hp, g, d, tk, os⟩ := s1
    refine wpAny_call (codeAny_call_builtin F.init.plain F.initEntry (wpAny_check_init_subT F T hC ho rfl ?_))
    wp_walk
    have ho1 := Heap.get?_push_of_some { cls := Value.type "tuple", data := Data.seq us.toArray } (show hp.get? e' = some (xObj (.ref C) dx a0 .none) from ho)
    have ho2 : ((hp.push { cls := Value.type "tuple", data := Data.seq us.toArray }).update e' (Obj.mapFields fun x => x.setIfInBounds 0 (Value.ref hp.objs.size))).get? e' = some (xObj (.ref C) dx (.ref hp.objs.size) .none) := by
      rw [Heap.get?_update_self _ ho1 rfl]
      rfl
    have I2 : Inv X pins σ H1 { heap := hp.push { cls := Value.type "tuple", data := Data.seq us.toArray }, gens := g, drawn := d, toks := tk, os := os } := I1.kept (t' := tk) fun b u q => Heap.get?_push_of_some _ q
    have I3 := I2.write (x := e') (e := e') (o := xcO e' C dx) (h' := (hp.push { cls := Value.type "tuple", data := Data.seq us.toArray }).update e' (Obj.mapFields fun x => x.setIfInBounds 0 (Value.ref hp.objs.size))) (t' := tk) (by rw [hx]; trivial) (.inl rfl) (fun b u hb q => (Heap.get?_update_other _ _ (Ne.symm hb)).trans q) ⟨_, ho2⟩ (xcO_ok ho2)
    rw [upd_eq hx] at I3
    have fin : wpAny (model X.prog X.w) X.A.in1 (ret Value.none) (fun fin s' => match fin with
        | PySem.Fin.done f => (match (Except.ok f : Result) with | Except.ok (Flow.ret v) => EP X pins σ Q v s' | Except.ok a => False | Except.error e => X.xe e s')
        | PySem.Fin.again c' => c'.quiet = true ∧ codeAny (model X.prog X.w) X.A c' (fun r s' => match r with | Except.ok (Flow.ret v) => EP X pins σ Q v s' | Except.ok a => False | Except.error e => X.xe e s') s')
        (fun e s' => match (Except.error e : Result) with | Except.ok (Flow.ret v) => EP X pins σ Q v s' | Except.ok a => False | Except.error e => X.xe e s')
        { heap := (hp.push { cls := Value.type "tuple", data := Data.seq us.toArray }).update e' (Obj.mapFields fun x => x.setIfInBounds 0 (Value.ref hp.objs.size)), gens := g, drawn := d, toks := tk, os := os } :=
      wpAny_pure (show EP X pins σ Q Value.none _ from ⟨.non, H1, I3, rfl, q1⟩)
    show wpAny _ _ (match a0 with | Value.ref a => letGo [a0] | x => pure ()) _ _ _
    split
    · exact wpAny_letGo fin
    · exact wpAny_pure fin
end

/-! ### e.f, e an exception that is held -/
section
variable {X : Cx} {o value : Expr} {f : Str} {pos pos' : Pos} {ta tv : TE}
def tXget (K : PySem.W.Frag) (f : Str) (ta : TE) : TE := fun σ H Q => ta σ H fun x H1 => ∃ e C d a0 tb fs v, x = .ref e ∧ H1 e = some (xHO e (xObj (.ref C) (some d) a0 tb)) ∧ H1 d = some (.xd fs) ∧ XCls K C ∧ NoAttr K C f ∧ fs.lookup f = some v ∧ Q v H1
theorem xget_value {prog : Program} {w : World} {A : Around} {E : Value → Shared → Prop} {s : Shared} {K : PySem.W.Frag} {C e : Addr} {oe : Obj} {od : Option Obj} {name : Str} {v : Value} {expr : Bool} {Q : Value → Shared → Prop} (Z : XCls K C) (X : K.In s.heap) (I : PySem.W.InstAt s.heap e oe C od)
    (hf : PySem.W.findObj K C od name = some (.value v)) (hh : PySem.W.handedIn v = true) (h : Q v { s with toks := s.toks + 1 }) : wpAny (model prog w) A (getAttr (.ref e) name expr) Q E s := by
  obtain ⟨hh', g, d, t, os⟩ := s
  have L0 := I.type (M := model prog w)
  have L1 := PySem.W.looks_find (M := model prog w) X I hf
  unfold getAttr
  refine wpAny_bind (wpAny_mkText (xattr Z X I (codeAny_call_builtin bexc_plain F.entry_bexc_ga (bexc_check (xexc Z X I) ?_))))
  unfold Builtin.«object.__getattribute__»
  refine wpAny_bind (wpAny_pure ?_)
  dsimp only
  refine wpAny_bind (wpAny_pure (wpAny_bind (L0.at (wpAny_bind (L1.at ?_)))))
  dsimp only
  refine wpAny_pure ?_
  show wpAny _ _ (handedOut v) _ _ _
  rw [PySem.W.handedOut_of hh]
  exact wpAny_pure h
theorem pe_xget (he : PE X o ta) (hb : attributeBase o f X.env (eval o X.env) = eval o X.env) : PE X (.Attribute o f pos) (tXget X.K f ta) := by
  intro pins s σ H Q I h
  refine attr_of hb (thn (he pins s σ H _ I h) fun u s1 ⟨x, H1, I1, rx, e, C, d, a0, tb, fs, v, ex, hE, hd, Z, na, hl, q⟩ => ?_)
  subst ex
  obtain rfl : u = Value.ref e := rx
  obtain ⟨ho, _⟩ := I1.hok e _ hE
  obtain ⟨mA, hns, hrel⟩ := (show ObjOk X.prog X.w H1 s1.heap d (.xd fs) from I1.hok d _ hd)
  have r := hrel f
  rw [hl] at r
  obtain ⟨u, hu, ru⟩ := r.some_of
  obtain ⟨od, hod, hlk⟩ := lookIn_ns hns
  have IA : PySem.W.InstAt s1.heap e (xObj (.ref C) (some d) a0 tb) C (some od) := ⟨ho, rfl, rfl, hod⟩
  exact xget_value Z I1.kIn IA (PySem.W.findObj_own Z.hd na rfl (by rw [hlk, hu])) (handed_of ru) ⟨v, H1, I1.tok _, ru, q⟩
end

/-! ### self.f = v, self an exception that is being made -/
section
variable {X : Cx} {o value : Expr} {f : Str} {pos pos' : Pos} {ta tv : TE}
theorem within_xd {fs : List (Str × V)} {mA : Str → Option Value} (h : ∀ f, RelO (fs.lookup f) (mA f)) : PySem.Within mA (fs.map (·.1)) := fun y hy => by
  cases e : fs.lookup y with
  | none => have := h y; rw [e] at this; exact absurd this.none_of hy
  | some v => exact List.mem_map.mpr ⟨(y, v), PySem.mem_of_lookup e, rfl⟩
/-- object.__setattr__ of an exception -/
theorem xsa_open {prog : Program} {w : World} {A : Around} {s : Shared} {R : Result → Shared → Prop} {K : PySem.W.Frag} {C fe fI x : Addr} {ox : Obj} {od : Option Obj} {name : Str} {tk : Tok} {v : Value} (X : K.In s.heap) (I : PySem.W.InstAt s.heap x ox C od) (M : XMk K C fe fI) (na : NoAttr K C name)
    (h : ∀ b, wpAny (model prog w) A.in1 (Builtin.ObjectAttr.storeInOwnDict (.ref x) (.ref C) (.str name tk) name v b)
      (fun fin s' => match fin with | .done f => R (.ok f) s' | .again c' => c'.quiet = true ∧ codeAny (model prog w) A c' R s') (fun e s' => R (.error e) s') s) :
    codeAny (model prog w) A (.call (.builtin "object.__setattr__") ⟨[.ref x, .str name tk, v], []⟩) R s := by
  have SF := PySem.F.store_ValueError
  obtain ⟨nm, qn, N, bs, sn, sub, ab, col, dd, k0, k1, k2, k3, k5, lk, nok, nin⟩ := M.cls
  obtain ⟨cd, hc, hmro⟩ : ∃ cd, PySem.W.clsIn K C = some cd ∧ cd.mro = .ref C :: .ref fe :: bmV := ⟨_, by unfold PySem.W.clsIn; rw [lk], rfl⟩
  have hm : PySem.W.Looks (model prog w) s.heap (mroOf (.ref C)) cd.mro := (PySem.W.looks_clsIn X hc).andThen .now
  have ho : (Value.ref C :: .ref fe :: bmV).contains (.type "object") = true := by rw [List.contains_cons, List.contains_cons, show bmV.contains (.type "object") = true from by decide +kernel, Bool.or_true, Bool.or_true]
  have sub : PySem.W.Looks (model prog w) s.heap (isInstance (.ref x) (.type "object")) true := I.type.andThen (PySem.W.looks_mroIn X (by unfold PySem.W.mroIn; rw [hc, Option.bind_some, hmro, if_neg (by simp), ho]))
  refine codeAny_call_builtin SF.slot.plain SF.entry (@PySem.W.check_slot (model prog w) _ _ s "object.__setattr__" "object" "__setattr__" (.ref x) [.str name tk, v] [] _ SF.kind SF.split sub (SF.args (.ref x) (.str name tk) v) ?_)
  rw [PySem.W.osa_eq, refuse_eq]
  refine wpAny_bind (wpAny_bind (I.type.here (wpAny_bind (hm.here ?_))))
  rw [hmro, refuseLoop_ref, refuseLoop_ref, SF.passes]
  refine wpAny_pure (wpAny_bind (I.type.here (wpAny_bind ((PySem.W.looks_findIn X na).here (wpAny_bind ?_)))))
  exact wpAny_pure (h _)
def sXF (K : PySem.W.Frag) (C : Addr) (f : Str) (ta tv : TE) : TS := fun D σ H => tv σ H fun y H1 => ta σ H1 fun x H2 => ∃ e, x = .ref e ∧ NoAttr K C f ∧
  ((H2 e = some (xcO e C none) ∧ ∀ d, H2 d = none → D.nx σ (upd (upd H2 d (.xd [(f, y)])) e (xcO e C (some d)))) ∨
    ∃ d fs, H2 e = some (xcO e C (some d)) ∧ H2 d = some (.xd fs) ∧ fs.length < 1000 ∧ D.nx σ (upd H2 d (.xd (putF f y fs))))
theorem ps_xfld {C fe fI : Addr} (M : XMk X.K C fe fI) (ha : PE X o ta) (hv : PE X value tv) (hs : swapsWith value (some (.Attribute o f pos')) pos.line X.env = pure false) : PS X (.Assign [.Attribute o f pos'] value pos) (sXF X.K C f ta tv) := by
  intro pins s σ H D I h
  refine plainObj_wpAny_Assign_Attribute (thn (hv pins s σ H _ I h) fun u s1 ⟨y, H1, I1, ry, q⟩ => thn (ha pins s1 σ H1 _ I1 q) fun ov s2 ⟨x, H2, I2, rx, e, ex, na, q2⟩ => ?_) hs
  subst ex
  obtain rfl : ov = Value.ref e := rx
  obtain ⟨nm, qn, N, bs, sn, sub, ab, col, dd, k0, k1, k2, k3, k5, lk, nok, nin⟩ := M.cls
  obtain ⟨cd, hc, hhd⟩ : ∃ cd, PySem.W.clsIn X.K C = some cd ∧ cd.hasDict = true := ⟨_, by unfold PySem.W.clsIn; rw [lk], rfl⟩
  rcases q2 with ⟨hx, q2⟩ | ⟨d, fs, hx, hd, hz, q2⟩
  · obtain ⟨a0, ho⟩ := xcO_get I2.hok hx
    have IA : PySem.W.InstAt s2.heap e (xObj (.ref C) none a0 .none) C none := ⟨ho, rfl, rfl, trivial⟩
    refine PySem.W.set_plain I2.kIn IA M.sa (xsa_open (s := { s2 with toks := s2.toks + 1 }) I2.kIn IA M na fun b => ?_)
    refine wpAny_bind (wpAny_pure (wpAny_bind (wpAny_bind (wpAny_loadPart ho (wpAny_bind (PySem.W.Looks.here (s := { s2 with toks := s2.toks + 1 }) (PySem.W.looks_clsIn I2.kIn hc) ?_))))))
    rw [hhd]
    show wpAny _ _ (do
      let d ← alloc { cls := Value.type "dict", data := Data.dict #[] }
      update e fun o => { cls := o.cls, dict := some d, data := o.data, slots := o.slots }
      dictMade (.ref C) e d) _ _ _
    have ho1 := Heap.get?_push_of_some { cls := Value.type "dict", data := Data.dict #[] } ho
    have hes : e ≠ s2.heap.objs.size := Nat.ne_of_lt (Heap.lt_size ho)
    refine wpAny_bind (wpAny_alloc' (wpAny_bind (wpAny_update' ho1 (wpAny_pure ?_))))
    have hgd : ((s2.heap.push { cls := Value.type "dict", data := Data.dict #[] }).update e fun o => { cls := o.cls, dict := some s2.heap.objs.size, data := o.data, slots := o.slots }).get? s2.heap.objs.size
        = some { cls := Value.type "dict", data := Data.dict #[] } := (Heap.get?_update_ne _ _ _ _ hes.symm).trans (Heap.get?_push_at rfl rfl)
    have hge : ((s2.heap.push { cls := Value.type "dict", data := Data.dict #[] }).update e fun o => { cls := o.cls, dict := some s2.heap.objs.size, data := o.data, slots := o.slots }).get? e
        = some (xObj (.ref C) (some s2.heap.objs.size) a0 .none) := Heap.get?_update_self _ ho1 rfl
    have hnd : ((s2.heap.push { cls := Value.type "dict", data := Data.dict #[] }).update e fun o => { cls := o.cls, dict := some s2.heap.objs.size, data := o.data, slots := o.slots }).Ns s2.heap.objs.size (fun _ => none) :=
      ⟨_, #[], _, hgd, rfl, fun e he => absurd he (by simp), fun _ => rfl⟩
    show wpAny _ _ (Builtin.ObjectAttr.storeInDict s2.heap.objs.size (.str f s2.toks) f u) _ _ _
    unfold Builtin.ObjectAttr.storeInDict Builtin.ObjectAttr.newKeyGuard
    refine wpAny_bind (wpAny_pure (wpAny_bind (wpAny_nsSet1 (Heap.Ns1.of_empty hnd) fun h' hn' hs' => ?_)))
    obtain ⟨oD, esD, epD, hoD, hdD, hcD⟩ := hn'.count (Within.cons f u Within.nil)
    refine wpAny_bind (wpAny_lookBehind hoD (by rw [hdD]; exact pastItsLine_dict (Nat.le_trans hcD (by rw [List.length_cons, List.length_nil, sizeLine_eq]; omega))) ?_)
    have hfresh : H2 s2.heap.objs.size = none := I2.hok.fresh (Nat.le_refl _)
    have hge' : h'.get? e = some (xObj (.ref C) (some s2.heap.objs.size) a0 .none) := (hs'.2 e hes).trans hge
    have kp : ∀ b o, b ≠ e → s2.heap.get? b = some o → h'.get? b = some o := fun b o hb q =>
      (hs'.2 b (Nat.ne_of_lt (Heap.lt_size q))).trans ((Heap.get?_update_ne _ _ _ _ hb).trans (Heap.get?_push_of_some _ q))
    have hok' : HOk X.prog X.w (upd (upd H2 s2.heap.objs.size (.xd [(f, y)])) e (xcO e C (some s2.heap.objs.size))) h' := fun b o q => by
      by_cases hb : b = e
      · subst hb
        rw [upd_same] at q
        cases q
        exact xcO_ok hge'
      · rw [upd_ne hb] at q
        by_cases hd : b = s2.heap.objs.size
        · subst hd
          rw [upd_same] at q
          cases q
          refine ⟨_, hn', fun g => ?_⟩
          show RelO (List.lookup g [(f, y)]) (if g = f then some u else none)
          by_cases q : g = f
          · subst q
            rw [if_pos rfl, List.lookup_cons, beq_self_eq_true]
            exact ry
          · rw [if_neg q, List.lookup_cons, beq_eq_false_iff_ne.mpr q]
            exact True.intro
        · rw [upd_ne hd] at q
          refine (I2.hok b o q).stay (fun c v hc' z => kp c v ?_ z) (fun c z => ?_) fun c xs z => ?_
          · rintro rfl
            rcases hc' with z1 | z1
            · exact hb z1.symm
            · rw [hx] at z1; cases z1
          · rw [upd_ne (by rintro rfl; rw [hx] at z; cases z), upd_ne (ne_of_none z hfresh)]; exact z
          · rw [upd_ne (by rintro rfl; rw [hx] at z; cases z), upd_ne (ne_of_none z hfresh)]; exact z
    have un' : Un X.fs [] H2 (upd (upd H2 s2.heap.objs.size (.xd [(f, y)])) e (xcO e C (some s2.heap.objs.size))) s2.heap h' := by
      refine ⟨fun b o q n hb _ => kp b o (by rintro rfl; rw [hx] at n; cases n) q, fun b o q n hb _ => ⟨o.slots, kp b o (by rintro rfl; rw [hx] at n; cases n) q⟩, fun b o q n _ => ?_, fun b o q _ => ?_, fun b xs z => ?_, fun b o u z => ?_, fun b ps z => ⟨#[], ?_⟩⟩
      · rw [upd_ne (by rintro rfl; rw [hx] at n; cases n), upd_ne (Nat.ne_of_lt (Heap.lt_size q))]; exact n
      · by_cases hb : b = e
        · rw [hb]; exact ⟨_, hge'⟩
        · exact ⟨o, kp b o hb q⟩
      · rw [upd_ne (by rintro rfl; rw [hx] at z; cases z), upd_ne (ne_of_none z hfresh)]; exact z
      · rw [upd_ne (by rintro rfl; rw [hx] at z; cases z), upd_ne (ne_of_none z hfresh)]; exact z
      · rw [upd_ne (by rintro rfl; rw [hx] at z; cases z), upd_ne (ne_of_none z hfresh), Array.append_empty]; exact z
    exact wpAny_pure ⟨σ, _, I2.un (h' := h') un' hok', q2 _ hfresh⟩
  · obtain ⟨a0, ho⟩ := xcO_get I2.hok hx
    obtain ⟨mA, hns, hrel⟩ := (show ObjOk X.prog X.w H2 s2.heap d (.xd fs) from I2.hok d _ hd)
    obtain ⟨od, hod, hlk⟩ := lookIn_ns hns
    have IA : PySem.W.InstAt s2.heap e (xObj (.ref C) (some d) a0 .none) C (some od) := ⟨ho, rfl, rfl, hod⟩
    refine PySem.W.set_plain I2.kIn IA M.sa (xsa_open (s := { s2 with toks := s2.toks + 1 }) I2.kIn IA M na fun b => ?_)
    refine wpAny_bind (wpAny_pure (wpAny_bind (wpAny_bind (wpAny_loadPart ho (wpAny_bind (PySem.W.Looks.here (s := { s2 with toks := s2.toks + 1 }) (PySem.W.looks_clsIn I2.kIn hc) ?_))))))
    rw [hhd]
    refine wpAny_pure (a := some d) (wpAny_bind (wpAny_pure (wpAny_bind ?_)))
    refine wpAny_nsSet1 (s := { s2 with toks := s2.toks + 1 }) hns fun h' hn2 hs2 => ?_
    obtain ⟨oD, esD, epD, hoD, hdD, hcD⟩ := hn2.count (PySem.Within.cons f u (within_xd hrel))
    refine wpAny_bind (wpAny_lookBehind hoD (by rw [hdD]; exact pastItsLine_dict (Nat.le_trans hcD (by rw [List.length_cons, List.length_map, sizeLine_eq]; omega))) ?_)
    have new : ObjOk X.prog X.w (upd H2 d (.xd (putF f y fs))) h' d (.xd (putF f y fs)) := by
      refine ⟨_, hn2, fun g => ?_⟩
      show RelO ((putF f y fs).lookup g) (if g = f then some u else mA g)
      rw [lookup_putF]
      by_cases q : g = f
      · rw [if_pos q, if_pos q]; exact ry
      · rw [if_neg q, if_neg q]; exact hrel g
    exact wpAny_pure ⟨σ, _, I2.write (x := d) (e := d) (h' := h') (by rw [hd]; trivial) (.inl rfl) (fun b u hb q => (hs2.2 b hb).trans q) ⟨_, hoD⟩ new, q2⟩
end
end L2

/-! Small words that many laws use. -/
namespace L2
open PySem PySem.Spec PyProof.Rows
/-- a module's int -/
theorem pgi {X : Cx} {x : Str} {i : Int} {t : Tok} {pos : Pos} (hm : X.mg x = some (.int i t)) (hg : Gl X x := by rfl) (hd : (x == ("__debug__" : Str)) = false := by decide) : PE X (.Name x pos) (tC (.int i)) := pe_glob hg hm ⟨t, rfl⟩ hd
theorem iteD {c A B : Prop} [Decidable c] (hc : ¬ c) (h : B) : if decide c = true then A else B := by
  rw [if_neg (by simpa using hc)]
  exact h
/-- a built-in type's name -/
theorem pty {X : Cx} {x : Str} {T : String} {pos : Pos} (hm : X.mg x = none) (hv : bootBuiltins x = some (.type T)) (hg : Gl X x := by rfl) (hn : x ≠ "__name__" := by decide) (hd : (x == ("__debug__" : Str)) = false := by decide) : PE X (.Name x pos) (tC (.ty T)) := pe_bltn hg hm hv rfl hn hd
theorem keepH {H : Hp} {a p : Addr} {o u : HO} (h : H a = some o) (hp : H p = none) : (upd H p u) a = some o := by
  rw [upd_ne (ne_of_none h hp)]
  exact h
theorem keepX {H : Hp} {p : Addr} {u : HO} {dx : Option Addr} (h : dx = none ∨ ∃ d fs, dx = some d ∧ H d = some (.xd fs)) (hp : H p = none) : dx = none ∨ ∃ d fs, dx = some d ∧ (upd H p u) d = some (.xd fs) := by
  rcases h with h | ⟨d, fs, h, e⟩
  · exact .inl h
  · exact .inr ⟨d, fs, h, keepH e hp⟩
theorem sameU {H : Hp} {p : Addr} {u : HO} (hp : H p = none) : Same H (upd H p u) := fun _ _ e => keepH e hp
/-- the words of the true ones -/
theorem comp_pairs {K : PySem.W.Frag} {l : Addr} {ts : List Addr} {prs : List (Str × Bool)} {H1 : Hp} {Q : VK} {σ0 : St} (hl : H1 l = some (.lst (ts.map V.ref))) (hlen : ts.length = prs.length) (hsz : prs.length ≤ 1000)
    (ht : ∀ (i : Nat) t w b, ts[i]? = some t → prs[i]? = some (w, b) → H1 t = some (.tup [.str w, .bl b])) (hσ : σ0 = [none, none])
    (hd : ∀ D, H1 D = none → Q (.ref D) (upd H1 D (.lst ((prs.filter (·.2)).map fun p => V.str p.1)))) :
    (Itl K l).sok = true ∧ CompW (Itl K l) H1 σ0 (gTup K 2 (gCons (gName 0) (gCons (gName 1) gNil))) (tB (tVar 1)) (tVar 0) Q := by
  refine ⟨rfl, fun D hD => ⟨fun i m ys H => m = prs.length - i ∧ i ≤ prs.length ∧ ys = ((prs.take i).filter (·.2)).map (fun p => V.str p.1) ∧ H = upd H1 D (.lst ys), ⟨prs.length, by simp, Nat.zero_le _, rfl, rfl⟩, ?_⟩⟩
  rintro i m ys H ⟨rfl, hi, rfl, rfl⟩
  have hL : ∀ ys, SqL K (upd H1 D (.lst ys)) l (ts.map V.ref) := fun ys => SqL.of (keepH hl hD)
  refine ⟨upd_same, ?_⟩
  by_cases hlt : i < prs.length
  · have hit : i < ts.length := by omega
    refine .inr ⟨⟨_, V.ref ts[i], hL _, by simp [hit]⟩, fun x H' y => ?_⟩
    obtain ⟨e, y⟩ := y
    subst e
    have hx := y _ (hL _)
    rw [List.getElem?_map, List.getElem?_eq_getElem hit] at hx
    have hx' : x = V.ref ts[i] := (Option.some.inj hx).symm
    subst hx'
    obtain ⟨wd, b, hp⟩ : ∃ wd b, prs[i]? = some (wd, b) := ⟨_, _, List.getElem?_eq_getElem hlt⟩
    have hT := ht i ts[i] wd b (List.getElem?_eq_getElem hit) hp
    have etake : (prs.take (i + 1)).filter (·.2) = (prs.take i).filter (·.2) ++ (if b then [(wd, b)] else []) := by
      rw [List.take_add_one, hp, List.filter_append]
      cases b <;> rfl
    subst hσ
    refine ⟨ts[i], _, rfl, SqT.of (keepH hT hD), rfl, _, _, rfl, _, _, rfl, rfl, ?_, _, rfl, b, rfl, ?_⟩
    · intro j v e
      rcases j with _ | _ | j <;> simp at e
    · have hsm : (((prs.take i).filter (·.2)).map (fun p => V.str p.1)).length < sizeLine := small1000 (by
        rw [List.length_map]
        exact Nat.le_trans (List.length_filter_le _ _) (Nat.le_trans (by rw [List.length_take]; exact Nat.min_le_right _ _) hsz))
      cases b with
      | true =>
        refine iteT ⟨_, rfl, upd_same, hsm, prs.length - (i + 1), by omega, rfl, hlt, ?_, ?_⟩
        · rw [etake, List.map_append]
          rfl
        · rw [upd_upd]
      | false =>
        refine iteF ⟨prs.length - (i + 1), by omega, rfl, hlt, ?_, rfl⟩
        rw [etake]
        simp
  · have e : i = prs.length := by omega
    subst e
    rw [List.take_length]
    exact .inl ⟨⟨_, hL _, by rw [List.length_map]; omega⟩, hd D hD⟩
theorem freeIn {X : Cx} {scope : Scope} (h : (scope.names.all fun p => !(p.2 == .free) || (X.env.cells.lookup p.1).isSome) = true) : ∀ y ∈ scope.names, y.2 = .free → (X.env.cells.lookup y.1).isSome = true := fun y hy e => by
  have := List.all_eq_true.mp h y hy
  rw [e] at this
  simpa using this
theorem pg_tupSK {X : Cx} (K : PySem.W.Frag) (hK : X.K = K) {pos : Pos} {es : List Expr} {k : Nat} {t : TGs} {n : Nat} (hc : X.suit = true) (h : PGs X es t)
    (hn : (assignEach es X.env).length = n := by rfl) (hst : (assignEach es X.env).findIdx? (·.1) = none := by rfl) : PG X (.Tuple es k pos) (gTup K n t) := by
  subst hK
  exact pg_tupS hc h hn hst
theorem iteP {c A B : Prop} [Decidable c] (hc : c) (h : A) : if decide c = true then A else B := by
  rw [if_pos (decide_eq_true hc)]
  exact h
/-- an own class's name -/
theorem pcl {X : Cx} {x : Str} {a : Addr} {pos : Pos} (hm : X.mg x = some (.ref a)) (hg : Gl X x := by rfl) (hd : (x == ("__debug__" : Str)) = false := by decide) : PE X (.Name x pos) (tC (.ref a)) := pe_glob hg hm rfl hd
theorem Room_mark {k : Nat} {A : Around} {v : Option Value} (r : Room k A) : Room k (A.mark v) := ⟨r.dp, r.un⟩
theorem kit_self {K : PySem.W.Frag} {T : String} : PySem.W.kitOne K (.type T) (.type T) = some true := by
  unfold PySem.W.kitOne
  simp
theorem call_isinstK {X : Cx} (K : PySem.W.Frag) (hK : X.K = K) : CallR X (.builtin "isinstance") (fun xs H Q => ∃ x c t cv b, xs = [x, c] ∧ TyOf K H x t ∧ RelV c cv ∧ PySem.W.kitOne K t cv = some b ∧ Q (.bl b) H) := by
  subst hK
  exact call_isinst
theorem shaped_ints (ns : List Int) : SeqAt.shaped (.list (ns.map PyData.int)) = true := PySem.W.shaped_ints ns
theorem Same.put {H H' : Hp} {p : Addr} {o : HO} (s : Same H H') (h : H p = none) : Same H (upd H' p o) := fun b u e => by
  rw [upd_ne (ne_of_none e h)]
  exact s b u e
theorem Same.seqT {K : PySem.W.Frag} {H H' : Hp} {a : Addr} {xs : List V} (e : Same H H') (h : SqT K H a xs) : SqT K H' a xs := by
  rcases h with (h | ⟨o, h⟩) | h
  · exact .inl (.inl (e _ _ h))
  · exact .inl (.inr ⟨o, e _ _ h⟩)
  · exact .inr h
/-! ### a word between: what holds behind a statement, or of a value, said once -/
def tCut (t u : TS) : TS := fun D σ H => ∃ M : St → Hp → Prop, t { D with nx := M } σ H ∧ ∀ σ' H', M σ' H' → u D σ' H'
theorem pss_cut {X : Cx} {st : Stmt} {rest : List Stmt} {t u : TS} (h1 : PS X st t) (h2 : PSs X rest u) : PSs X (st :: rest) (tCut t u) := by
  intro pins s σ H D I ⟨M, h, k⟩
  refine wpAny_execs_cons (wpAny_mono (h1 pins s σ H { D with nx := M } I h) (fun f s1 q => ?_) fun _ _ x => x)
  cases f with
  | next =>
    obtain ⟨σ1, H1, I1, q1⟩ := q
    exact h2 pins s1 σ1 H1 D I1 (k σ1 H1 q1)
  | ret v => exact q
  | brk => exact q
  | cont => exact q
def tECut (t : TE) : TE := fun σ H Q => ∃ M : VK, t σ H M ∧ ∀ v H', M v H' → Q v H'
end L2

/-! EXT 7: texts: their methods, slices, a walk over their signs; all(..), int(text). -/
namespace L2
open PySem PySem.Spec PyProof.Rows
section
variable {X : Cx}
/-! ### join -/
/-! ### slices -/
def rSlS : V → Option Int → Option Int → Hp → VK → Prop := fun x lo hi H Q => ∃ z, x = .str z ∧ z.length ≤ sizeLine ∧ Q (.str (Txt.slice z lo hi)) H
/-! ### a walk over a text's signs -/
def Its (x : Str) : It := ⟨fun i _ => i < x.length, fun i H v H' => H' = H ∧ ∃ c, x.cps[i]? = some c ∧ v = .str ⟨#[c]⟩, fun i _ => x.length ≤ i, false⟩
def strTy (x : Str) : String := if x.cps.all (· < 128) then "str_ascii_iterator" else "str_iterator"
def iStr (tl : TE) : TI := fun σ H R => tl σ H fun x H1 => ∃ z, x = .str z ∧ R (Its z) H1
/-! ### int(text) -/
end
end L2

/-! EXT 8: all(list of truths), split, text * int, join of a reversed list, a walk over zip of two lists. -/
namespace L2
open PySem PySem.Spec PyProof.Rows
section
variable {X : Cx}
theorem vals_bl {bs : List Bool} : ∀ {us : List Value}, Vals (bs.map V.bl) us → us = bs.map Value.bool := by
  induction bs with
  | nil => intro us r; rw [List.map_nil] at r; cases r; rfl
  | cons b bs ih =>
    intro us r
    rw [List.map_cons] at r
    cases r with
    | cons r1 r2 =>
      cases (show _ = Value.bool b from r1)
      rw [ih r2, List.map_cons]
theorem all_range (bs : List Bool) : (List.range bs.length).all (fun i => bs.getD i true) = bs.all id := by
  rw [Bool.eq_iff_iff, List.all_eq_true, List.all_eq_true]
  constructor
  · intro h b hb
    obtain ⟨i, hi, e⟩ := List.mem_iff_getElem.mp hb
    have := h i (List.mem_range.mpr hi)
    rw [List.getD_eq_getElem?_getD, List.getElem?_eq_getElem hi, Option.getD_some, e] at this
    exact this
  · intro h i hi
    rw [List.mem_range] at hi
    rw [List.getD_eq_getElem?_getD, List.getElem?_eq_getElem hi, Option.getD_some]
    exact h _ (List.getElem_mem hi)
theorem call_all_bl (hc : X.calm = true) : CallR X (.builtin "all") (fun xs H Q => ∃ (p : Addr) (bs : List Bool), xs = [.ref p] ∧ H p = some (.lst (bs.map V.bl)) ∧ Q (.bl (bs.all id)) H) := by
  intro pins s σ H xs us Q I r h
  obtain ⟨p, bs, rfl, hp, q⟩ := h
  obtain ⟨u, rfl, ru⟩ := Vals.one r
  cases (show u = .ref p from ru)
  obtain ⟨its, rv, pl, _⟩ := I.list (SqL.of hp)
  have e := vals_bl rv
  subst e
  have hne : p ≠ s.heap.objs.size := Nat.ne_of_lt (I.hok.lt hp)
  refine call_all_walk (wpAny_pyIter_list pl.isList ?_)
  refine ⟨s.heap.objs.size, _, _, _, _, _, fun i => bs.getD i true, rfl, Walks.list (A := X.A.in1) (I.ok.hd hc) s.heap.objs.size p hne _, ⟨⟨_, Heap.get?_push_size _ rfl, rfl, rfl⟩, pl.isList.push _⟩, fun i v s2 Q2 E2 hv hq => ?_, fun h' tk hk => ?_⟩
  · have hv' : (bs.map Value.bool)[i]? = some v := by simpa using hv
    rw [List.getElem?_map] at hv'
    cases hb : bs[i]? with
    | none => rw [hb] at hv'; cases hv'
    | some b =>
      rw [hb] at hv'
      cases hv'
      have hq' : Q2 (bs.getD i true) s2 := hq
      rw [show bs.getD i true = b by rw [List.getD_eq_getElem?_getD, hb]; rfl] at hq'
      exact wpAny_truthy_bool hq'
  · refine ⟨.bl (bs.all id), H, I.kept (t' := tk) fun b o e => hk b o (fun z => ?_) (Heap.get?_push_of_some _ e), ?_, q⟩
    · have : b = s.heap.objs.size := by simpa using z
      exact Nat.lt_irrefl _ (this ▸ Heap.lt_size e)
    · show Value.bool _ = Value.bool _
      rw [← all_range]
      simp
/-! ### text * int -/
/-! ### split -/
/-! ### reversed(list), and the join of it -/
namespace R8
end R8
def tJR (z : Str) (te : TE) : TE := fun σ H Q => te σ H fun y H2 => ∃ (l : Addr) (ys : List Str), y = .ref l ∧ H2 l = some (.lst (ys.map V.str)) ∧ (ys.map (·.length)).sum + ys.length * z.length ≤ 16777216 ∧ Q (.str (Txt.join z ys.reverse)) H2
end
end L2

/-! EXT 9: for a, b in zip(l1, l2). -/
namespace L2
open PySem PySem.Spec PyProof.Rows
section
variable {X : Cx} {pins : List (Addr × Obj)} {σ : St} {H : Hp} {s : Shared} {h' : Heap}
def Itz (a b : Addr) : It :=
  ⟨fun i H => ∃ xs ys x y, H a = some (.lst xs) ∧ H b = some (.lst ys) ∧ xs[i]? = some x ∧ ys[i]? = some y,
   fun i H v H' => ∃ T xs ys x y, v = .ref T ∧ H T = none ∧ H' = upd H T (.tup [x, y]) ∧ H a = some (.lst xs) ∧ H b = some (.lst ys) ∧ xs[i]? = some x ∧ ys[i]? = some y,
   fun i H => ∃ xs ys, H a = some (.lst xs) ∧ H b = some (.lst ys) ∧ (xs.length ≤ i ∨ ys.length ≤ i), false⟩
def iZip (ta : TA) : TI := fun σ H R => ta σ H fun vs H1 => ∃ (a b : Addr) (xs ys : List V), vs = [.ref a, .ref b] ∧ H1 a = some (.lst xs) ∧ H1 b = some (.lst ys) ∧ R (Itz a b) H1
end
end L2

/-! EXT 10: a try whose body goes several ways; isinstance(x, (A, B)). -/
namespace L2
open PySem PySem.Spec PyProof.Rows
section
variable {X : Cx}
/-- statements that may raise, with the variables as they were -/
def PSX (X : Cx) (E : XK) (sts : List Stmt) (t : TS) : Prop :=
  ∀ (pins : List (Addr × Obj)) (s : Shared) (σ : St) (H : Hp) (D : Ends), Inv X pins σ H s → t D σ H →
    wpAny (model X.prog X.w) X.A (execs sts X.env) (SP X pins D) (fun e s' => ∃ H1 s1, Inv X pins σ H1 s1 ∧ XCx X.prog X.w X.stack H1 s1 E e s') s
theorem psx_ret {E : XK} {c0 : Expr} {t : TE} {p1 : Pos} (hc : PEX X E c0 t) : PSX X E [.Return (some c0) p1] (fun D σ H => t σ H D.rt) := by
  intro pins s σ H D I h
  exact wpAny_execs_cons (wpAny_Return_some (wpAny_mono (hc pins s σ H _ I h) (fun v s1 ⟨y, H1, I1, r1, q1⟩ => ⟨y, σ, H1, I1, r1, q1⟩) fun e s' hx => hx))
/-- try: ways of calls / except C as n: return .. -/
theorem ps_tryG {x n : Str} {np hpos pos : Pos} {body : List Stmt} {b₀ : Stmt} {suite : List Stmt} {i : Nat} {ts : Addr → TS} {tb : XK → TS} {c : Value} {v0 : V}
    (hst : X.stack = X.env :: X.outer) (hf : X.env.frame = some X.env.locals) (hc : ∀ E, PSX X E body (tb E)) (hg : Gl X x) (hm : X.mg x = some c) (rc : RelV v0 c) (hs : ∀ e, PSs (cxS X e) (b₀ :: suite) (ts e)) (hN : X.N.Nodup) (hi : X.N[i]? = some n)
    (hl : X.env.scope.names.lookup n = some .local) (hdb : (x == ("__debug__" : Str)) = false := by decide) :
    PS X (.Try body [.ExceptHandler (some (.Name x np)) (some n) (b₀ :: suite) hpos] [] [] pos) (fun D σ H => tb (xTry X.K c i ts D σ) D σ H) := by
  intro pins s σ H D I h
  refine wpAny_Try_except (wpAny_mono (hc _ pins s σ H D I h) (fun f s1 h1 => ?_) fun e s' ⟨H1, s1, I1, hx⟩ => handle hst hf hg hm rc hs hN hi hl I1 hx hdb)
  cases f with
  | next => exact wpAny_execs_nil h1
  | _ => exact h1
/-! ### isinstance(x, (A, B)) -/
theorem vals_ty {Ts : List String} : ∀ {us : List Value}, Vals (Ts.map V.ty) us → us = Ts.map Value.type := by
  induction Ts with
  | nil => intro us r; rw [List.map_nil] at r; cases r; rfl
  | cons b bs ih =>
    intro us r
    rw [List.map_cons] at r
    cases r with
    | cons r1 r2 =>
      cases (show _ = Value.type b from r1)
      rw [ih r2, List.map_cons]
theorem isinst_tup {pins : List (Addr × Obj)} {σ : St} {H : Hp} {s : Shared} {A : Around} {Q : Value → Shared → Prop} {E : Value → Shared → Prop} {b : Bool} {x : V} {u t : Value} {p : Addr} {Ts : List String} (I : Inv X pins σ H s) (rx : RelV x u) (ty : TyOf X.K H x t) (hp : H p = some (.tup (Ts.map V.ty)))
    (e : PySem.W.kitAny X.K t (Ts.map Value.type) = some b) (h : ∀ tk, Q (.bool b) { s with toks := tk }) : wpAny (model X.prog X.w) A (call (.builtin "isinstance") [u, .ref p]) Q E s := by
  obtain ⟨_, its, rv, o, ho, hc, n, hd⟩ := (show ObjOk X.prog X.w H s.heap p (.tup (Ts.map V.ty)) from I.hok p _ hp)
  have ei := vals_ty rv
  subst ei
  have htp : s.heap.get? p = some ⟨.type "tuple", o.dict, .seq (Ts.map Value.type).toArray n, o.slots⟩ := by
    rw [ho, ← hc, ← hd]
  cases ty with
  | non => cases (show u = Value.none from rx); exact PySem.W.kia_tup PySem.W.kitx_none I.kIn True.intro htp e (fun z => nomatch z) h
  | bl y => cases (show u = Value.bool y from rx); exact PySem.W.kia_tup PySem.W.kitx_bool I.kIn True.intro htp e (fun z => nomatch z) h
  | int i => obtain ⟨t, q⟩ := (show ∃ t, u = Value.int i t from rx); cases q; exact PySem.W.kia_tup PySem.W.kitx_int I.kIn True.intro htp e (fun z => nomatch z) h
  | str y => obtain ⟨t, q⟩ := (show ∃ t, u = Value.str y t from rx); cases q; exact PySem.W.kia_tup PySem.W.kitx_str I.kIn True.intro htp e (fun z => nomatch z) h
  | flt y => obtain ⟨t, q⟩ := (show ∃ t, u = Value.float y t from rx); cases q; exact PySem.W.kia_tup PySem.W.kitx_float I.kIn True.intro htp e (fun z => nomatch z) h
  | @lst a xs ea =>
    cases (show u = Value.ref a from rx)
    obtain ⟨_, _, n, _, h1⟩ := (show ObjOk X.prog X.w H s.heap a (.lst xs) from I.hok a _ ea)
    exact PySem.W.kia_tup PySem.W.kitx_list I.kIn ⟨_, h1, rfl⟩ htp e (fun z => nomatch z) h
  | @frz a ob xs ea =>
    cases (show u = Value.ref a from rx)
    obtain ⟨_, _, _, n, _, h1⟩ := (show ObjOk X.prog X.w H s.heap a (.frz ob (.lst xs)) from I.hok a _ ea)
    exact PySem.W.kia_tup PySem.W.kitx_list I.kIn ⟨_, h1, rfl⟩ htp e (fun z => nomatch z) h
  | @tup a xs ea =>
    cases (show u = Value.ref a from rx)
    obtain ⟨_, _, _, p⟩ := (show ObjOk X.prog X.w H s.heap a (.tup xs) from I.hok a _ ea)
    obtain ⟨o, h1, h2, _⟩ := p
    exact PySem.W.kia_tup PySem.W.kitx_tuple I.kIn ⟨o, h1, h2⟩ htp e (fun z => nomatch z) h
  | @dK a kvs ea =>
    cases (show u = Value.ref a from rx)
    obtain ⟨_, _, vs, _, p⟩ := (show ObjOk X.prog X.w H s.heap a (.dK kvs) from I.hok a _ ea)
    obtain ⟨o, es, ep, h1, h2, _⟩ := p
    exact PySem.W.kia_tup PySem.W.kitx_dict I.kIn ⟨o, h1, h2.1⟩ htp e (fun z => nomatch z) h
  | @dT a kvs ea =>
    cases (show u = Value.ref a from rx)
    obtain ⟨_, _, xs, _, o, es, ep, h1, h2, _⟩ := (show ObjOk X.prog X.w H s.heap a (.dT kvs) from I.hok a _ ea)
    exact PySem.W.kia_tup PySem.W.kitx_dict I.kIn ⟨o, h1, h2.1⟩ htp e (fun z => nomatch z) h
  | @ins a C dx fs ea cl ha hn htk hm =>
    cases (show u = Value.ref a from rx)
    obtain ⟨mA, O, _⟩ := ins_get I.hok ea
    obtain ⟨od, J, _⟩ := O.look
    exact PySem.W.kia_tup (PySem.W.kitx_own (cl.get _) cl.hd ha hn htk hm) I.kIn J htp e (fun z => nomatch z) h
theorem call_isinstT (K : PySem.W.Frag) (hK : X.K = K) : CallR X (.builtin "isinstance") (fun xs H Q => ∃ (x : V) (p : Addr) (t : Value) (b : Bool) (Ts : List String), xs = [x, .ref p] ∧ H p = some (.tup (Ts.map V.ty)) ∧ TyOf K H x t ∧ PySem.W.kitAny K t (Ts.map Value.type) = some b ∧ Q (.bl b) H) := by
  subst hK
  intro pins s σ H xs us Q I r h
  obtain ⟨x, p, t, b, Ts, rfl, hp, ty, e, q⟩ := h
  obtain ⟨u, w', rfl, rx, rc⟩ := Vals.two r
  cases (show w' = .ref p from rc)
  exact isinst_tup I rx ty hp e fun tk => ⟨.bl b, H, I.tok tk, rfl, q⟩
end
end L2

/-! EXT 11: sum(list of numbers); for i, c in enumerate(text). -/
namespace L2
open PySem PySem.Spec PyProof.Rows
section
variable {X : Cx}
/-! ### enumerate(text) -/
def Ite (x : Str) : It :=
  ⟨fun i _ => i < x.length,
   fun i H v H' => ∃ T c, v = .ref T ∧ H T = none ∧ H' = upd H T (.tup [.int i, .str ⟨#[c]⟩]) ∧ x.cps[i]? = some c,
   fun i _ => x.length = i, false⟩
def iEnum (te : TE) : TI := fun σ H R => te σ H fun v H1 => ∃ z, v = .str z ∧ R (Ite z) H1
end
end L2

/-! EXT 12: range(lo, hi, step), the step a small number above nought. -/
namespace L2
open PySem PySem.Spec PyProof.Rows
/-- lo, lo + c, .. (n of them) -/
def ItrS (lo c : Int) (n : Nat) : It := ⟨fun i _ => i < n, fun i H x H' => H' = H ∧ x = .int (lo + i * c), fun i _ => n ≤ i, false⟩
section
variable {X : Cx} {tg : Expr}
def iRng3 (ta : TA) : TI := fun σ H R => ta σ H fun vs H1 => ∃ i j c : Int, vs = [.int i, .int j, .int c] ∧ 0 < c ∧ c < 1000 ∧ Builtin.Range.small i j c = true ∧ 0 ≤ Builtin.Range.rangeSize i j c ∧ R (ItrS i c (Builtin.Range.rangeSize i j c).toNat) H1
end
end L2

/-! EXT 13: a comprehension whose one target is a cell (a comprehension within it reads it). -/
namespace L2
open PySem PySem.Spec PyProof.Rows
def cxD (X : Cx) (x0 : Str) (N : List Str) (scope : Scope) (C : Addr) (s₂ : Shared) (H₂ : Hp) (fp : List Addr) : Cx where
  prog := X.prog
  w := X.w
  K := X.K
  mg := X.mg
  base := X.base
  A := X.A
  N := N
  s₀ := s₂
  H₀ := H₂
  env := compEnvC scope ((x0, C + 1) :: clOf scope.names X.env) C X.env
  outer := X.stack
  stack := X.stack
  ex := fp
  fn := fun x => x == x0
  calm := X.calm
  suit := X.suit
  pn := []
  xe := fun _ _ => False
structure CompOkD (X : Cx) (scope : Scope) (x0 : Str) : Prop where
  kind : scope.kind = .function
  clos : closureFor scope X.env = pure (clOf scope.names X.env)
  cell1 : ∀ y ∈ scope.names, y.2 = .cell → y.1 = x0
  notf : ∀ y ∈ scope.names, y.2 = .free → y.1 ≠ x0
  own : ∀ n cl, cellsFrom n scope.names cl = (x0, n) :: cl
  psh : ∀ h : Heap, pushCells h scope.names = h.push { cls := .type "cell", data := .cell none }
  names : ∀ y ∈ scope.names, y.2 = .local → scope.names.lookup y.1 = some .local
  free : ∀ y ∈ scope.names, y.2 = .free → (X.env.cells.lookup y.1).isSome = true
section
variable {x0 : Str} {X : Cx} {scope : Scope} {ts xs : List Str} {js : List Nat} {target iter elt : Expr} {ifs : List Expr} {wi : TI} {g : TG} {tif : TT} {te : TE} {pos : Pos}
end
end L2

/-! EXT 14: for i, x in enumerate(list); x not in (data, ..); list(range(n)). -/
namespace L2
open PySem PySem.Spec PyProof.Rows
/-! ### enumerate(list) -/
def Itel (K : PySem.W.Frag) (l : Addr) : It :=
  ⟨fun i H => ∃ xs x, SqL K H l xs ∧ xs[i]? = some x,
   fun i H v H' => ∃ T x, v = .ref T ∧ H T = none ∧ H' = upd H T (.tup [.int i, x]) ∧ ∀ xs, SqL K H l xs → xs[i]? = some x,
   fun i H => ∃ xs, SqL K H l xs ∧ xs.length = i, false⟩
section
variable {X : Cx}
def iEnumL (K : PySem.W.Frag) (te : TE) : TI := fun σ H R => te σ H fun v H1 => ∃ l, v = .ref l ∧ (∃ xs, SqL K H1 l xs) ∧ R (Itel K l) H1
/-! ### x not in (..), of data -/
def rNotInT (K : PySem.W.Frag) : R2 := fun x y H Q => ∃ d ds, DatV K H x d ∧ DatV K H y (.tuple ds) ∧ SeqAt.shaped d = true ∧ SeqAt.shaped (.tuple ds) = true ∧ Q (.bl (!ds.any fun e => PyData.eqv e d)) H
/-! ### list(range(n)) -/
def rListRng : List V → Hp → VK → Prop := fun xs H Q => ∃ (p : Addr) (n : Nat), xs = [.ref p] ∧ H p = some (.rng 0 n) ∧ n ≤ 100000 ∧ ∀ l, H l = none → Q (.ref l) (upd H l (.lst ((List.range n).map fun i => V.int (i : Nat))))
end
theorem pe_callSS {X : Cx} {k : Nat} {f : Addr} {fd : FuncData} {ps : List Str} {sp : Sp} {x : Str} {p pos : Pos} {e : Expr} {es : List Expr} {t : TA}
    (hsuit : X.suit = true) (F : FnOk X.prog X.w X.K X.mg X.base CXS k f fd ps sp) (hr : Room k X.A) (hg : Gl X x) (hm : X.mg x = some (.ref f)) (hk : PySem.W.keepIn X.K (.ref f) = true) (hb : Binds X.K fd ps [])
    (ha : PA X (e :: es) t) (hdb : (x == ("__debug__" : Str)) = false := by decide) (he : starEach (e :: es) X.env = (false, eval e X.env) :: starEach es X.env := by rfl) (hpl : (backTo pos (starEach es X.env)).any (·.1) = false := by rfl) :
    PE X (.Call (.Name x p) (e :: es) [] pos) (fun σ H Q => t σ H fun vs H1 => sp vs H1 Q E0) := by
  intro pins s σ H Q I h
  refine wpAny_Call_Name_kw (ld_glob I hg hm ?_ hdb)
  refine PySem.W.callWith_K (h₀ := X.base) I.ok.mod.kin hk (thn (ha pos pins s σ H _ I h) fun us s1 ⟨vs, H1, I1, r, q⟩ => ⟨I1.kIn, ?_⟩) he hpl
  have hd : Hd X.A H1 := by
    obtain ⟨ex, cls, dx, a0, tb, hA, hE⟩ := I1.ok.hs hsuit
    exact ⟨ex, cls, dx, a0, tb, hA, I1.base.frzs ex _ _ hE⟩
  have hl : us.length = ps.length := by rw [← r.length]; exact F.len _ _ _ _ q
  refine wpAny_call (codeAny_mono (F.run X.A X.stack s1 H1 ⟨us, []⟩ us vs Q E0 hr (fun z => Bool.noConfusion z) (fun _ => hd) I1.env0 (by have z := hb s1 us I1.kIn (by rw [List.append_nil]; exact hl); rw [List.append_nil] at z; exact z) r q) fun r s' hq => ?_)
  cases r with
  | error e => exact False.elim hq
  | ok fl =>
    cases fl with
    | ret u => exact I1.after hq
    | next => exact False.elim hq
    | brk => exact False.elim hq
    | cont => exact False.elim hq
end L2

/-! EXT 16: a list of pairs (word, isinstance(e, C)), laid bit by bit, the heap behind it any one that keeps what was. -/
namespace L2
open PySem PySem.Spec PyProof.Rows
def ExAt (H : Hp) (e C : Addr) : Prop := ∃ dx a0 tb, H e = some (xHO e (xObj (.ref C) dx a0 tb)) ∧ (dx = none ∨ ∃ d fs, dx = some d ∧ H d = some (.xd fs))
def Laid (H : Hp) (ts : List Addr) (prs : List (Str × Bool)) : Prop := ts.length = prs.length ∧ ∀ (i : Nat) t w b, ts[i]? = some t → prs[i]? = some (w, b) → H t = some (.tup [.str w, .bl b])
def tPr (C : Addr) (w : Str) (b : Bool) : TE := fun σ H Q => ∃ e, σ[0]? = some (some (.ref e)) ∧ ExAt H e C ∧ ∀ t H', Same H H' → H' t = some (.tup [.str w, .bl b]) → Q (.ref t) H'
def tPa (C : Addr) (prs : List (Str × Bool)) : TA := fun σ H Q => ∃ e, σ[0]? = some (some (.ref e)) ∧ ExAt H e C ∧ ∀ ts H', Same H H' → Laid H' ts prs → Q (ts.map V.ref) H'
def tPl (C : Addr) (prs : List (Str × Bool)) : TE := fun σ H Q => ∃ e, σ[0]? = some (some (.ref e)) ∧ ExAt H e C ∧ prs.length ≤ sizeLine ∧ ∀ l ts H', Same H H' → H' l = some (.lst (ts.map V.ref)) → Laid H' ts prs → Q (.ref l) H'
def tPc (C : Addr) (prs : List (Str × Bool)) : TE := fun σ H Q => ∃ e l ts qrs, σ[0]? = some (some (.ref e)) ∧ σ[1]? = some (some (.ref l)) ∧ ExAt H e C ∧ H l = some (.lst (ts.map V.ref)) ∧ Laid H ts qrs ∧ prs.length ≤ sizeLine ∧ qrs.length + prs.length ≤ sizeLine ∧ ∀ l ts H', Same H H' → H' l = some (.lst (ts.map V.ref)) → Laid H' ts (qrs ++ prs) → Q (.ref l) H'
/-! ### the rest of a def hidden: its reading stands in the proof once, and not at each depth of binders -/
section
variable {X : Cx}
end
end L2

/-! EXT 17: o.m(..) by the class that the instance has; C() of a class without __init__; int.bit_length; str(text). -/
namespace L2
open PySem PySem.Spec PyProof.Rows
/-- a method of a class, with its promise -/
structure Disp (P : Program) (w : World) (K : PySem.W.Frag) (mg : Str → Option Value) (base : Heap) (k : Nat) (m : Str) (C : Addr) (sp : Sp) : Prop where
  c : Cls K C
  ex : ∃ f fd ps, Meth K C m f ∧ FnOk P w K mg base CX0 k f fd ps sp ∧ Binds K fd ps []
section
variable {X : Cx} {k : Nat} {m : Str} {pos apos : Pos} {e o : Expr} {es : List Expr} {ta : TE} {t : TA}
def tMethD (P : Program) (w : World) (K : PySem.W.Frag) (mg : Str → Option Value) (base : Heap) (k : Nat) (m : Str) (ta : TE) (t : TA) : TE := fun σ H Q => ta σ H fun x H1 => ∃ a C dx fs sp, x = .ref a ∧ H1 a = some (.ins C dx fs) ∧ fs.lookup m = none ∧ Disp P w K mg base k m C sp ∧
  t σ H1 fun vs H2 => sp (x :: vs) H2 Q E0
/-- C() where there is no __init__ but object's -/
def tMakeN (C : Addr) : TE := fun _ H Q => ∀ x dx, H x = none → H dx = none → dx ≠ x → Q (.ref x) (upd (upd H dx (.own x)) x (.ins C dx []))
end
end L2

/-! EXT 18: comprehensions whose parts may lay new things: over a list, a tuple, a text; with a test or without. -/
namespace L2
open PySem PySem.Spec PyProof.Rows
/-- what is walked through, as long as nothing old changes -/
structure Wk (J : It) (H1 : Hp) (xs : List V) : Prop where
  go : ∀ H i, Same H1 H → i < xs.length → J.go i H
  stop : ∀ H i, Same H1 H → i = xs.length → J.stop i H
  yld : ∀ H i x H', Same H1 H → i < xs.length → J.yld i H x H' → H' = H ∧ xs[i]? = some x
theorem Wk.list {K : PySem.W.Frag} {H1 : Hp} {l : Addr} {xs : List V} (h : SqL K H1 l xs) : Wk (Itl K l) H1 xs where
  go := fun H i s hi => ⟨_, xs[i], s.seq h, List.getElem?_eq_getElem hi⟩
  stop := fun H i s hi => ⟨_, s.seq h, by omega⟩
  yld := fun H i x H' s hi y => ⟨y.1, y.2 _ (s.seq h)⟩
def sgV (z : Str) : List V := z.cps.toList.map fun c => V.str ⟨#[c]⟩
section
variable {J : It} {H1 : Hp} {xs : List V} {σ0 : St} {g : TG} {tif : TT} {te : TE} {Q : VK}
theorem comp_genI (W : Wk J H1 xs) (hz : xs.length ≤ 1000) (p : Nat → Bool) (f : Nat → V)
    (hs : ∀ (j : Nat) (x : V), xs[j]? = some x → ∀ (H : Hp) (R : Bool → V → Hp → Prop), Same H1 H → (∀ H', Same H H' → p j = true → R true (f j) H') → (∀ H', Same H H' → p j = false → R false .non H') →
      g x σ0 H fun σ2 H2 => Sub σ0 σ2 ∧ tif σ2 H2 fun b H3 => if b = true then te σ2 H3 (R true) else R false .non H3)
    (hd : ∀ D H', H1 D = none → Same H1 H' → H' D = some (.lst (((List.range xs.length).filter p).map f)) → Q (.ref D) H') : CompW J H1 σ0 g tif te Q := by
  intro D hD
  refine ⟨fun i m ys H => m = xs.length - i ∧ i ≤ xs.length ∧ ys = ((List.range i).filter p).map f ∧ Same H1 H ∧ H D = some (.lst ys), ⟨xs.length, by simp, Nat.zero_le _, rfl, sameU hD, upd_same⟩, ?_⟩
  rintro i m ys H ⟨rfl, hi, rfl, sm, hDy⟩
  refine ⟨hDy, ?_⟩
  by_cases hlt : i < xs.length
  · refine .inr ⟨W.go H i sm hlt, fun x H' y => ?_⟩
    obtain ⟨e, hx⟩ := W.yld H i x H' sm hlt y
    subst e
    have ht : List.range (i + 1) = List.range i ++ [i] := List.range_succ
    have hl : (((List.range i).filter p).map f).length < sizeLine := by
      rw [List.length_map]
      refine small1000 (Nat.le_trans (List.length_filter_le _ _) ?_)
      rw [List.length_range]
      omega
    have key := hs i x hx H' (fun b v H4 => if b = true then H4 D = some (.lst (((List.range i).filter p).map f)) ∧ (((List.range i).filter p).map f).length < sizeLine ∧ ∃ m', m' < xs.length - i ∧
        (m' = xs.length - (i + 1) ∧ i + 1 ≤ xs.length ∧ ((List.range i).filter p).map f ++ [v] = ((List.range (i + 1)).filter p).map f ∧ Same H1 (upd H4 D (.lst (((List.range i).filter p).map f ++ [v]))) ∧ upd H4 D (.lst (((List.range i).filter p).map f ++ [v])) D = some (.lst (((List.range i).filter p).map f ++ [v])))
      else ∃ m', m' < xs.length - i ∧ (m' = xs.length - (i + 1) ∧ i + 1 ≤ xs.length ∧ ((List.range i).filter p).map f = ((List.range (i + 1)).filter p).map f ∧ Same H1 H4 ∧ H4 D = some (.lst (((List.range i).filter p).map f)))) sm
      (fun H4 s4 hp => by
        rw [if_pos rfl]
        refine ⟨s4 _ _ hDy, hl, xs.length - (i + 1), by omega, rfl, hlt, ?_, (sm.trans s4).put hD, upd_same⟩
        rw [ht, List.filter_append, List.filter_cons_of_pos hp, List.map_append]; rfl)
      (fun H4 s4 hp => by
        rw [if_neg Bool.false_ne_true]
        refine ⟨xs.length - (i + 1), by omega, rfl, hlt, ?_, sm.trans s4, s4 _ _ hDy⟩
        rw [ht, List.filter_append, List.filter_cons_of_neg (by rw [hp]; exact Bool.false_ne_true), List.filter_nil, List.append_nil])
    exact key
  · have e : i = xs.length := by omega
    subst e
    refine .inl ⟨W.stop H _ sm rfl, hd D H hD sm ?_⟩
    exact hDy
theorem comp_growI (W : Wk J H1 xs) (hz : xs.length ≤ 1000) (f : Nat → V)
    (hs : ∀ (j : Nat) (x : V), xs[j]? = some x → ∀ (H : Hp) (R : VK), Same H1 H → (∀ H', Same H H' → R (f j) H') → g x σ0 H fun σ2 H2 => Sub σ0 σ2 ∧ te σ2 H2 R)
    (hd : ∀ D H', H1 D = none → Same H1 H' → H' D = some (.lst ((List.range xs.length).map f)) → Q (.ref D) H') : CompW J H1 σ0 g tTrue te Q := by
  refine comp_genI W hz (fun _ => true) f (fun j x hx H R s h1 _ => ?_) (fun D H' a b c => hd D H' a b ?_)
  · exact hs j x hx H (R true) s fun H' s' => h1 H' s' rfl
  · rw [List.filter_eq_self.mpr (fun _ _ => rfl)] at c
    exact c
end
end L2

/-! EXT 19: a list == [] -/
namespace L2
open PySem PySem.Spec PyProof.Rows
def rEqNil : R2 := fun x y H Q => ∃ p q xs, x = .ref p ∧ y = .ref q ∧ H p = some (.lst xs) ∧ H q = some (.lst []) ∧ Q (.bl xs.isEmpty) H
section
variable {X : Cx}
theorem op_eqNil (hu : X.A.units + 64 < cLine) : OpR X (compareOp .Eq) rEqNil := by
  intro pins s σ H x y v u Q I rx ry h
  obtain ⟨p, q, xs, rfl, rfl, hp, hq, k⟩ := h
  cases rx
  cases ry
  cases xs with
  | nil =>
    refine op_eqD hu pins s σ H (.ref p) (.ref q) _ _ Q I rfl rfl ⟨.list [], .list [], .lst (SqL.of hp) .nil, .lst (SqL.of hq) .nil, by decide, by decide, ?_⟩
    exact k
  | cons y ys =>
    obtain ⟨_, its, n, r, el, hl⟩ := I.lstM hp
    obtain ⟨_, its2, n2, r2, el2, hl2⟩ := I.lstM hq
    have e2 : its2.length = 0 := el2.symm
    have e1 : its.length = ys.length + 1 := el.symm
    refine PySem.SeqAt.eq_list_lengthsAt ⟨_, hl, rfl, n, rfl⟩ ⟨_, hl2, rfl, n2, rfl⟩ ?_ (by omega) ⟨.bl _, H, I, rfl, k⟩
    rw [List.size_toArray, List.size_toArray, e1, e2]
    rfl
end
end L2

namespace L2
open PySem PySem.Spec PyProof.Rows

/-! ### lists of pairs as tables -/
section
variable {κ : Type} [DecidableEq κ]
def valV (kvs : List (κ × V)) (k : κ) : Option V := (kvs.find? fun kv => decide (kv.1 = k)).map (·.2)
/-- in its place, or at the end -/
def putK (kvs : List (κ × V)) (k : κ) (v : V) : List (κ × V) :=
  if (kvs.any fun kv => decide (kv.1 = k)) = true then kvs.map (fun kv => if kv.1 = k then (kv.1, v) else kv) else kvs ++ [(k, v)]
def dropK (kvs : List (κ × V)) (k : κ) : List (κ × V) := kvs.filter fun kv => decide (kv.1 ≠ k)

theorem valV_pos {p : κ × V} {r : List (κ × V)} {k : κ} (e : p.1 = k) : valV (p :: r) k = some p.2 := by simp [valV, List.find?_cons, e]
theorem valV_neg {p : κ × V} {r : List (κ × V)} {k : κ} (e : ¬ p.1 = k) : valV (p :: r) k = valV r k := by simp [valV, List.find?_cons, e]
theorem valV_any (k : κ) : ∀ kvs : List (κ × V), (kvs.any fun kv => decide (kv.1 = k)) = (valV kvs k).isSome
  | [] => rfl
  | p :: r => by
    rw [List.any_cons]
    by_cases e : p.1 = k
    · simp only [valV_pos e, decide_eq_true e, Bool.true_or, Option.isSome_some]
    · rw [valV_neg e, decide_eq_false e, Bool.false_or]; exact valV_any k r
theorem length_putK (kvs : List (κ × V)) (k : κ) (v : V) : (putK kvs k v).length ≤ kvs.length + 1 := by
  unfold putK
  split
  · rw [List.length_map]; omega
  · rw [List.length_append, List.length_cons, List.length_nil]; omega
theorem RelO.isSome_eq {o : Option V} {u : Option Value} (r : RelO o u) : o.isSome = u.isSome := by
  cases o with
  | none => cases u with
    | none => rfl
    | some _ => exact (show False from r).elim
  | some _ => cases u with
    | none => exact (show False from r).elim
    | some _ => rfl
/-- raw tables of the same keys -/
theorem KV.val {kvs : List (κ × V)} {vs : List (κ × Value)} (r : KV kvs vs) (k : κ) : RelO (valV kvs k) (valueAt vs k) := by
  unfold KV at r
  induction r with
  | nil => exact True.intro
  | @cons p q ps qs h t ih =>
    obtain ⟨h1, h2⟩ := h
    by_cases e : p.1 = k
    · have e' : q.1 = k := h1.symm.trans e
      have b : valueAt (q :: qs) k = some q.2 := by simp [valueAt, List.find?_cons, e']
      rw [valV_pos e, b]; exact h2
    · have e' : ¬ q.1 = k := fun z => e (h1.trans z)
      have b : valueAt (q :: qs) k = valueAt qs k := by simp [valueAt, List.find?_cons, e']
      rw [valV_neg e, b]; exact ih
theorem KV.any {kvs : List (κ × V)} {vs : List (κ × Value)} (r : KV kvs vs) (k : κ) : (kvs.any fun kv => decide (kv.1 = k)) = vs.any fun kv => decide (kv.1 = k) := by
  unfold KV at r
  induction r with
  | nil => rfl
  | cons h t ih => rw [List.any_cons, List.any_cons, ih, h.1]
theorem KV.repl {kvs : List (κ × V)} {vs : List (κ × Value)} (r : KV kvs vs) (k : κ) {y : V} {u : Value} (ry : RelV y u) :
    KV (kvs.map fun kv => if kv.1 = k then (kv.1, y) else kv) (vs.map fun kv => if kv.1 = k then (kv.1, u) else kv) := by
  unfold KV at r ⊢
  induction r with
  | nil => exact .nil
  | @cons p q ps qs h t ih =>
    rw [List.map_cons, List.map_cons]
    refine .cons ?_ ih
    obtain ⟨h1, h2⟩ := h
    by_cases e : p.1 = k
    · rw [if_pos e, if_pos (h1.symm.trans e)]; exact ⟨h1, ry⟩
    · rw [if_neg e, if_neg (fun z => e (h1.trans z))]; exact ⟨h1, h2⟩
theorem KV.put {kvs : List (κ × V)} {vs : List (κ × Value)} (r : KV kvs vs) (k : κ) {y : V} {u : Value} (ry : RelV y u) : KV (putK kvs k y) (stored vs k u) := by
  unfold putK stored
  rw [r.any k]
  by_cases e : (vs.any fun kv => decide (kv.1 = k)) = true
  · rw [if_pos e, if_pos e]; exact r.repl k ry
  · rw [if_neg e, if_neg e]; exact Paired.snoc r ⟨rfl, ry⟩
theorem KV.length {kvs : List (κ × V)} {vs : List (κ × Value)} (r : KV kvs vs) : kvs.length = vs.length := Paired.length r
end

/-! ### a tracked dict, its keys ints and texts or tuples of these -/
theorem kV_is {P : Program} {w : World} {k : Key} {u : Value} (r : RelV (kV k) u) : (mixKind P w).is k u = true := by
  cases k with
  | inl i => obtain ⟨t, e⟩ := (show ∃ t, u = Value.int i t from r); subst e; exact mixKind_int P w i t
  | inr x => obtain ⟨t, e⟩ := (show ∃ t, u = Value.str x t from r); subst e; exact mixKind_str P w x t
theorem items_are {P : Program} {w : World} : ∀ {ks : List Key} {us : List Value}, Vals (ks.map kV) us → ItemsAre (mixKind P w) ks us
  | [], _, r => by rw [List.map_nil] at r; cases r; exact .nil
  | k :: ks, _, r => by
    rw [List.map_cons] at r
    cases r with
    | cons h t => exact .cons (kV_is h) (items_are t)

/-- raw entries of a dict with tuple keys -/
abbrev KT (H : Hp) : List (List Key × V) → List (List Key × Addr × Value) → Prop := Paired fun p q => p.1 = q.1 ∧ H q.2.1 = some (.tup (p.1.map kV)) ∧ RelV p.2 q.2.2
theorem KT.val {H : Hp} {kvs : List (List Key × V)} {xs : List (List Key × Addr × Value)} (r : KT H kvs xs) (k : List Key) : RelO (valV kvs k) ((atKey xs k).map (·.2)) := by
  induction r with
  | nil => exact True.intro
  | @cons p q ps qs h t ih =>
    obtain ⟨h1, _, h2⟩ := h
    by_cases e : p.1 = k
    · have e' : q.1 = k := h1.symm.trans e
      have b : atKey (q :: qs) k = some q.2 := by simp [atKey, List.find?_cons, e']
      rw [valV_pos e, b]; exact h2
    · have e' : ¬ q.1 = k := fun z => e (h1.trans z)
      have b : atKey (q :: qs) k = atKey qs k := by simp [atKey, List.find?_cons, e']
      rw [valV_neg e, b]; exact ih
theorem KT.repl {H : Hp} {kvs : List (List Key × V)} {xs : List (List Key × Addr × Value)} (r : KT H kvs xs) (k : List Key) {y : V} {u : Value} (ry : RelV y u) :
    KT H (kvs.map fun kv => if kv.1 = k then (kv.1, y) else kv) (xs.map (putAt k u)) := by
  induction r with
  | nil => exact .nil
  | @cons p q ps qs h t ih =>
    rw [List.map_cons, List.map_cons]
    refine .cons ?_ ih
    obtain ⟨h1, h2, h3⟩ := h
    unfold putAt
    by_cases e : p.1 = k
    · rw [if_pos e, if_pos (h1.symm.trans e)]; exact ⟨h1, h2, ry⟩
    · rw [if_neg e, if_neg (fun z => e (h1.trans z))]; exact ⟨h1, h2, h3⟩
theorem KT.put {H : Hp} {kvs : List (List Key × V)} {xs : List (List Key × Addr × Value)} (r : KT H kvs xs) (k : List Key) {b : Addr} {y : V} {u : Value} (hb : H b = some (.tup (k.map kV))) (ry : RelV y u) :
    KT H (putK kvs k y) (storedH xs k b u) := by
  have e : (kvs.any fun kv => decide (kv.1 = k)) = (atKey xs k).isSome := by
    rw [valV_any, (r.val k).isSome_eq, Option.isSome_map]
  unfold putK storedH
  rw [e]
  by_cases q : (atKey xs k).isSome = true
  · rw [if_pos q, if_pos q]; exact r.repl k ry
  · rw [if_neg q, if_neg q]; exact Paired.snoc r ⟨rfl, hb, ry⟩
theorem KT.keeps {H H' : Hp} {kvs : List (List Key × V)} {xs : List (List Key × Addr × Value)} (r : KT H kvs xs) (ht : ∀ b ys, H b = some (.tup ys) → H' b = some (.tup ys)) : KT H' kvs xs :=
  Paired.mapP r fun _ _ z => ⟨z.1, ht _ _ z.2.1, z.2.2⟩

section
variable {P : Program} {w : World} {H : Hp} {h : Heap} {a : Addr}
theorem rd_of {u : HO} (ok : HOk P w H h) (e : Rd H a u) : ObjOk P w H h a u := e.ok ok
theorem dk_rd {kvs : List (Key × V)} (ok : HOk P w H h) (e : Rd H a (.dK kvs)) : kvs.length ≤ sizeLine ∧ (a == sysModules) = false ∧ ∃ vs, KV kvs vs ∧ h.DictOf (mixKind P w) a vs :=
  show ObjOk P w H h a (.dK kvs) from rd_of ok e
theorem dk_of {kvs : List (Key × V)} (ok : HOk P w H h) (e : H a = some (.dK kvs)) : kvs.length ≤ sizeLine ∧ (a == sysModules) = false ∧ ∃ vs, KV kvs vs ∧ h.DictOf (mixKind P w) a vs := dk_rd ok (.inl e)
/-- a tracked tuple of ints and texts is a key -/
theorem key_of {ks : List Key} (ok : HOk P w H h) (e : H a = some (.tup (ks.map kV))) : (tupleKind (mixKind P w)).is h ks a := by
  obtain ⟨_, its, r, o, h1, h2, n, h3⟩ := (show ObjOk P w H h a (.tup (ks.map kV)) from ok a _ e)
  exact ⟨o, its.toArray, n, h1, h2, h3, by simpa using items_are r⟩
theorem dt_rd {kvs : List (List Key × V)} (ok : HOk P w H h) (e : Rd H a (.dT kvs)) : kvs.length ≤ sizeLine ∧ (a == sysModules) = false ∧
    ∃ xs, KT H kvs xs ∧ h.DictOfH (tupleKind (mixKind P w)) a xs := by
  obtain ⟨z, y, xs, r, o, es, ep, h1, h2, h3, h4, h5⟩ := (show ObjOk P w H h a (.dT kvs) from rd_of ok e)
  refine ⟨z, y, xs, r, o, es, ep, h1, h2, h3, h4, fun x hx => ?_, h5⟩
  have all : ∀ {l : List (List Key × V)} {m : List (List Key × Addr × Value)}, KT H l m → ∀ x ∈ m, (tupleKind (mixKind P w)).is h x.1 x.2.1 := by
    intro l m q
    induction q with
    | nil => intro x hx; exact nomatch hx
    | @cons p q ps qs hq t ih =>
      intro x hx
      rcases List.mem_cons.mp hx with e | hx
      · subst e
        exact key_of ok (by rw [← hq.1]; exact hq.2.1)
      · exact ih x hx
  exact all r x hx
theorem dt_of {kvs : List (List Key × V)} (ok : HOk P w H h) (e : H a = some (.dT kvs)) : kvs.length ≤ sizeLine ∧ (a == sysModules) = false ∧
    ∃ xs, KT H kvs xs ∧ h.DictOfH (tupleKind (mixKind P w)) a xs := dt_rd ok (.inl e)
end

/-- what the dict at a holds at the key y -/
def DGet (H : Hp) (a : Addr) (y : V) (r : Option V) : Prop :=
  (∃ kvs k, Rd H a (.dK kvs) ∧ y = kV k ∧ r = valV kvs k) ∨ ∃ kvs k b, Rd H a (.dT kvs) ∧ y = .ref b ∧ H b = some (.tup (k.map kV)) ∧ r = valV kvs k
/-- the heap behind a[y] = v -/
def DPut (H : Hp) (a : Addr) (y v : V) (H' : Hp) : Prop :=
  (∃ kvs k, H a = some (.dK kvs) ∧ y = kV k ∧ kvs.length < sizeLine ∧ H' = upd H a (.dK (putK kvs k v))) ∨
  ∃ kvs k b, H a = some (.dT kvs) ∧ y = .ref b ∧ H b = some (.tup (k.map kV)) ∧ kvs.length < sizeLine ∧ H' = upd H a (.dT (putK kvs k v))
theorem DGet.k {H : Hp} {a : Addr} {kvs : List (Key × V)} {k : Key} (e : H a = some (.dK kvs)) : DGet H a (kV k) (valV kvs k) := .inl ⟨kvs, k, .inl e, rfl, rfl⟩
theorem DPut.k {H : Hp} {a : Addr} {kvs : List (Key × V)} {k : Key} {v : V} (e : H a = some (.dK kvs)) (hl : kvs.length < sizeLine) : DPut H a (kV k) v (upd H a (.dK (putK kvs k v))) := .inl ⟨kvs, k, e, rfl, hl, rfl⟩
section
variable {X : Cx} {pins : List (Addr × Obj)} {σ : St} {H : Hp} {s : Shared} {a : Addr} {y v : V} {u r : Value} {o : Option V} {A : Around} {E : Value → Shared → Prop}

/-- d[y], there -/
theorem d_getItem {Q : Value → Shared → Prop} (hu : A.units + 1 < cLine) (I : Inv X pins σ H s) (g : DGet H a y (some v)) (ry : RelV y u) (h : ∀ w' s', Inv X pins σ H s' → RelV v w' → Q w' s') :
    wpAny (model X.prog X.w) A (getItem (.ref a) u) Q E s := by
  rcases g with ⟨kvs, k, e, ey, l⟩ | ⟨kvs, k, b, e, ey, eb, l⟩
  · subst ey
    obtain ⟨z, hd, vs, rel, dd⟩ := dk_rd I.hok e
    obtain ⟨w', hw, rw'⟩ := RelO.some_of (v := v) (o := valueAt vs k) (by rw [l]; exact rel.val k)
    exact wpAny_getItem_of (kV_is ry) dd.mapOf hw (h w' _ (I.tok _) rw')
  · subst ey
    cases (show u = Value.ref b from ry)
    obtain ⟨z, hd, xs, rel, dd⟩ := dt_rd I.hok e
    obtain ⟨w', hw, rw'⟩ := RelO.some_of (v := v) (o := (atKey xs k).map (·.2)) (by rw [l]; exact rel.val k)
    obtain ⟨p, hp, hp2⟩ := Option.map_eq_some_iff.mp hw
    refine wpAny_getItem_heap (tupleKind_room_in1 hu) (key_of I.hok eb) dd hp ?_
    rw [hp2]
    exact h w' _ (I.tok _) rw'
/-- a dict's object is replaced -/
theorem d_write {h' : Heap} {t' : Nat} {ob : HO} (I : Inv X pins σ H s) (mu : Mut (H a)) (hs : Heap.SameBut a s.heap h') (he : ∃ q, h'.get? a = some q) (new : ObjOk X.prog X.w (upd H a ob) h' a ob) :
    Inv X pins σ (upd H a ob) { s with heap := h', toks := t' } :=
  I.write (x := a) (e := a) mu (.inl rfl) (fun b q hb z => (hs.2 b hb).trans z) he new
theorem dk_new {P : Program} {w : World} {H' : Hp} {h' : Heap} {kvs : List (Key × V)} {vs : List (Key × Value)} (z : kvs.length ≤ sizeLine) (hd : (a == sysModules) = false) (rel : KV kvs vs) (dd : h'.DictOf (mixKind P w) a vs) :
    ObjOk P w H' h' a (.dK kvs) := ⟨z, hd, vs, rel, dd⟩
/-- d[y] = v -/
theorem d_setItem {H' : Hp} {Q : Unit → Shared → Prop} (hu : A.units + 1 < cLine) (I : Inv X pins σ H s) (g : DPut H a y v H') (ry : RelV y u) (rv : RelV v r) (h : ∀ s', Inv X pins σ H' s' → Q () s') :
    wpAny (model X.prog X.w) A (setItem (.ref a) u r) Q E s := by
  rcases g with ⟨kvs, k, e, ey, l, eH⟩ | ⟨kvs, k, b, e, ey, eb, l, eH⟩
  · subst ey eH
    obtain ⟨z, hd, vs, rel, dd⟩ := dk_of I.hok e
    have hz : vs.length ≤ sizeLine := by rw [← rel.length]; exact z
    have hl : (putK kvs k v).length ≤ sizeLine := by have := length_putK kvs k v; omega
    refine wpAny_setItem_pairs (hsz := hz) (kV_is ry) dd fun h' dd' hs => h _ ?_
    have he : ∃ q, h'.get? a = some q := let ⟨q, _, _, hq, _⟩ := dd'; ⟨q, hq⟩
    exact d_write I (by rw [e]; exact True.intro) hs he (dk_new hl hd (rel.put k rv) dd')
  · subst ey eH
    cases (show u = Value.ref b from ry)
    obtain ⟨z, hd, xs, rel, dd⟩ := dt_of I.hok e
    have hz : xs.length ≤ sizeLine := by rw [← Paired.length rel]; exact z
    have hl : (putK kvs k v).length ≤ sizeLine := by have := length_putK kvs k v; omega
    refine wpAny_setItem_heap (hsz := hz) (tupleKind_room_in1 hu) (key_of I.hok eb) dd fun h' dd' hs => h _ ?_
    obtain ⟨q, es, ep, hq, h2, h3, h4, _, h5⟩ := dd'
    refine d_write I (by rw [e]; exact True.intro) hs ⟨q, hq⟩ ⟨hl, hd, _, (rel.put k eb rv).keeps fun c ys ec => ?_, q, es, ep, hq, h2, h3, h4, h5⟩
    rw [upd_ne (ne_of ec e (fun z => nomatch z))]
    exact ec
end

section
variable {X : Cx} {pins : List (Addr × Obj)} {σ : St} {H : Hp} {s : Shared} {a : Addr} {kvs : List (Key × V)} {k : Key} {u : Value} {A : Around} {E : Value → Shared → Prop}
end

/-! ### readings and rules -/
/-- the element of a subscription, not a slice -/
def NoSl (i : Expr) : Prop := ∀ ov iv, subscripted i false ov iv = operate [ov, iv] (getItem ov iv)
theorem subD_of {prog : Program} {w : World} {A : Around} {E : Value → Shared → Prop} {s : Shared} {env : Env} {value slice : Expr} {pos : Pos} {T id : String} {Q : Value → Shared → Prop}
    (hl : typeLookup (.type T) "__getitem__" = pure (some (.builtin id))) (hs : NoSl slice)
    (h : wpAny (model prog w) A (eval value env) (fun o s₁ => wpAny (model prog w) A (eval slice env) (fun i s₂ => s₂.TypeIs o T ∧ wpAny (model prog w) A (getItem o i) Q E s₂) E s₁) E s) :
    wpAny (model prog w) A (eval (.Subscript value slice pos) env) Q E s := by
  refine Subscript_ (wpAny_mono h (fun o s₁ h₁ => wpAny_mono h₁ (fun i s₂ h₂ => ?_) fun _ _ x => x) fun _ _ x => x)
  obtain ⟨hT, h₂⟩ := h₂
  unfold subscriptTail
  refine wpAny_bind ?_
  rw [getitemInPython_of_ne hT.not_modules]
  refine wpAny_bind (wpAny_specialOf hT hl ?_)
  have fin : wpAny (model prog w) A (subscripted slice false o i) (fun r s₃ => wpAny (model prog w) A (letTemporaryGo value o r >>= fun _ => pure r) Q E s₃) E s₂ := by
    rw [hs o i]
    exact wpAny_operating (wpAny_mono h₂ (fun r s₃ h₃ => wpAny_bind (wpAny_letTemporaryGo (wpAny_pure h₃))) fun _ _ x => x)
  first
    | exact wpAny_pure (wpAny_bind fin)
    | exact wpAny_bind (wpAny_pure (wpAny_bind fin))
    | exact wpAny_bind fin

theorem dict_typeIs {X : Cx} {pins : List (Addr × Obj)} {σ : St} {H : Hp} {s : Shared} {a : Addr} {y : V} {o : Option V} (I : Inv X pins σ H s) (g : DGet H a y o) : s.TypeIs (.ref a) "dict" := by
  rcases g with ⟨kvs, k, e, _, _⟩ | ⟨kvs, k, b, e, _, _, _⟩
  · obtain ⟨_, _, vs, _, dd⟩ := dk_rd I.hok e
    exact dd.typeIs
  · obtain ⟨_, _, xs, _, dd⟩ := dt_rd I.hok e
    exact dd.typeIs
/-- d[y] -/
def tDGet (td ty : TE) : TE := fun σ H Q => td σ H fun x H1 => ty σ H1 fun y H2 => ∃ a v, x = .ref a ∧ DGet H2 a y (some v) ∧ Q v H2
/-- y in d, y not in d -/
def tDIn (ty td : TE) : TE := fun σ H Q => ty σ H fun y H1 => td σ H1 fun x H2 => ∃ a o, x = .ref a ∧ DGet H2 a y o ∧ Q (.bl o.isSome) H2
def tDNotIn (ty td : TE) : TE := fun σ H Q => ty σ H fun y H1 => td σ H1 fun x H2 => ∃ a o, x = .ref a ∧ DGet H2 a y o ∧ Q (.bl (!o.isSome)) H2
/-- d[y] = v -/
def sDPut (td ty tv : TE) : TS := fun D σ H => tv σ H fun v H1 => td σ H1 fun x H2 => ty σ H2 fun y H3 => ∃ a H4, x = .ref a ∧ DPut H3 a y v H4 ∧ D.nx σ H4
/-- d[y] op= v -/
def sDAug (td ty tv : TE) (rd : V → V → Hp → VK → Prop) : TS := fun D σ H => td σ H fun x H1 => ty σ H1 fun y H2 => ∃ a v, x = .ref a ∧ DGet H2 a y (some v) ∧
  tv σ H2 fun y2 H3 => rd v y2 H3 fun z H4 => ∃ H5, DPut H4 a y z H5 ∧ D.nx σ H5
/-- del d[y] -/
def sDDel (td ty : TE) : TS := fun D σ H => td σ H fun x H1 => ty σ H1 fun y H2 => ∃ a kvs k, x = .ref a ∧ H2 a = some (.dK kvs) ∧ y = kV k ∧ (valV kvs k).isSome = true ∧ D.nx σ (upd H2 a (.dK (dropK kvs k)))

section
variable {X : Cx} {o i e value : Expr} {pos pos' tpos : Pos} {td ty tv : TE}
theorem pe_dget (hu : X.A.units + 1 < cLine) (ho : PE X o td) (hi : PE X i ty) (hs : NoSl i) : PE X (.Subscript o i pos) (tDGet td ty) := by
  intro pins s σ H Q I h
  refine subD_of PySem.F.slot_dict_getitem.lookup hs (thn (ho pins s σ H _ I h) fun u s1 ⟨x, H1, I1, rx, q1⟩ => thn (hi pins s1 σ H1 _ I1 q1) fun iv s2 ⟨y, H2, I2, ry, a, v, ex, g, q2⟩ => ?_)
  subst ex
  obtain rfl : u = Value.ref a := rx
  exact ⟨dict_typeIs I2 g, d_getItem hu I2 g ry fun w' s3 I3 rw' => ⟨v, H2, I3, rw', q2⟩⟩
theorem ps_dput (hu : X.A.units + 1 < cLine) (ho : PE X o td) (hi : PE X i ty) (hv : PE X value tv) (hs : swapsWith value (some (.Subscript o i pos')) pos.line X.env = pure false) :
    PS X (.Assign [.Subscript o i pos'] value pos) (sDPut td ty tv) := by
  intro pins s σ H D I h
  refine wpAny_Assign_Subscript (thn (hv pins s σ H _ I h) fun r s1 ⟨v, H1, I1, rv, q1⟩ => thn (ho pins s1 σ H1 _ I1 q1) fun u s2 ⟨x, H2, I2, rx, q2⟩ => thn (hi pins s2 σ H2 _ I2 q2) fun iv s3 ⟨y, H3, I3, ry, a, H4, ex, g, q3⟩ => ?_) hs
  subst ex
  obtain rfl : u = Value.ref a := rx
  exact d_setItem hu I3 g ry rv fun s4 I4 => ⟨σ, H4, I4, q3⟩
end

/-! ### displays -/
/-- {}, to be a dict of the kind that is wanted -/
def tDNewT : TE := fun _ H Q => ∀ p, H p = none → Q (.ref p) (upd H p (.dT []))
section
variable {X : Cx} {pos : Pos}
end

/-- the pairs of a display, from the left -/
def tPairs : List (TE × TE) → St → Hp → (List (V × V) → Hp → Prop) → Prop
  | [], _, H, Q => Q [] H
  | (tk, tv) :: r, σ, H, Q => tk σ H fun x H1 => tv σ H1 fun y H2 => tPairs r σ H2 fun ps H3 => Q ((x, y) :: ps) H3
abbrev VV : List (V × V) → List (Value × Value) → Prop := Paired fun p q => RelV p.1 q.1 ∧ RelV p.2 q.2
def PPs (X : Cx) (pos : Pos) (keys : List (Option Expr)) (values : List Expr) (trs : List (TE × TE)) : Prop :=
  ∀ (pins : List (Addr × Obj)) (s : Shared) (σ : St) (H : Hp) (Q : List (V × V) → Hp → Prop), Inv X pins σ H s → tPairs trs σ H Q →
    wpAny (model X.prog X.w) X.A (evalPairs (pairTrees keys values X.env pos)) (fun vs s' => ∃ ps H', Inv X pins σ H' s' ∧ VV ps vs ∧ Q ps H') X.xe s
theorem pps_nil {X : Cx} {pos : Pos} : PPs X pos [] [] [] := fun pins s σ H Q I h => pairTrees_nil_walk ⟨[], H, I, .nil, h⟩
theorem pps_cons {X : Cx} {pos : Pos} {k v : Expr} {ks : List (Option Expr)} {vs : List Expr} {tk tv : TE} {trs : List (TE × TE)} (hk : PE X k tk) (hv : PE X v tv) (hr : PPs X pos ks vs trs) :
    PPs X pos (some k :: ks) (v :: vs) ((tk, tv) :: trs) := fun pins s σ H Q I h =>
  pairTrees_cons_walk (thn (hk pins s σ H _ I h) fun u s1 ⟨x, H1, I1, rx, q1⟩ => thn (hv pins s1 σ H1 _ I1 q1) fun w2 s2 ⟨y, H2, I2, ry, q2⟩ =>
    thn (hr pins s2 σ H2 _ I2 q2) fun ws s3 ⟨ps, H3, I3, rel, q3⟩ => ⟨(x, y) :: ps, H3, I3, .cons ⟨rx, ry⟩ rel, q3⟩)

def mergeK (kvs more : List (Key × V)) : List (Key × V) := more.foldl (fun acc kv => putK acc kv.1 kv.2) kvs
theorem KV.merge : ∀ {more : List (Key × V)} {rs : List (Key × Value)} {kvs : List (Key × V)} {vs : List (Key × Value)}, KV more rs → KV kvs vs → KV (mergeK kvs more) (merged vs rs) := by
  intro more rs kvs vs r
  unfold KV at r
  induction r generalizing kvs vs with
  | nil => intro q; exact q
  | @cons p q ps qs h t ih =>
    intro r0
    have e : KV (putK kvs p.1 p.2) (stored vs q.1 q.2) := by
      have := r0.put p.1 h.2
      rw [← h.1]; exact this
    exact ih e
theorem length_mergeK : ∀ (more kvs : List (Key × V)), (mergeK kvs more).length ≤ kvs.length + more.length
  | [], kvs => by show kvs.length ≤ kvs.length + 0; omega
  | p :: r, kvs => by
    have h1 := length_mergeK r (putK kvs p.1 p.2)
    have h2 := length_putK kvs p.1 p.2
    show (mergeK (putK kvs p.1 p.2) r).length ≤ _
    rw [List.length_cons]; omega
theorem carries_of {P : Program} {w : World} : ∀ {kvs : List (Key × V)} {ws : List (Value × Value)}, VV (kvs.map fun kv => (kV kv.1, kv.2)) ws → ∃ rs, Carries (mixKind P w) ws rs ∧ KV kvs rs
  | [], _, r => by rw [List.map_nil] at r; cases r; exact ⟨[], True.intro, .nil⟩
  | p :: kvs, _, r => by
    rw [List.map_cons] at r
    cases r with
    | @cons a b as bs h t =>
      obtain ⟨rs, c, q⟩ := carries_of (P := P) (w := w) t
      obtain ⟨b1, b2⟩ := b
      exact ⟨(p.1, b2) :: rs, ⟨kV_is h.1, rfl, c⟩, .cons ⟨rfl, h.2⟩ q⟩
/-- {k: v, ..} with keys ints and texts; the new dict stands empty while the pairs are made -/
def tDisp (trs : List (TE × TE)) : TE := fun σ H Q => ∀ p, H p = none → tPairs trs σ (upd H p (.dK [])) fun ps H2 => H2 p = some (.dK []) ∧ ∃ kvs : List (Key × V), ps = kvs.map (fun kv => (kV kv.1, kv.2)) ∧ kvs.length ≤ 15 ∧ Q (.ref p) (upd H2 p (.dK (mergeK [] kvs)))
theorem pe_disp {X : Cx} {pos : Pos} {keys : List (Option Expr)} {values : List Expr} {trs : List (TE × TE)} (h : PPs X pos keys values trs) (hall : keys.all (·.isSome) = true) (hl : keys.length = values.length) (h0 : keys ≠ [])
    (h15 : keys.length ≤ 15) : PE X (.Dict keys values pos) (tDisp trs) := by
  intro pins s σ H Q I q
  have hn := I.hok.fresh (Nat.le_refl s.heap.objs.size)
  have I1 := I.laid (a := s.heap.objs.size) (o := .dK []) (h' := s.heap.push { cls := .type "dict", data := .dict #[] }) (t' := s.toks) (fun _ _ q => Heap.get?_push_of_some _ q) (Nat.le_refl _) (dk_empty s.heap I.big)
  refine wpAny_Dict_walk (knd := mixKind X.prog X.w) hall hl h0 h15 (thn (h pins _ σ _ _ I1 (q _ hn)) fun ws s2 ⟨ps, H2, I2, rel, e, kvs, ep, lk, q2⟩ => ?_)
  subst ep
  obtain ⟨rs, c, rk⟩ := carries_of (P := X.prog) (w := X.w) rel
  obtain ⟨z, hd, vs0, r0, dd⟩ := dk_of I2.hok e
  cases r0
  refine ⟨rs, c, dd, fun h' dd' hs => ⟨.ref s.heap.objs.size, _, ?_, rfl, q2⟩⟩
  have hz : (mergeK [] kvs).length ≤ sizeLine := by
    have h1 := length_mergeK kvs []
    rw [List.length_nil] at h1
    rw [sizeLine_eq]; omega
  have he : ∃ q, h'.get? s.heap.objs.size = some q := let ⟨q, _, _, hq, _⟩ := dd'; ⟨q, hq⟩
  exact d_write I2 (by rw [e]; exact True.intro) hs he (dk_new hz hd (rk.merge .nil) dd')

/-! ### methods -/
/-- a method call o.m(e) of a built-in, with one argument: what must be seen of the text -/
structure M1 (X : Cx) (o : Expr) (m : Str) (apos : Pos) (e : Expr) (cpos : Pos) : Prop where
  base : attributeBase o m X.env (eval o X.env) = eval o X.env
  few : ((backTo cpos (starEach [e] X.env)).all (fun x => !x.1) && (backToKw cpos (keywordEach [] X.env)).all (fun x => x.1.isSome)
    && decide (([e] : List Expr).length + ([] : List Keyword).length + (if ([] : List Keyword).isEmpty then 0 else 1) < 30)) = true
  line : (apos.endLine == cpos.line) = true
  trees : backTo cpos (starEach [e] X.env) = [(false, eval e X.env)]
structure M2 (X : Cx) (o : Expr) (m : Str) (apos : Pos) (e f : Expr) (cpos : Pos) : Prop where
  base : attributeBase o m X.env (eval o X.env) = eval o X.env
  few : ((backTo cpos (starEach [e, f] X.env)).all (fun x => !x.1) && (backToKw cpos (keywordEach [] X.env)).all (fun x => x.1.isSome)
    && decide (([e, f] : List Expr).length + ([] : List Keyword).length + (if ([] : List Keyword).isEmpty then 0 else 1) < 30)) = true
  line : (apos.endLine == cpos.line) = true
  trees : backTo cpos (starEach [e, f] X.env) = [(false, eval e X.env), (false, eval f X.env)]

/-- a is a dict, whatever its keys -/
def IsD (H : Hp) (a : Addr) : Prop := (∃ kvs, Rd H a (.dK kvs)) ∨ ∃ kvs, Rd H a (.dT kvs)
section
variable {X : Cx} {pins : List (Addr × Obj)} {σ : St} {H : Hp} {s : Shared} {a : Addr} {y d : V} {u r : Value} {o : Option V} {A : Around} {E : Value → Shared → Prop}
end

def tDGet1 (td ty : TE) : TE := fun σ H Q => td σ H fun x H1 => ∃ a, x = .ref a ∧ IsD H1 a ∧ ty σ H1 fun y H2 => ∃ o, DGet H2 a y o ∧ Q (o.getD .non) H2
def tDGet2 (td ty tx : TE) : TE := fun σ H Q => td σ H fun x H1 => ∃ a, x = .ref a ∧ IsD H1 a ∧ ty σ H1 fun y H2 => tx σ H2 fun z H3 => ∃ o, DGet H3 a y o ∧ Q (o.getD z) H3
/-- d.pop(k): there; d.pop(k, x): there or not -/
def tDPop1 (td ty : TE) : TE := fun σ H Q => td σ H fun x H1 => ∃ a, x = .ref a ∧ IsD H1 a ∧ ty σ H1 fun y H2 => ∃ kvs k v, H2 a = some (.dK kvs) ∧ y = kV k ∧ valV kvs k = some v ∧ Q v (upd H2 a (.dK (dropK kvs k)))
def tDPop2 (td ty tx : TE) : TE := fun σ H Q => td σ H fun x H1 => ∃ a, x = .ref a ∧ IsD H1 a ∧ ty σ H1 fun y H2 => tx σ H2 fun z H3 => ∃ kvs k, H3 a = some (.dK kvs) ∧ y = kV k ∧
  (∀ v, valV kvs k = some v → Q v (upd H3 a (.dK (dropK kvs k)))) ∧ (valV kvs k = none → Q z H3)
section
variable {X : Cx} {o e f : Expr} {apos cpos : Pos} {td ty tx : TE}
end

end L2

/-! EXT 20: try: x = f(..)[i]; a method called within an except suite. -/
namespace L2
open PySem PySem.Spec PyProof.Rows
section
variable {X : Cx}
theorem pex_ix {E : XK} {r : R2} {a b : Expr} {ta tb : TE} {pos : Pos} (hr : IxR X.nox r) (ha : PEX X E a ta) (hb : PE X.nox b tb) (hs : PlainIx b) : PEX X E (.Subscript a b pos) (tOp r ta tb) := by
  intro pins s σ H Q I h
  refine Subscript_ (wpAny_mono (ha pins s σ H _ I h) (fun v s1 ⟨x, H1, I1, rx, q1⟩ => ?_) fun e s' z => z)
  refine wpAny_mono (hb pins s1 σ H1 _ (I1.wish _) q1) (fun u s2 ⟨y, H2, I2, ry, q2⟩ => ?_) fun _ _ z => False.elim z
  exact wpAny_mono (hr a b pins s2 σ H2 x y v u Q I2 rx ry q2 (hs _ _)) (fun w s3 ⟨z, H3, I3, rz, q3⟩ => ⟨z, H3, I3.unwish, rz, q3⟩) fun _ _ z => False.elim z
theorem psx_set {E : XK} {i : Nat} {x : Str} {c0 : Expr} {t : TE} {pos pos' : Pos} (hN : X.N.Nodup) (hi : X.N[i]? = some x) (hx : Loc X.env.scope x) (hc : PEX X E c0 t) (hs : swapsWith c0 (some (.Name x pos')) pos.line X.env = pure false := by rfl)
    (hf : X.fn x = true ∨ X.env.scope.names.lookup x = some .local := by first | exact .inl rfl | exact .inr rfl | assumption) : PSX X E [.Assign [.Name x pos'] c0 pos] (fun D σ H => t σ H fun y H1 => D.nx (σ.set i (some y)) H1) := by
  intro pins s σ H D I h
  refine wpAny_execs_cons (wpAny_Assign_Name (wpAny_mono (hc pins s σ H _ I h) (fun v s1 ⟨y, H1, I1, r1, q1⟩ => ?_) fun e s' hx => hx) hs)
  exact store_ok I1 hN hi hx r1 (fun s2 I2 => wpAny_execs_nil ⟨_, H1, I2, q1⟩) hf
/-- o.m(..) within an except suite -/
def tMethS (X : Cx) (C : Addr) (m : Str) (sp : Sp) (ta : TE) (t : TA) : TE := fun σ H Q => ta σ H fun x H1 => ∃ a dx fs, x = .ref a ∧ H1 a = some (.ins C dx fs) ∧ fs.lookup m = none ∧ t σ H1 fun vs H2 => Hd X.A H2 ∧ sp (x :: vs) H2 Q E0
theorem pe_methS {k : Nat} {f C : Addr} {fd : FuncData} {ps : List Str} {sp : Sp} {m : Str} {pos apos : Pos} {e o : Expr} {es : List Expr} {ta : TE} {t : TA} {pl : Sem Bool} (he : PE X o ta) (c : Cls X.K C) (hm : Meth X.K C m f) (F : FnOk X.prog X.w X.K X.mg X.base CXS k f fd ps sp) (hr : Room k X.A) (hb : Binds X.K fd ps []) (ha : PA X (e :: es) t)
    (hst : starEach (e :: es) X.env = (false, eval e X.env) :: starEach es X.env := by rfl) (hpl : (backTo pos (starEach es X.env)).any (·.1) = false := by rfl)
    (ht : eval (.Call (.Attribute o m apos) (e :: es) [] pos) X.env = (do
      let ov ← eval o X.env
      standAt apos.atName
      let (f, first) ← holding [ov] (getMethod ov m pl)
      callWith pos f first (backTo pos (starEach (e :: es) X.env)) (backToKw pos (keywordEach [] X.env))) := by rfl) :
    PE X (.Call (.Attribute o m apos) (e :: es) [] pos) (tMethS X C m sp ta t) := by
  intro pins s σ H Q I h
  refine PySem.W.methodCall_KW (pl := pl) (thn (he pins s σ H _ I h) fun u s1 ⟨x, H1, I1, rx, a, dx, fs, ex, ea, l, q⟩ => ?_) ht
  subst ex
  obtain rfl : u = Value.ref a := rx
  refine getmeth_ok I1 ea c hm l ?_
  refine PySem.W.callWith_K (first := [.ref a]) (h₀ := X.base) I.ok.mod.kin hm.kp (thn (ha pos pins s1 σ H1 _ I1 q) fun us s2 ⟨vs, H2, I2, r, hd, q2⟩ => ⟨I2.kIn, ?_⟩) hst hpl
  have r2 : Vals (V.ref a :: vs) (Value.ref a :: us) := .cons rfl r
  have hl : (Value.ref a :: us).length = ps.length := by rw [← r2.length]; exact F.len _ _ _ _ q2
  refine wpAny_call (codeAny_mono (F.run X.A X.stack s2 H2 ⟨Value.ref a :: us, []⟩ (Value.ref a :: us) (V.ref a :: vs) Q E0 hr (fun z => Bool.noConfusion z) (fun _ => hd) I2.env0 (by have z := hb s2 (Value.ref a :: us) I2.kIn (by rw [List.append_nil]; exact hl); rw [List.append_nil] at z; exact z) r2 q2) fun r s' hq => ?_)
  cases r with
  | error e => exact False.elim hq
  | ok fl =>
    cases fl with
    | ret u => exact I2.after hq
    | next => exact False.elim hq
    | brk => exact False.elim hq
    | cont => exact False.elim hq
end
end L2

/-! EXT 21: amid a try: a if c else b, [e], o.m(..), o.m(), each of which may raise. -/
namespace L2
open PySem PySem.Spec PyProof.Rows
section
variable {X : Cx} {E : XK}
theorem pex_ifExp {c a b : Expr} {tA : TT} {ta tb : TE} {pos : Pos} (hc : PT X.nox c tA) (ha : PEX X E a ta) (hb : PEX X E b tb) : PEX X E (.IfExp c a b pos) (tIf tA ta tb) := by
  intro pins s σ H Q I h
  refine wpAny_IfExp (wpAny_mono (hc pins s σ H _ (I.wish _) h) (fun d s1 ⟨H1, I1, q1⟩ => ?_) fun _ _ z => False.elim z)
  cases d with
  | true => exact ha pins s1 σ H1 Q I1.unwish q1
  | false => exact hb pins s1 σ H1 Q I1.unwish q1
theorem pex_lst1 {e : Expr} {te : TE} {pos : Pos} (ha : PEX X E e te) (hs : starEach [e] X.env = (false, eval e X.env) :: starEach [] X.env := by rfl) : PEX X E (.List [e] pos) (tLst (tCons te tNil)) := by
  intro pins s σ H Q I h
  refine wpAny_List_spliced ?_
  rw [hs]
  show wpAny _ _ (spliced ((false, eval e X.env) :: backTo pos (starEach [] X.env))) _ _ s
  refine Calls.spliced_cons (wpAny_mono (ha pins s σ H _ I h) (fun u s1 ⟨x, H1, I1, r1, z, q⟩ => ?_) fun _ _ z => z)
  refine Calls.spliced_nil ⟨by show 1 ≤ sizeLine; exact z, ?_⟩
  have hf : H1 s1.heap.objs.size = none := I1.hok.fresh (Nat.le_refl _)
  refine ⟨.ref s1.heap.objs.size, upd H1 s1.heap.objs.size (.lst [x]), I1.laid (t' := s1.toks) (fun b u e => Heap.get?_push_of_some _ e) (Nat.le_refl _) ?_, rfl, q _ hf⟩
  exact ⟨z, [u], 0, .cons r1 .nil, Heap.get?_push_size _ rfl⟩
variable {cm : Bool} {k : Nat} {f C : Addr} {fd : FuncData} {ps : List Str} {sp : Sp} {m : Str} {pos apos : Pos} {e o : Expr} {es : List Expr} {ta : TE} {t : TA} {pl : Sem Bool}
theorem pex_meth (he : PE X.nox o ta) (c : Cls X.K C) (hm : Meth X.K C m f) (F : FnOk X.prog X.w X.K X.mg X.base (XC X.prog X.w cm) k f fd ps sp) (hr : Room k X.A) (hb : Binds X.K fd ps []) (hcm : cm = true → X.calm = true) (ha : PA X.nox (e :: es) t)
    (hst : starEach (e :: es) X.env = (false, eval e X.env) :: starEach es X.env := by rfl) (hpl : (backTo pos (starEach es X.env)).any (·.1) = false := by rfl)
    (ht : eval (.Call (.Attribute o m apos) (e :: es) [] pos) X.env = (do
      let ov ← eval o X.env
      standAt apos.atName
      let (f, first) ← holding [ov] (getMethod ov m pl)
      callWith pos f first (backTo pos (starEach (e :: es) X.env)) (backToKw pos (keywordEach [] X.env))) := by rfl) :
    PEX X E (.Call (.Attribute o m apos) (e :: es) [] pos) (tMeth C m sp [] E ta t) := by
  intro pins s σ H Q I h
  refine PySem.W.methodCall_KW (pl := pl) (wpAny_mono (he pins s σ H _ (I.wish _) h) (fun u s1 ⟨x, H1, I1, rx, a, dx, fs, ex, ea, l, q⟩ => ?_) fun _ _ z => False.elim z) ht
  subst ex
  obtain rfl : u = Value.ref a := rx
  refine getmeth_ok I1.unwish ea c hm l ?_
  refine PySem.W.callWith_K (first := [.ref a]) (h₀ := X.base) I.ok.mod.kin hm.kp (wpAny_mono (ha pos pins s1 σ H1 _ I1 q) (fun us s2 ⟨vs, H2, I2, r, q2⟩ => ⟨I2.unwish.kIn, ?_⟩) fun _ _ z => False.elim z) hst hpl
  have J := I2.unwish
  have r2 : Vals (V.ref a :: (vs ++ [])) (Value.ref a :: us) := by rw [List.append_nil]; exact .cons rfl r
  have hl : (Value.ref a :: us).length = ps.length := by rw [← r2.length]; exact F.len _ _ _ _ q2
  refine wpAny_call (codeAny_mono (F.run X.A X.stack s2 H2 ⟨Value.ref a :: us, []⟩ (Value.ref a :: us) (V.ref a :: (vs ++ [])) Q E hr (fun z => J.ok.hd (hcm z)) (fun z => Bool.noConfusion z) J.env0 (by have z := hb s2 (Value.ref a :: us) J.kIn (by rw [List.append_nil]; exact hl); rw [List.append_nil] at z; exact z) r2 q2) fun r s' hq => ?_)
  cases r with
  | error e => exact ⟨H2, s2, J, hq⟩
  | ok fl =>
    cases fl with
    | ret u => exact J.after hq
    | next => exact False.elim hq
    | brk => exact False.elim hq
    | cont => exact False.elim hq
theorem pex_meth0 (he : PE X.nox o ta) (c : Cls X.K C) (hm : Meth X.K C m f) (F : FnOk X.prog X.w X.K X.mg X.base (XC X.prog X.w cm) k f fd ps sp) (hr : Room k X.A) (hb : Binds X.K fd ps []) (hcm : cm = true → X.calm = true)
    (ht : eval (.Call (.Attribute o m apos) [] [] pos) X.env = (do
      let ov ← eval o X.env
      standAt apos.atName
      let (f, first) ← holding [ov] (getMethod ov m pl)
      callWith pos f first (backTo pos (starEach [] X.env)) (backToKw pos (keywordEach [] X.env))) := by rfl) :
    PEX X E (.Call (.Attribute o m apos) [] [] pos) (tMeth C m sp [] E ta tNil) := by
  intro pins s σ H Q I h
  refine PySem.W.methodCall_KW (pl := pl) (wpAny_mono (he pins s σ H _ (I.wish _) h) (fun u s1 ⟨x, H1, I1, rx, a, dx, fs, ex, ea, l, q⟩ => ?_) fun _ _ z => False.elim z) ht
  subst ex
  obtain rfl : u = Value.ref a := rx
  have J := I1.unwish
  refine getmeth_ok J ea c hm l ?_
  have r2 : Vals [V.ref a] [Value.ref a] := .cons rfl .nil
  have hl : [Value.ref a].length = ps.length := by rw [← r2.length]; exact F.len _ _ _ _ q
  refine PySem.W.callWith_K0 (first := [.ref a]) J.kIn hm.kp (wpAny_call (codeAny_mono (F.run X.A X.stack s1 H1 ⟨[Value.ref a], []⟩ [Value.ref a] [V.ref a] Q E hr (fun z => J.ok.hd (hcm z)) (fun z => Bool.noConfusion z) J.env0 (by have z := hb s1 [Value.ref a] J.kIn (by rw [List.append_nil]; exact hl); rw [List.append_nil] at z; exact z) r2 q) fun r s' hq => ?_))
  cases r with
  | error e => exact ⟨H1, s1, J, hq⟩
  | ok fl =>
    cases fl with
    | ret u => exact J.after hq
    | next => exact False.elim hq
    | brk => exact False.elim hq
    | cont => exact False.elim hq
end
end L2

namespace HL
open PySem PySem.W
/-! What is seen of the heap that the top has left, by the fragment of all its objects. -/
def frag (h : Heap) : Frag := (List.range h.objs.size).filterMap fun a => (h.get? a).map fun o => (a, o)
theorem frag_go (h : Heap) (a : Addr) (o : Obj) : ∀ l : List Nat, ((l.filterMap fun a => (h.get? a).map fun o => (a, o)) : Frag).lookup a = some o → h.get? a = some o := by
  intro l
  induction l with
  | nil => intro e; cases e
  | cons b l ih =>
    intro e
    cases q : h.get? b with
    | none => rw [List.filterMap_cons, q] at e; exact ih e
    | some x =>
      rw [List.filterMap_cons, q] at e
      dsimp only [Option.map] at e
      rw [List.lookup_cons] at e
      cases z : (a == b) with
      | true => rw [z] at e; cases e; rw [beq_iff_eq.mp z]; exact q
      | false => rw [z] at e; exact ih e
theorem frag_in (h : Heap) : (frag h).In h := fun a o e => frag_go h a o _ e
def nth {α : Type} : List α → Nat → Option α
  | [], _ => none
  | x :: _, 0 => some x
  | _ :: l, n + 1 => nth l n
theorem nth_of {α : Type} {l m : List α} (h : l = m) (i : Nat) : nth l i = nth m i := by rw [h]
theorem all_of {α : Type} {x : α} {f : α → Bool} : ∀ {l : List α} (i : Nat), l.all f = true → nth l i = some x → f x = true
  | y :: l, 0, h, e => by cases e; rw [List.all_cons, Bool.and_eq_true] at h; exact h.1
  | y :: l, i + 1, h, e => by rw [List.all_cons, Bool.and_eq_true] at h; exact all_of i h.2 e
abbrev FV := Str × Str × Arguments × FuncBody × Scope × Addr × List (Str × Addr) × Value × Addr × Bool
def fdOf (K : Frag) (f : Addr) : FuncData := match K.lookup f with
  | some o => (match o.data with | .func fd => fd | _ => default)
  | _ => default
def fv (K : Frag) (f : Addr) : Option FV := match K.lookup f with
  | some o => (match o.data with
    | .func fd => some (fd.name, fd.qualname, fd.params, fd.body, fd.scope, fd.globals, fd.closure, fd.defaults, fd.builtins, codeIn K fd.code fd.qualname)
    | _ => none)
  | _ => none
def fx (x qual : Str) (st : Stmt) (dV : Value) : Option FV := some (x, qual, L2.defArgs st, .stmts (L2.defBody st), L2.defScope st, mainGlobals, [], dV, builtinsNs, true)
theorem fun_of {K : Frag} {f : Addr} {x qual : Str} {st : Stmt} (h : fv K f = fx x qual st .none) (k : keepIn K (.ref f) = true) : L2.Fun K x qual st f (fdOf K f) := by
  unfold fv fx at h
  cases q : K.lookup f with
  | none => rw [q] at h; cases h
  | some o =>
    obtain ⟨oc, od, dt, sl⟩ := o
    rw [q] at h
    cases dt with
    | func fd =>
      obtain ⟨a1, a2, a3, a4, a5, a6, a7, a8, a9, a10, a11, a12, a13, a14, a15⟩ := fd
      simp only [Option.some.injEq, Prod.mk.injEq] at h
      obtain ⟨rfl, rfl, rfl, rfl, rfl, rfl, rfl, rfl, rfl, e⟩ := h
      have z : fdOf K f = fnOf a1 a2 (L2.defArgs st) (L2.defBody st) (L2.defScope st) .none a9 a10 a11 a12 a13 a14 := by unfold fdOf; rw [q]
      rw [z]
      exact L2.fun_mk q e k
    | _ => cases h
def seqOf (K : Frag) (a : Addr) : Option (List Value) := match K.lookup a with
  | some o => (match o.data with | .seq vs _ => some vs.toList | _ => none)
  | _ => none
def iv : Option (Option Value) → Option Int
  | some (some (.int i _)) => some i
  | _ => none
theorem int_of {o : Option (Option Value)} {i : Int} (h : iv o = some i) : ∃ t, o = some (some (.int i t)) := by
  unfold iv at h
  split at h
  · cases h; exact ⟨_, rfl⟩
  · cases h
end HL

namespace HL
open PySem PySem.W L2
/-! What is seen of an exception's class with its own __init__. -/
abbrev XV := Value × List Value × Bool × Bool × Nat × Option (Option Value) × Bool × Option (Option Value)
def xv (K : Frag) (C : Addr) : Option XV := match K.lookup C with
  | some o => (match o.data with
    | .cls cd => some (o.cls, cd.mro, cd.hasDict, cd.hasDel, o.slots.toList.length, o.slots.toList[4]?, nsOkIn K cd.ns, nsIn K cd.ns "__init__")
    | _ => none)
  | none => none
def xx (C fe fI : Addr) : Option XV := some (.type "type", .ref C :: .ref fe :: bmV, true, false, 6, some (some (.builtin "ValueError.__new__")), true, some (some (.ref fI)))
theorem xmk_of {K : Frag} {C fe fI : Addr} (h : xv K C = xx C fe fI) : ∃ nm q N bs sn sub ab col dd k0 k1 k2 k3 k5, K.lookup C = some (excClassObj nm q C N bs (.ref fe :: bmV) true sn sub ab col dd k0 k1 k2 k3 k5 "ValueError.__new__") ∧ nsOkIn K N = true ∧ nsIn K N "__init__" = some (some (.ref fI)) := by
  unfold xv xx at h
  cases e : K.lookup C with
  | none => rw [e] at h; cases h
  | some o =>
    obtain ⟨oc, od, dt, ⟨sl⟩⟩ := o
    rw [e] at h
    cases dt with
    | cls cd =>
      obtain ⟨a1, a2, a3, a4, a5, a6, a7, a8, a9, a10, a11⟩ := cd
      simp only [Option.some.injEq, Prod.mk.injEq] at h
      obtain ⟨rfl, rfl, rfl, rfl, h5, h6, h7, h8⟩ := h
      match sl, h5, h6 with
      | [k0, k1, k2, k3, k4, k5], _, h6 =>
        obtain rfl : k4 = some (.builtin "ValueError.__new__") := Option.some.inj h6
        exact ⟨_, _, _, _, _, _, _, _, _, _, _, _, _, _, rfl, h7, h8⟩
    | _ => cases h
def fcB (K : Frag) (fe : Addr) (x : Str) (n : String) : Bool := match findCls K (.ref fe) (.type "type") x with
  | some (.val (.builtin m)) => m == n
  | _ => false
theorem fc_of {K : Frag} {fe : Addr} {x : Str} {n : String} (h : fcB K fe x n = true) : findCls K (.ref fe) (.type "type") x = some (.val (.builtin n)) := by
  unfold fcB at h
  split at h
  · rename_i m e
    rw [e, beq_iff_eq.mp h]
  · cases h
end HL

set_option maxRecDepth 1000000
set_option maxHeartbeats 0
theorem k06.law_of (h : PySem.Challenge.rw_formkin_k06_whole_kept_rows_in_pieces.row.wellSaid = true → PySem.Challenge.rw_formkin_k06_whole_kept_rows_in_pieces.row.Holds) : PySem.Challenge.rw_formkin_k06_whole_kept_rows_in_pieces.Holds := by
  o_law
  exact h (by assumption)

set_option maxRecDepth 1000000
set_option maxHeartbeats 0
namespace K6L
open PySem PySem.W HL L2
def topOf (p : Program) (i : Nat) : Stmt := p.main.body.getD i (.Pass ⟨0, 0, 0, 0⟩)
abbrev top (i : Nat) : Stmt := topOf PySem.Challenge.pw_formkin_k06_whole_kept_rows_in_pieces i
abbrev keep : List Nat := [1, 2, 3, 4, 5, 6, 7, 8, 9, 10, 11, 13, 14, 16, 17, 18, 19, 20, 21, 22, 23, 24, 25, 27, 28, 29, 30, 32, 33, 34, 35, 36, 37, 38, 39, 40, 41, 42, 43, 44, 45]
def obsA (K : Frag) : List (Option (Option Value)) := [nsIn K mainGlobals "len",
  nsIn K mainGlobals "range",
  nsIn K mainGlobals "isinstance",
  nsIn K mainGlobals "all",
  nsIn K mainGlobals "int",
  nsIn K mainGlobals "bool",
  nsIn K mainGlobals "list",
  nsIn K mainGlobals "tuple",
  nsIn K mainGlobals "ValueError",
  nsIn K mainGlobals "is_whole",
  nsIn K mainGlobals "is_among",
  nsIn K mainGlobals "is_row",
  nsIn K mainGlobals "need_row",
  nsIn K mainGlobals "number_at",
  nsIn K mainGlobals "is_number_over",
  nsIn K mainGlobals "check",
  nsIn K mainGlobals "is_checked",
  nsIn K mainGlobals "_law_cell_at",
  nsIn K mainGlobals "_law_mixed",
  nsIn K mainGlobals "_law_word",
  nsIn K mainGlobals "_law_at",
  nsIn K mainGlobals "_law_number_row",
  nsIn K mainGlobals "_law_check",
  nsIn K mainGlobals "_law_frame",
  nsIn K mainGlobals "_law_wire",
  nsIn K mainGlobals "_law_next",
  nsIn K mainGlobals "_law_due",
  nsIn K mainGlobals "_law_told",
  nsIn K mainGlobals "_law_piece",
  nsIn K mainGlobals "_law_asked",
  nsIn K mainGlobals "law",
  nsIn K mainGlobals "FormError",
  nsIn K mainGlobals "BadNumber",
  nsIn K mainGlobals "BadRow",
  nsIn K mainGlobals "BadCheck",
  nsIn K mainGlobals "NoKey",
  nsIn K mainGlobals "BadVersion",
  nsIn K mainGlobals "BadBook",
  nsIn K mainGlobals "BadValue",
  nsIn K mainGlobals "BadText",
  nsIn K mainGlobals "BadWire",
  nsIn K mainGlobals "NotKin",
  nsIn K mainGlobals "Frames",
  findIn K (.ref 295) "__init__",
  findIn K (.ref 295) "take",
  findIn K (.ref 295) "end",
  findIn K (.ref 295) "need_right",
  findIn K (.ref 295) "look_at_length",
  findIn K (.ref 295) "finish",
  findIn K (.ref 295) "refuse",
  findIn K (.ref 295) "held",
  findIn K (.ref 295) "start",
  findIn K (.ref 295) "behind",
  findIn K (.ref 295) "size",
  findIn K (.ref 295) "place",
  findIn K (.ref 295) "why",
  findIn K (.ref 295) "__setattr__",
  findIn K (.ref 295) "__class__",
  specialIn K (.builtin "object.__class__") "__get__",
  findIn K (.ref 49) "__getattribute__",
  findIn K (.ref 49) "__getattr__",
  findIn K (.ref 49) "__class__",
  findIn K (.ref 161) "__getattribute__",
  findIn K (.ref 161) "__getattr__",
  findIn K (.ref 161) "__class__",
  findIn K (.ref 61) "__getattribute__",
  findIn K (.ref 61) "__getattr__",
  findIn K (.ref 61) "__class__",
  findIn K (.ref 161) "__setattr__",
  findIn K (.ref 161) "__init__",
  specialIn K (.ref 24) "__getattribute__",
  findIn K (.ref 161) "place",
  findIn K (.ref 161) "why"]
def expA : List (Option (Option Value)) := [some none,
  some none,
  some none,
  some none,
  some none,
  some none,
  some none,
  some none,
  some none,
  some (some (.ref 189)),
  some (some (.ref 196)),
  some (some (.ref 201)),
  some (some (.ref 208)),
  some (some (.ref 215)),
  some (some (.ref 222)),
  some (some (.ref 229)),
  some (some (.ref 236)),
  some (some (.ref 306)),
  some (some (.ref 313)),
  some (some (.ref 318)),
  some (some (.ref 325)),
  some (some (.ref 332)),
  some (some (.ref 339)),
  some (some (.ref 346)),
  some (some (.ref 351)),
  some (some (.ref 358)),
  some (some (.ref 365)),
  some (some (.ref 372)),
  some (some (.ref 379)),
  some (some (.ref 384)),
  some (some (.ref 389)),
  some (some (.ref 24)),
  some (some (.ref 37)),
  some (some (.ref 49)),
  some (some (.ref 61)),
  some (some (.ref 73)),
  some (some (.ref 85)),
  some (some (.ref 104)),
  some (some (.ref 123)),
  some (some (.ref 142)),
  some (some (.ref 161)),
  some (some (.ref 180)),
  some (some (.ref 295)),
  some (some (.ref 250)),
  some (some (.ref 257)),
  some (some (.ref 264)),
  some (some (.ref 271)),
  some (some (.ref 278)),
  some (some (.ref 285)),
  some (some (.ref 292)),
  some none,
  some none,
  some none,
  some none,
  some none,
  some none,
  some (some (.builtin "object.__setattr__")),
  some (some (.builtin "object.__class__")),
  some (some (.builtin "getset_descriptor.__get__")),
  some (some (.builtin "BaseException.__getattribute__")),
  some none,
  some (some (.builtin "object.__class__")),
  some (some (.builtin "BaseException.__getattribute__")),
  some none,
  some (some (.builtin "object.__class__")),
  some (some (.builtin "BaseException.__getattribute__")),
  some none,
  some (some (.builtin "object.__class__")),
  some (some (.builtin "object.__setattr__")),
  some (some (.ref 158)),
  some (some (.builtin "type.__getattribute__")),
  some none,
  some none]
def obsB (K : Frag) : List Bool := [plainGet K 295 Str.empty,
  hasDictIn K 295,
  plainOver K 295,
  makesIn K 295,
  keepIn K (.ref 295),
  keepIn K (.ref 158),
  isFn K (.ref 158),
  keepIn K (.ref 189),
  keepIn K (.ref 196),
  keepIn K (.ref 201),
  keepIn K (.ref 208),
  keepIn K (.ref 215),
  keepIn K (.ref 222),
  keepIn K (.ref 229),
  keepIn K (.ref 236),
  keepIn K (.ref 250),
  isFn K (.ref 250),
  keepIn K (.ref 257),
  isFn K (.ref 257),
  keepIn K (.ref 264),
  isFn K (.ref 264),
  keepIn K (.ref 271),
  isFn K (.ref 271),
  keepIn K (.ref 278),
  isFn K (.ref 278),
  keepIn K (.ref 285),
  isFn K (.ref 285),
  keepIn K (.ref 292),
  isFn K (.ref 292),
  keepIn K (.ref 306),
  keepIn K (.ref 313),
  keepIn K (.ref 318),
  keepIn K (.ref 325),
  keepIn K (.ref 332),
  keepIn K (.ref 339),
  keepIn K (.ref 346),
  keepIn K (.ref 351),
  keepIn K (.ref 358),
  keepIn K (.ref 365),
  keepIn K (.ref 372),
  keepIn K (.ref 379),
  keepIn K (.ref 384),
  keepIn K (.ref 389),
  excIn K 49 bmV "ValueError.__new__",
  excIn K 61 bmV "ValueError.__new__",
  hasDictIn K 49,
  hasDictIn K 161,
  hasDictIn K 61,
  keepIn K (.ref 161),
  excIn K 24 bmV "ValueError.__new__",
  readsIn K 24 (.type "type"),
  HL.fcB K 24 "__init__" "ValueError.__init__"]
def obsC (K : Frag) : List (Option Bool) := [mroIn K 295 (.type "object"),
  takesIn K (.builtin "object.__class__"),
  kitOne K (.type "NoneType") (.type "int"),
  kitOne K (.type "NoneType") (.type "bool"),
  kitOne K (.type "NoneType") (.type "list"),
  kitOne K (.type "NoneType") (.type "tuple"),
  kitOne K (.type "bool") (.type "int"),
  kitOne K (.type "bool") (.type "list"),
  kitOne K (.type "bool") (.type "tuple"),
  kitOne K (.type "int") (.type "bool"),
  kitOne K (.type "int") (.type "list"),
  kitOne K (.type "int") (.type "tuple"),
  kitOne K (.type "str") (.type "int"),
  kitOne K (.type "str") (.type "bool"),
  kitOne K (.type "str") (.type "list"),
  kitOne K (.type "str") (.type "tuple"),
  kitOne K (.type "tuple") (.type "int"),
  kitOne K (.type "tuple") (.type "bool"),
  kitOne K (.type "tuple") (.type "list"),
  kitOne K (.type "list") (.type "int"),
  kitOne K (.type "list") (.type "bool"),
  kitOne K (.type "list") (.type "tuple"),
  kitOne K (.type "dict") (.type "int"),
  kitOne K (.type "dict") (.type "bool"),
  kitOne K (.type "dict") (.type "list"),
  kitOne K (.type "dict") (.type "tuple"),
  kitOne K (.ref 49) (.ref 37),
  kitOne K (.ref 49) (.ref 49),
  kitOne K (.ref 49) (.ref 104),
  kitOne K (.ref 49) (.ref 123),
  kitOne K (.ref 49) (.ref 142),
  kitOne K (.ref 49) (.ref 161),
  kitOne K (.ref 49) (.ref 61),
  kitOne K (.ref 49) (.ref 180),
  kitOne K (.ref 49) (.ref 73),
  kitOne K (.ref 49) (.ref 85),
  kitOne K (.ref 161) (.ref 37),
  kitOne K (.ref 161) (.ref 49),
  kitOne K (.ref 161) (.ref 104),
  kitOne K (.ref 161) (.ref 123),
  kitOne K (.ref 161) (.ref 142),
  kitOne K (.ref 161) (.ref 161),
  kitOne K (.ref 161) (.ref 61),
  kitOne K (.ref 161) (.ref 180),
  kitOne K (.ref 161) (.ref 73),
  kitOne K (.ref 161) (.ref 85),
  kitOne K (.ref 61) (.ref 37),
  kitOne K (.ref 61) (.ref 49),
  kitOne K (.ref 61) (.ref 104),
  kitOne K (.ref 61) (.ref 123),
  kitOne K (.ref 61) (.ref 142),
  kitOne K (.ref 61) (.ref 161),
  kitOne K (.ref 61) (.ref 61),
  kitOne K (.ref 61) (.ref 180),
  kitOne K (.ref 61) (.ref 73),
  kitOne K (.ref 61) (.ref 85),
  kitOne K (.ref 49) (.type "ValueError"),
  kitOne K (.ref 161) (.type "ValueError"),
  kitOne K (.ref 61) (.type "ValueError"),
  exmOne K (.ref 49) (.ref 24),
  exmOne K (.ref 161) (.ref 24),
  exmOne K (.ref 61) (.ref 24),
  exmOne K (.ref 161) (.ref 161),
  mroIn K 49 (.type "object"),
  mroIn K 49 (.type "BaseException"),
  mroIn K 161 (.type "object"),
  mroIn K 161 (.type "BaseException"),
  mroIn K 61 (.type "object"),
  mroIn K 61 (.type "BaseException"),
  mroIn K 24 (.type "ValueError")]
def expC : List (Option Bool) := [some true,
  some true,
  some false,
  some false,
  some false,
  some false,
  some true,
  some false,
  some false,
  some false,
  some false,
  some false,
  some false,
  some false,
  some false,
  some false,
  some false,
  some false,
  some false,
  some false,
  some false,
  some false,
  some false,
  some false,
  some false,
  some false,
  some false,
  some true,
  some false,
  some false,
  some false,
  some false,
  some false,
  some false,
  some false,
  some false,
  some false,
  some false,
  some false,
  some false,
  some false,
  some true,
  some false,
  some false,
  some false,
  some false,
  some false,
  some false,
  some false,
  some false,
  some false,
  some false,
  some true,
  some false,
  some false,
  some false,
  some true,
  some true,
  some true,
  some true,
  some true,
  some true,
  some true,
  some true,
  some true,
  some true,
  some true,
  some true,
  some true,
  some true]
def obsD (K : Frag) : List (Option FV) := [fv K 158,
  fv K 189,
  fv K 196,
  fv K 201,
  fv K 208,
  fv K 215,
  fv K 222,
  fv K 229,
  fv K 236,
  fv K 250,
  fv K 257,
  fv K 264,
  fv K 271,
  fv K 278,
  fv K 285,
  fv K 292,
  fv K 306,
  fv K 313,
  fv K 318,
  fv K 325,
  fv K 332,
  fv K 339,
  fv K 346,
  fv K 351,
  fv K 358,
  fv K 365,
  fv K 372,
  fv K 379,
  fv K 384,
  fv K 389]
def expD (p : Program) : List (Option FV) := [fx "__init__" "BadWire.__init__" (inClass (topOf p 10) 0) .none,
  fx "is_whole" "is_whole" (topOf p 13) .none,
  fx "is_among" "is_among" (topOf p 14) .none,
  fx "is_row" "is_row" (topOf p 21) .none,
  fx "need_row" "need_row" (topOf p 22) .none,
  fx "number_at" "number_at" (topOf p 23) .none,
  fx "is_number_over" "is_number_over" (topOf p 24) .none,
  fx "check" "check" (topOf p 25) .none,
  fx "is_checked" "is_checked" (topOf p 29) .none,
  fx "__init__" "Frames.__init__" (inClass (topOf p 30) 0) .none,
  fx "take" "Frames.take" (inClass (topOf p 30) 1) .none,
  fx "end" "Frames.end" (inClass (topOf p 30) 2) .none,
  fx "need_right" "Frames.need_right" (inClass (topOf p 30) 3) .none,
  fx "look_at_length" "Frames.look_at_length" (inClass (topOf p 30) 4) .none,
  fx "finish" "Frames.finish" (inClass (topOf p 30) 5) .none,
  fx "refuse" "Frames.refuse" (inClass (topOf p 30) 6) .none,
  fx "_law_cell_at" "_law_cell_at" (topOf p 32) .none,
  fx "_law_mixed" "_law_mixed" (topOf p 33) .none,
  fx "_law_word" "_law_word" (topOf p 34) .none,
  fx "_law_at" "_law_at" (topOf p 35) .none,
  fx "_law_number_row" "_law_number_row" (topOf p 36) .none,
  fx "_law_check" "_law_check" (topOf p 37) .none,
  fx "_law_frame" "_law_frame" (topOf p 38) .none,
  fx "_law_wire" "_law_wire" (topOf p 39) .none,
  fx "_law_next" "_law_next" (topOf p 40) .none,
  fx "_law_due" "_law_due" (topOf p 41) .none,
  fx "_law_told" "_law_told" (topOf p 42) .none,
  fx "_law_piece" "_law_piece" (topOf p 43) .none,
  fx "_law_asked" "_law_asked" (topOf p 44) .none,
  fx "law" "law" (topOf p 45) .none]
def obsI (K : Frag) : List (Option Int) := [iv (nsIn K mainGlobals "LAST_PLACE"),
  iv (nsIn K mainGlobals "LAST_MOST"),
  iv (nsIn K mainGlobals "CHECK_START"),
  iv (nsIn K mainGlobals "CHECK_END"),
  iv (nsIn K mainGlobals "CHECK_LAID_OVER"),
  iv (nsIn K mainGlobals "MOST_BYTES"),
  iv (nsIn K mainGlobals "CHECK_BYTES")]
def expI : List (Option Int) := [some 36,
  some 15,
  some 65535,
  some 65536,
  some 4129,
  some 30000,
  some 2]
def obsX (K : Frag) : List (Option HL.XV) := [HL.xv K 161]
def expX : List (Option HL.XV) := [HL.xx 161 24 158]
abbrev Seen := List (Option (Option Value)) × Bool × List (Option Bool) × List (Option FV) × List (Option Int) × List (Option HL.XV)
def obs (s : Shared) : Seen := let K := frag s.heap; (obsA K, (obsB K).all id, obsC K, obsD K, obsI K, obsX K)
def exp (p : Program) (_ : World) : Seen := (expA, true, expC, expD p, expI, expX)

end K6L

set_option maxRecDepth 1000000
set_option maxHeartbeats 0
namespace K6L
open PySem PySem.W HL L2
abbrev s_BadWire_init : Stmt := inClass (top 10) 0
abbrev s_is_whole : Stmt := top 13
abbrev s_is_among : Stmt := top 14
abbrev s_is_row : Stmt := top 21
abbrev s_need_row : Stmt := top 22
abbrev s_number_at : Stmt := top 23
abbrev s_is_number_over : Stmt := top 24
abbrev s_check : Stmt := top 25
abbrev s_is_checked : Stmt := top 29
abbrev s_Frames_init : Stmt := inClass (top 30) 0
abbrev s_Frames_take : Stmt := inClass (top 30) 1
abbrev s_Frames_end : Stmt := inClass (top 30) 2
abbrev s_Frames_need_right : Stmt := inClass (top 30) 3
abbrev s_Frames_look_at_length : Stmt := inClass (top 30) 4
abbrev s_Frames_finish : Stmt := inClass (top 30) 5
abbrev s_Frames_refuse : Stmt := inClass (top 30) 6
abbrev s_cell_at : Stmt := top 32
abbrev s_mixed : Stmt := top 33
abbrev s_word : Stmt := top 34
abbrev s_at : Stmt := top 35
abbrev s_number_row : Stmt := top 36
abbrev s_l_check : Stmt := top 37
abbrev s_frame : Stmt := top 38
abbrev s_wire : Stmt := top 39
abbrev s_next : Stmt := top 40
abbrev s_due : Stmt := top 41
abbrev s_told : Stmt := top 42
abbrev s_piece : Stmt := top 43
abbrev s_asked : Stmt := top 44
abbrev s_law : Stmt := top 45
/-- what the top has left -/
structure Tx (K : Frag) (mg : Str → Option Value) : Prop where
  A : obsA K = expA
  B : (obsB K).all id = true
  C : obsC K = expC
  D : obsD K = expD PySem.Challenge.pw_formkin_k06_whole_kept_rows_in_pieces
  I : obsI K = expI
  X : obsX K = expX
  g : ∀ x v, nsIn K mainGlobals x = some v → mg x = v
section
variable {K : Frag} {mg : Str → Option Value} (T : Tx K mg)
include T
theorem Tx.z_len : nsIn K mainGlobals "len" = some none := Option.some.inj (nth_of T.A 0)
theorem Tx.z_range : nsIn K mainGlobals "range" = some none := Option.some.inj (nth_of T.A 1)
theorem Tx.z_isinstance : nsIn K mainGlobals "isinstance" = some none := Option.some.inj (nth_of T.A 2)
theorem Tx.z_all : nsIn K mainGlobals "all" = some none := Option.some.inj (nth_of T.A 3)
theorem Tx.z_int : nsIn K mainGlobals "int" = some none := Option.some.inj (nth_of T.A 4)
theorem Tx.z_bool : nsIn K mainGlobals "bool" = some none := Option.some.inj (nth_of T.A 5)
theorem Tx.z_list : nsIn K mainGlobals "list" = some none := Option.some.inj (nth_of T.A 6)
theorem Tx.z_tuple : nsIn K mainGlobals "tuple" = some none := Option.some.inj (nth_of T.A 7)
theorem Tx.z_ValueError : nsIn K mainGlobals "ValueError" = some none := Option.some.inj (nth_of T.A 8)
theorem Tx.a_is_whole : nsIn K mainGlobals "is_whole" = some (some (.ref 189)) := Option.some.inj (nth_of T.A 9)
theorem Tx.a_is_among : nsIn K mainGlobals "is_among" = some (some (.ref 196)) := Option.some.inj (nth_of T.A 10)
theorem Tx.a_is_row : nsIn K mainGlobals "is_row" = some (some (.ref 201)) := Option.some.inj (nth_of T.A 11)
theorem Tx.a_need_row : nsIn K mainGlobals "need_row" = some (some (.ref 208)) := Option.some.inj (nth_of T.A 12)
theorem Tx.a_number_at : nsIn K mainGlobals "number_at" = some (some (.ref 215)) := Option.some.inj (nth_of T.A 13)
theorem Tx.a_is_number_over : nsIn K mainGlobals "is_number_over" = some (some (.ref 222)) := Option.some.inj (nth_of T.A 14)
theorem Tx.a_check : nsIn K mainGlobals "check" = some (some (.ref 229)) := Option.some.inj (nth_of T.A 15)
theorem Tx.a_is_checked : nsIn K mainGlobals "is_checked" = some (some (.ref 236)) := Option.some.inj (nth_of T.A 16)
theorem Tx.a_cell_at : nsIn K mainGlobals "_law_cell_at" = some (some (.ref 306)) := Option.some.inj (nth_of T.A 17)
theorem Tx.a_mixed : nsIn K mainGlobals "_law_mixed" = some (some (.ref 313)) := Option.some.inj (nth_of T.A 18)
theorem Tx.a_word : nsIn K mainGlobals "_law_word" = some (some (.ref 318)) := Option.some.inj (nth_of T.A 19)
theorem Tx.a_at : nsIn K mainGlobals "_law_at" = some (some (.ref 325)) := Option.some.inj (nth_of T.A 20)
theorem Tx.a_number_row : nsIn K mainGlobals "_law_number_row" = some (some (.ref 332)) := Option.some.inj (nth_of T.A 21)
theorem Tx.a_l_check : nsIn K mainGlobals "_law_check" = some (some (.ref 339)) := Option.some.inj (nth_of T.A 22)
theorem Tx.a_frame : nsIn K mainGlobals "_law_frame" = some (some (.ref 346)) := Option.some.inj (nth_of T.A 23)
theorem Tx.a_wire : nsIn K mainGlobals "_law_wire" = some (some (.ref 351)) := Option.some.inj (nth_of T.A 24)
theorem Tx.a_next : nsIn K mainGlobals "_law_next" = some (some (.ref 358)) := Option.some.inj (nth_of T.A 25)
theorem Tx.a_due : nsIn K mainGlobals "_law_due" = some (some (.ref 365)) := Option.some.inj (nth_of T.A 26)
theorem Tx.a_told : nsIn K mainGlobals "_law_told" = some (some (.ref 372)) := Option.some.inj (nth_of T.A 27)
theorem Tx.a_piece : nsIn K mainGlobals "_law_piece" = some (some (.ref 379)) := Option.some.inj (nth_of T.A 28)
theorem Tx.a_asked : nsIn K mainGlobals "_law_asked" = some (some (.ref 384)) := Option.some.inj (nth_of T.A 29)
theorem Tx.a_law : nsIn K mainGlobals "law" = some (some (.ref 389)) := Option.some.inj (nth_of T.A 30)
theorem Tx.n_FormError : nsIn K mainGlobals "FormError" = some (some (.ref 24)) := Option.some.inj (nth_of T.A 31)
theorem Tx.n_BadNumber : nsIn K mainGlobals "BadNumber" = some (some (.ref 37)) := Option.some.inj (nth_of T.A 32)
theorem Tx.n_BadRow : nsIn K mainGlobals "BadRow" = some (some (.ref 49)) := Option.some.inj (nth_of T.A 33)
theorem Tx.n_BadCheck : nsIn K mainGlobals "BadCheck" = some (some (.ref 61)) := Option.some.inj (nth_of T.A 34)
theorem Tx.n_NoKey : nsIn K mainGlobals "NoKey" = some (some (.ref 73)) := Option.some.inj (nth_of T.A 35)
theorem Tx.n_BadVersion : nsIn K mainGlobals "BadVersion" = some (some (.ref 85)) := Option.some.inj (nth_of T.A 36)
theorem Tx.n_BadBook : nsIn K mainGlobals "BadBook" = some (some (.ref 104)) := Option.some.inj (nth_of T.A 37)
theorem Tx.n_BadValue : nsIn K mainGlobals "BadValue" = some (some (.ref 123)) := Option.some.inj (nth_of T.A 38)
theorem Tx.n_BadText : nsIn K mainGlobals "BadText" = some (some (.ref 142)) := Option.some.inj (nth_of T.A 39)
theorem Tx.n_BadWire : nsIn K mainGlobals "BadWire" = some (some (.ref 161)) := Option.some.inj (nth_of T.A 40)
theorem Tx.n_NotKin : nsIn K mainGlobals "NotKin" = some (some (.ref 180)) := Option.some.inj (nth_of T.A 41)
theorem Tx.n_Frames : nsIn K mainGlobals "Frames" = some (some (.ref 295)) := Option.some.inj (nth_of T.A 42)
theorem Tx.f_Frames_init : findIn K (.ref 295) "__init__" = some (some (.ref 250)) := Option.some.inj (nth_of T.A 43)
theorem Tx.f_Frames_take : findIn K (.ref 295) "take" = some (some (.ref 257)) := Option.some.inj (nth_of T.A 44)
theorem Tx.f_Frames_end : findIn K (.ref 295) "end" = some (some (.ref 264)) := Option.some.inj (nth_of T.A 45)
theorem Tx.f_Frames_need_right : findIn K (.ref 295) "need_right" = some (some (.ref 271)) := Option.some.inj (nth_of T.A 46)
theorem Tx.f_Frames_look_at_length : findIn K (.ref 295) "look_at_length" = some (some (.ref 278)) := Option.some.inj (nth_of T.A 47)
theorem Tx.f_Frames_finish : findIn K (.ref 295) "finish" = some (some (.ref 285)) := Option.some.inj (nth_of T.A 48)
theorem Tx.f_Frames_refuse : findIn K (.ref 295) "refuse" = some (some (.ref 292)) := Option.some.inj (nth_of T.A 49)
theorem Tx.o_Frames_held : findIn K (.ref 295) "held" = some none := Option.some.inj (nth_of T.A 50)
theorem Tx.o_Frames_start : findIn K (.ref 295) "start" = some none := Option.some.inj (nth_of T.A 51)
theorem Tx.o_Frames_behind : findIn K (.ref 295) "behind" = some none := Option.some.inj (nth_of T.A 52)
theorem Tx.o_Frames_size : findIn K (.ref 295) "size" = some none := Option.some.inj (nth_of T.A 53)
theorem Tx.o_Frames_place : findIn K (.ref 295) "place" = some none := Option.some.inj (nth_of T.A 54)
theorem Tx.o_Frames_why : findIn K (.ref 295) "why" = some none := Option.some.inj (nth_of T.A 55)
theorem Tx.s_Frames : findIn K (.ref 295) "__setattr__" = some (some (.builtin "object.__setattr__")) := Option.some.inj (nth_of T.A 56)
theorem Tx.g_Frames : plainGet K 295 Str.empty = true := all_of (f := id) 0 T.B rfl
theorem Tx.h_Frames : hasDictIn K 295 = true := all_of (f := id) 1 T.B rfl
theorem Tx.p_Frames : plainOver K 295 = true := all_of (f := id) 2 T.B rfl
theorem Tx.og : specialIn K (.builtin "object.__class__") "__get__" = some (some (.builtin "getset_descriptor.__get__")) := Option.some.inj (nth_of T.A 58)
theorem Tx.ot : takesIn K (.builtin "object.__class__") = some true := Option.some.inj (nth_of T.C 1)
theorem Tx.mk_Frames : makesIn K 295 = true := all_of (f := id) 3 T.B rfl
theorem Tx.mp_Frames : keepIn K (.ref 295) = true := all_of (f := id) 4 T.B rfl
theorem Tx.k_BadWire_init : keepIn K (.ref 158) = true := all_of (f := id) 5 T.B rfl
theorem Tx.i_BadWire_init : isFn K (.ref 158) = true := all_of (f := id) 6 T.B rfl
theorem Tx.k_is_whole : keepIn K (.ref 189) = true := all_of (f := id) 7 T.B rfl
theorem Tx.k_is_among : keepIn K (.ref 196) = true := all_of (f := id) 8 T.B rfl
theorem Tx.k_is_row : keepIn K (.ref 201) = true := all_of (f := id) 9 T.B rfl
theorem Tx.k_need_row : keepIn K (.ref 208) = true := all_of (f := id) 10 T.B rfl
theorem Tx.k_number_at : keepIn K (.ref 215) = true := all_of (f := id) 11 T.B rfl
theorem Tx.k_is_number_over : keepIn K (.ref 222) = true := all_of (f := id) 12 T.B rfl
theorem Tx.k_check : keepIn K (.ref 229) = true := all_of (f := id) 13 T.B rfl
theorem Tx.k_is_checked : keepIn K (.ref 236) = true := all_of (f := id) 14 T.B rfl
theorem Tx.k_Frames_init : keepIn K (.ref 250) = true := all_of (f := id) 15 T.B rfl
theorem Tx.i_Frames_init : isFn K (.ref 250) = true := all_of (f := id) 16 T.B rfl
theorem Tx.k_Frames_take : keepIn K (.ref 257) = true := all_of (f := id) 17 T.B rfl
theorem Tx.i_Frames_take : isFn K (.ref 257) = true := all_of (f := id) 18 T.B rfl
theorem Tx.k_Frames_end : keepIn K (.ref 264) = true := all_of (f := id) 19 T.B rfl
theorem Tx.i_Frames_end : isFn K (.ref 264) = true := all_of (f := id) 20 T.B rfl
theorem Tx.k_Frames_need_right : keepIn K (.ref 271) = true := all_of (f := id) 21 T.B rfl
theorem Tx.i_Frames_need_right : isFn K (.ref 271) = true := all_of (f := id) 22 T.B rfl
theorem Tx.k_Frames_look_at_length : keepIn K (.ref 278) = true := all_of (f := id) 23 T.B rfl
theorem Tx.i_Frames_look_at_length : isFn K (.ref 278) = true := all_of (f := id) 24 T.B rfl
theorem Tx.k_Frames_finish : keepIn K (.ref 285) = true := all_of (f := id) 25 T.B rfl
theorem Tx.i_Frames_finish : isFn K (.ref 285) = true := all_of (f := id) 26 T.B rfl
theorem Tx.k_Frames_refuse : keepIn K (.ref 292) = true := all_of (f := id) 27 T.B rfl
theorem Tx.i_Frames_refuse : isFn K (.ref 292) = true := all_of (f := id) 28 T.B rfl
theorem Tx.k_cell_at : keepIn K (.ref 306) = true := all_of (f := id) 29 T.B rfl
theorem Tx.k_mixed : keepIn K (.ref 313) = true := all_of (f := id) 30 T.B rfl
theorem Tx.k_word : keepIn K (.ref 318) = true := all_of (f := id) 31 T.B rfl
theorem Tx.k_at : keepIn K (.ref 325) = true := all_of (f := id) 32 T.B rfl
theorem Tx.k_number_row : keepIn K (.ref 332) = true := all_of (f := id) 33 T.B rfl
theorem Tx.k_l_check : keepIn K (.ref 339) = true := all_of (f := id) 34 T.B rfl
theorem Tx.k_frame : keepIn K (.ref 346) = true := all_of (f := id) 35 T.B rfl
theorem Tx.k_wire : keepIn K (.ref 351) = true := all_of (f := id) 36 T.B rfl
theorem Tx.k_next : keepIn K (.ref 358) = true := all_of (f := id) 37 T.B rfl
theorem Tx.k_due : keepIn K (.ref 365) = true := all_of (f := id) 38 T.B rfl
theorem Tx.k_told : keepIn K (.ref 372) = true := all_of (f := id) 39 T.B rfl
theorem Tx.k_piece : keepIn K (.ref 379) = true := all_of (f := id) 40 T.B rfl
theorem Tx.k_asked : keepIn K (.ref 384) = true := all_of (f := id) 41 T.B rfl
theorem Tx.k_law : keepIn K (.ref 389) = true := all_of (f := id) 42 T.B rfl
theorem Tx.q_NoneType_int : kitOne K (.type "NoneType") (.type "int") = some false := Option.some.inj (nth_of T.C 2)
theorem Tx.q_NoneType_bool : kitOne K (.type "NoneType") (.type "bool") = some false := Option.some.inj (nth_of T.C 3)
theorem Tx.q_NoneType_list : kitOne K (.type "NoneType") (.type "list") = some false := Option.some.inj (nth_of T.C 4)
theorem Tx.q_NoneType_tuple : kitOne K (.type "NoneType") (.type "tuple") = some false := Option.some.inj (nth_of T.C 5)
theorem Tx.q_bool_int : kitOne K (.type "bool") (.type "int") = some true := Option.some.inj (nth_of T.C 6)
theorem Tx.q_bool_list : kitOne K (.type "bool") (.type "list") = some false := Option.some.inj (nth_of T.C 7)
theorem Tx.q_bool_tuple : kitOne K (.type "bool") (.type "tuple") = some false := Option.some.inj (nth_of T.C 8)
theorem Tx.q_int_bool : kitOne K (.type "int") (.type "bool") = some false := Option.some.inj (nth_of T.C 9)
theorem Tx.q_int_list : kitOne K (.type "int") (.type "list") = some false := Option.some.inj (nth_of T.C 10)
theorem Tx.q_int_tuple : kitOne K (.type "int") (.type "tuple") = some false := Option.some.inj (nth_of T.C 11)
theorem Tx.q_str_int : kitOne K (.type "str") (.type "int") = some false := Option.some.inj (nth_of T.C 12)
theorem Tx.q_str_bool : kitOne K (.type "str") (.type "bool") = some false := Option.some.inj (nth_of T.C 13)
theorem Tx.q_str_list : kitOne K (.type "str") (.type "list") = some false := Option.some.inj (nth_of T.C 14)
theorem Tx.q_str_tuple : kitOne K (.type "str") (.type "tuple") = some false := Option.some.inj (nth_of T.C 15)
theorem Tx.q_tuple_int : kitOne K (.type "tuple") (.type "int") = some false := Option.some.inj (nth_of T.C 16)
theorem Tx.q_tuple_bool : kitOne K (.type "tuple") (.type "bool") = some false := Option.some.inj (nth_of T.C 17)
theorem Tx.q_tuple_list : kitOne K (.type "tuple") (.type "list") = some false := Option.some.inj (nth_of T.C 18)
theorem Tx.q_list_int : kitOne K (.type "list") (.type "int") = some false := Option.some.inj (nth_of T.C 19)
theorem Tx.q_list_bool : kitOne K (.type "list") (.type "bool") = some false := Option.some.inj (nth_of T.C 20)
theorem Tx.q_list_tuple : kitOne K (.type "list") (.type "tuple") = some false := Option.some.inj (nth_of T.C 21)
theorem Tx.q_dict_int : kitOne K (.type "dict") (.type "int") = some false := Option.some.inj (nth_of T.C 22)
theorem Tx.q_dict_bool : kitOne K (.type "dict") (.type "bool") = some false := Option.some.inj (nth_of T.C 23)
theorem Tx.q_dict_list : kitOne K (.type "dict") (.type "list") = some false := Option.some.inj (nth_of T.C 24)
theorem Tx.q_dict_tuple : kitOne K (.type "dict") (.type "tuple") = some false := Option.some.inj (nth_of T.C 25)
theorem Tx.q_BadRow_BadNumber : kitOne K (.ref 49) (.ref 37) = some false := Option.some.inj (nth_of T.C 26)
theorem Tx.q_BadRow_BadRow : kitOne K (.ref 49) (.ref 49) = some true := Option.some.inj (nth_of T.C 27)
theorem Tx.q_BadRow_BadBook : kitOne K (.ref 49) (.ref 104) = some false := Option.some.inj (nth_of T.C 28)
theorem Tx.q_BadRow_BadValue : kitOne K (.ref 49) (.ref 123) = some false := Option.some.inj (nth_of T.C 29)
theorem Tx.q_BadRow_BadText : kitOne K (.ref 49) (.ref 142) = some false := Option.some.inj (nth_of T.C 30)
theorem Tx.q_BadRow_BadWire : kitOne K (.ref 49) (.ref 161) = some false := Option.some.inj (nth_of T.C 31)
theorem Tx.q_BadRow_BadCheck : kitOne K (.ref 49) (.ref 61) = some false := Option.some.inj (nth_of T.C 32)
theorem Tx.q_BadRow_NotKin : kitOne K (.ref 49) (.ref 180) = some false := Option.some.inj (nth_of T.C 33)
theorem Tx.q_BadRow_NoKey : kitOne K (.ref 49) (.ref 73) = some false := Option.some.inj (nth_of T.C 34)
theorem Tx.q_BadRow_BadVersion : kitOne K (.ref 49) (.ref 85) = some false := Option.some.inj (nth_of T.C 35)
theorem Tx.q_BadWire_BadNumber : kitOne K (.ref 161) (.ref 37) = some false := Option.some.inj (nth_of T.C 36)
theorem Tx.q_BadWire_BadRow : kitOne K (.ref 161) (.ref 49) = some false := Option.some.inj (nth_of T.C 37)
theorem Tx.q_BadWire_BadBook : kitOne K (.ref 161) (.ref 104) = some false := Option.some.inj (nth_of T.C 38)
theorem Tx.q_BadWire_BadValue : kitOne K (.ref 161) (.ref 123) = some false := Option.some.inj (nth_of T.C 39)
theorem Tx.q_BadWire_BadText : kitOne K (.ref 161) (.ref 142) = some false := Option.some.inj (nth_of T.C 40)
theorem Tx.q_BadWire_BadWire : kitOne K (.ref 161) (.ref 161) = some true := Option.some.inj (nth_of T.C 41)
theorem Tx.q_BadWire_BadCheck : kitOne K (.ref 161) (.ref 61) = some false := Option.some.inj (nth_of T.C 42)
theorem Tx.q_BadWire_NotKin : kitOne K (.ref 161) (.ref 180) = some false := Option.some.inj (nth_of T.C 43)
theorem Tx.q_BadWire_NoKey : kitOne K (.ref 161) (.ref 73) = some false := Option.some.inj (nth_of T.C 44)
theorem Tx.q_BadWire_BadVersion : kitOne K (.ref 161) (.ref 85) = some false := Option.some.inj (nth_of T.C 45)
theorem Tx.q_BadCheck_BadNumber : kitOne K (.ref 61) (.ref 37) = some false := Option.some.inj (nth_of T.C 46)
theorem Tx.q_BadCheck_BadRow : kitOne K (.ref 61) (.ref 49) = some false := Option.some.inj (nth_of T.C 47)
theorem Tx.q_BadCheck_BadBook : kitOne K (.ref 61) (.ref 104) = some false := Option.some.inj (nth_of T.C 48)
theorem Tx.q_BadCheck_BadValue : kitOne K (.ref 61) (.ref 123) = some false := Option.some.inj (nth_of T.C 49)
theorem Tx.q_BadCheck_BadText : kitOne K (.ref 61) (.ref 142) = some false := Option.some.inj (nth_of T.C 50)
theorem Tx.q_BadCheck_BadWire : kitOne K (.ref 61) (.ref 161) = some false := Option.some.inj (nth_of T.C 51)
theorem Tx.q_BadCheck_BadCheck : kitOne K (.ref 61) (.ref 61) = some true := Option.some.inj (nth_of T.C 52)
theorem Tx.q_BadCheck_NotKin : kitOne K (.ref 61) (.ref 180) = some false := Option.some.inj (nth_of T.C 53)
theorem Tx.q_BadCheck_NoKey : kitOne K (.ref 61) (.ref 73) = some false := Option.some.inj (nth_of T.C 54)
theorem Tx.q_BadCheck_BadVersion : kitOne K (.ref 61) (.ref 85) = some false := Option.some.inj (nth_of T.C 55)
theorem Tx.q_BadRow_v : kitOne K (.ref 49) (.type "ValueError") = some true := Option.some.inj (nth_of T.C 56)
theorem Tx.q_BadWire_v : kitOne K (.ref 161) (.type "ValueError") = some true := Option.some.inj (nth_of T.C 57)
theorem Tx.q_BadCheck_v : kitOne K (.ref 61) (.type "ValueError") = some true := Option.some.inj (nth_of T.C 58)
theorem Tx.x_BadRow : exmOne K (.ref 49) (.ref 24) = some true := Option.some.inj (nth_of T.C 59)
theorem Tx.x_BadWire : exmOne K (.ref 161) (.ref 24) = some true := Option.some.inj (nth_of T.C 60)
theorem Tx.x_BadCheck : exmOne K (.ref 61) (.ref 24) = some true := Option.some.inj (nth_of T.C 61)
theorem Tx.x_BadWire2 : exmOne K (.ref 161) (.ref 161) = some true := Option.some.inj (nth_of T.C 62)
theorem Tx.e_BadRow : excIn K 49 bmV "ValueError.__new__" = true := all_of (f := id) 43 T.B rfl
theorem Tx.e_BadCheck : excIn K 61 bmV "ValueError.__new__" = true := all_of (f := id) 44 T.B rfl
theorem Tx.h1_BadRow : hasDictIn K 49 = true := all_of (f := id) 45 T.B rfl
theorem Tx.h2_BadRow : findIn K (.ref 49) "__getattribute__" = some (some (.builtin "BaseException.__getattribute__")) := Option.some.inj (nth_of T.A 59)
theorem Tx.h3_BadRow : findIn K (.ref 49) "__getattr__" = some none := Option.some.inj (nth_of T.A 60)
theorem Tx.h4_BadRow : findIn K (.ref 49) "__class__" = some (some (.builtin "object.__class__")) := Option.some.inj (nth_of T.A 61)
theorem Tx.h7_BadRow : mroIn K 49 (.type "object") = some true := Option.some.inj (nth_of T.C 63)
theorem Tx.h8_BadRow : mroIn K 49 (.type "BaseException") = some true := Option.some.inj (nth_of T.C 64)
theorem Tx.h1_BadWire : hasDictIn K 161 = true := all_of (f := id) 46 T.B rfl
theorem Tx.h2_BadWire : findIn K (.ref 161) "__getattribute__" = some (some (.builtin "BaseException.__getattribute__")) := Option.some.inj (nth_of T.A 62)
theorem Tx.h3_BadWire : findIn K (.ref 161) "__getattr__" = some none := Option.some.inj (nth_of T.A 63)
theorem Tx.h4_BadWire : findIn K (.ref 161) "__class__" = some (some (.builtin "object.__class__")) := Option.some.inj (nth_of T.A 64)
theorem Tx.h7_BadWire : mroIn K 161 (.type "object") = some true := Option.some.inj (nth_of T.C 65)
theorem Tx.h8_BadWire : mroIn K 161 (.type "BaseException") = some true := Option.some.inj (nth_of T.C 66)
theorem Tx.h1_BadCheck : hasDictIn K 61 = true := all_of (f := id) 47 T.B rfl
theorem Tx.h2_BadCheck : findIn K (.ref 61) "__getattribute__" = some (some (.builtin "BaseException.__getattribute__")) := Option.some.inj (nth_of T.A 65)
theorem Tx.h3_BadCheck : findIn K (.ref 61) "__getattr__" = some none := Option.some.inj (nth_of T.A 66)
theorem Tx.h4_BadCheck : findIn K (.ref 61) "__class__" = some (some (.builtin "object.__class__")) := Option.some.inj (nth_of T.A 67)
theorem Tx.h7_BadCheck : mroIn K 61 (.type "object") = some true := Option.some.inj (nth_of T.C 67)
theorem Tx.h8_BadCheck : mroIn K 61 (.type "BaseException") = some true := Option.some.inj (nth_of T.C 68)
theorem Tx.g_BadWire : HL.xv K 161 = HL.xx 161 24 158 := Option.some.inj (nth_of T.X 0)
theorem Tx.g4_BadWire : keepIn K (.ref 161) = true := all_of (f := id) 48 T.B rfl
theorem Tx.g5_BadWire : findIn K (.ref 161) "__setattr__" = some (some (.builtin "object.__setattr__")) := Option.some.inj (nth_of T.A 68)
theorem Tx.m_BadWire_init : findIn K (.ref 161) "__init__" = some (some (.ref 158)) := Option.some.inj (nth_of T.A 69)
theorem Tx.w1 : excIn K 24 bmV "ValueError.__new__" = true := all_of (f := id) 49 T.B rfl
theorem Tx.w2 : mroIn K 24 (.type "ValueError") = some true := Option.some.inj (nth_of T.C 69)
theorem Tx.w3 : specialIn K (.ref 24) "__getattribute__" = some (some (.builtin "type.__getattribute__")) := Option.some.inj (nth_of T.A 70)
theorem Tx.w4 : readsIn K 24 (.type "type") = true := all_of (f := id) 50 T.B rfl
theorem Tx.w5 : HL.fcB K 24 "__init__" "ValueError.__init__" = true := all_of (f := id) 51 T.B rfl
theorem Tx.n_place : findIn K (.ref 161) "place" = some none := Option.some.inj (nth_of T.A 71)
theorem Tx.n_why : findIn K (.ref 161) "why" = some none := Option.some.inj (nth_of T.A 72)
theorem Tx.d_BadWire_init : L2.Fun K "__init__" "BadWire.__init__" s_BadWire_init 158 (HL.fdOf K 158) := fun_of (Option.some.inj (nth_of T.D 0)) T.k_BadWire_init
theorem Tx.d_is_whole : L2.Fun K "is_whole" "is_whole" s_is_whole 189 (HL.fdOf K 189) := fun_of (Option.some.inj (nth_of T.D 1)) T.k_is_whole
theorem Tx.d_is_among : L2.Fun K "is_among" "is_among" s_is_among 196 (HL.fdOf K 196) := fun_of (Option.some.inj (nth_of T.D 2)) T.k_is_among
theorem Tx.d_is_row : L2.Fun K "is_row" "is_row" s_is_row 201 (HL.fdOf K 201) := fun_of (Option.some.inj (nth_of T.D 3)) T.k_is_row
theorem Tx.d_need_row : L2.Fun K "need_row" "need_row" s_need_row 208 (HL.fdOf K 208) := fun_of (Option.some.inj (nth_of T.D 4)) T.k_need_row
theorem Tx.d_number_at : L2.Fun K "number_at" "number_at" s_number_at 215 (HL.fdOf K 215) := fun_of (Option.some.inj (nth_of T.D 5)) T.k_number_at
theorem Tx.d_is_number_over : L2.Fun K "is_number_over" "is_number_over" s_is_number_over 222 (HL.fdOf K 222) := fun_of (Option.some.inj (nth_of T.D 6)) T.k_is_number_over
theorem Tx.d_check : L2.Fun K "check" "check" s_check 229 (HL.fdOf K 229) := fun_of (Option.some.inj (nth_of T.D 7)) T.k_check
theorem Tx.d_is_checked : L2.Fun K "is_checked" "is_checked" s_is_checked 236 (HL.fdOf K 236) := fun_of (Option.some.inj (nth_of T.D 8)) T.k_is_checked
theorem Tx.d_Frames_init : L2.Fun K "__init__" "Frames.__init__" s_Frames_init 250 (HL.fdOf K 250) := fun_of (Option.some.inj (nth_of T.D 9)) T.k_Frames_init
theorem Tx.d_Frames_take : L2.Fun K "take" "Frames.take" s_Frames_take 257 (HL.fdOf K 257) := fun_of (Option.some.inj (nth_of T.D 10)) T.k_Frames_take
theorem Tx.d_Frames_end : L2.Fun K "end" "Frames.end" s_Frames_end 264 (HL.fdOf K 264) := fun_of (Option.some.inj (nth_of T.D 11)) T.k_Frames_end
theorem Tx.d_Frames_need_right : L2.Fun K "need_right" "Frames.need_right" s_Frames_need_right 271 (HL.fdOf K 271) := fun_of (Option.some.inj (nth_of T.D 12)) T.k_Frames_need_right
theorem Tx.d_Frames_look_at_length : L2.Fun K "look_at_length" "Frames.look_at_length" s_Frames_look_at_length 278 (HL.fdOf K 278) := fun_of (Option.some.inj (nth_of T.D 13)) T.k_Frames_look_at_length
theorem Tx.d_Frames_finish : L2.Fun K "finish" "Frames.finish" s_Frames_finish 285 (HL.fdOf K 285) := fun_of (Option.some.inj (nth_of T.D 14)) T.k_Frames_finish
theorem Tx.d_Frames_refuse : L2.Fun K "refuse" "Frames.refuse" s_Frames_refuse 292 (HL.fdOf K 292) := fun_of (Option.some.inj (nth_of T.D 15)) T.k_Frames_refuse
theorem Tx.d_cell_at : L2.Fun K "_law_cell_at" "_law_cell_at" s_cell_at 306 (HL.fdOf K 306) := fun_of (Option.some.inj (nth_of T.D 16)) T.k_cell_at
theorem Tx.d_mixed : L2.Fun K "_law_mixed" "_law_mixed" s_mixed 313 (HL.fdOf K 313) := fun_of (Option.some.inj (nth_of T.D 17)) T.k_mixed
theorem Tx.d_word : L2.Fun K "_law_word" "_law_word" s_word 318 (HL.fdOf K 318) := fun_of (Option.some.inj (nth_of T.D 18)) T.k_word
theorem Tx.d_at : L2.Fun K "_law_at" "_law_at" s_at 325 (HL.fdOf K 325) := fun_of (Option.some.inj (nth_of T.D 19)) T.k_at
theorem Tx.d_number_row : L2.Fun K "_law_number_row" "_law_number_row" s_number_row 332 (HL.fdOf K 332) := fun_of (Option.some.inj (nth_of T.D 20)) T.k_number_row
theorem Tx.d_l_check : L2.Fun K "_law_check" "_law_check" s_l_check 339 (HL.fdOf K 339) := fun_of (Option.some.inj (nth_of T.D 21)) T.k_l_check
theorem Tx.d_frame : L2.Fun K "_law_frame" "_law_frame" s_frame 346 (HL.fdOf K 346) := fun_of (Option.some.inj (nth_of T.D 22)) T.k_frame
theorem Tx.d_wire : L2.Fun K "_law_wire" "_law_wire" s_wire 351 (HL.fdOf K 351) := fun_of (Option.some.inj (nth_of T.D 23)) T.k_wire
theorem Tx.d_next : L2.Fun K "_law_next" "_law_next" s_next 358 (HL.fdOf K 358) := fun_of (Option.some.inj (nth_of T.D 24)) T.k_next
theorem Tx.d_due : L2.Fun K "_law_due" "_law_due" s_due 365 (HL.fdOf K 365) := fun_of (Option.some.inj (nth_of T.D 25)) T.k_due
theorem Tx.d_told : L2.Fun K "_law_told" "_law_told" s_told 372 (HL.fdOf K 372) := fun_of (Option.some.inj (nth_of T.D 26)) T.k_told
theorem Tx.d_piece : L2.Fun K "_law_piece" "_law_piece" s_piece 379 (HL.fdOf K 379) := fun_of (Option.some.inj (nth_of T.D 27)) T.k_piece
theorem Tx.d_asked : L2.Fun K "_law_asked" "_law_asked" s_asked 384 (HL.fdOf K 384) := fun_of (Option.some.inj (nth_of T.D 28)) T.k_asked
theorem Tx.d_law : L2.Fun K "law" "law" s_law 389 (HL.fdOf K 389) := fun_of (Option.some.inj (nth_of T.D 29)) T.k_law
theorem Tx.v_LAST_PLACE : ∃ t, nsIn K mainGlobals "LAST_PLACE" = some (some (.int 36 t)) := int_of (Option.some.inj (nth_of T.I 0))
theorem Tx.v_LAST_MOST : ∃ t, nsIn K mainGlobals "LAST_MOST" = some (some (.int 15 t)) := int_of (Option.some.inj (nth_of T.I 1))
theorem Tx.v_CHECK_START : ∃ t, nsIn K mainGlobals "CHECK_START" = some (some (.int 65535 t)) := int_of (Option.some.inj (nth_of T.I 2))
theorem Tx.v_CHECK_END : ∃ t, nsIn K mainGlobals "CHECK_END" = some (some (.int 65536 t)) := int_of (Option.some.inj (nth_of T.I 3))
theorem Tx.v_CHECK_LAID_OVER : ∃ t, nsIn K mainGlobals "CHECK_LAID_OVER" = some (some (.int 4129 t)) := int_of (Option.some.inj (nth_of T.I 4))
theorem Tx.v_MOST_BYTES : ∃ t, nsIn K mainGlobals "MOST_BYTES" = some (some (.int 30000 t)) := int_of (Option.some.inj (nth_of T.I 5))
theorem Tx.v_CHECK_BYTES : ∃ t, nsIn K mainGlobals "CHECK_BYTES" = some (some (.int 2 t)) := int_of (Option.some.inj (nth_of T.I 6))
theorem Tx.b_BadWire_init : Binds K (HL.fdOf K 158) ["self", "place", "why"] [] := T.d_BadWire_init.binds (ps := ["self", "place", "why"]) fun _ _ _ _ _ _ us hl => match us, hl with | [_, _, _], _ => rfl
theorem Tx.m_is_whole : mg "is_whole" = some (.ref 189) := T.g _ _ T.a_is_whole
theorem Tx.b_is_whole : Binds K (HL.fdOf K 189) ["thing"] [] := T.d_is_whole.binds (ps := ["thing"]) fun _ _ _ _ _ _ us hl => match us, hl with | [_], _ => rfl
theorem Tx.m_is_among : mg "is_among" = some (.ref 196) := T.g _ _ T.a_is_among
theorem Tx.b_is_among : Binds K (HL.fdOf K 196) ["thing", "least", "most"] [] := T.d_is_among.binds (ps := ["thing", "least", "most"]) fun _ _ _ _ _ _ us hl => match us, hl with | [_, _, _], _ => rfl
theorem Tx.m_is_row : mg "is_row" = some (.ref 201) := T.g _ _ T.a_is_row
theorem Tx.b_is_row : Binds K (HL.fdOf K 201) ["row"] [] := T.d_is_row.binds (ps := ["row"]) fun _ _ _ _ _ _ us hl => match us, hl with | [_], _ => rfl
theorem Tx.m_need_row : mg "need_row" = some (.ref 208) := T.g _ _ T.a_need_row
theorem Tx.b_need_row : Binds K (HL.fdOf K 208) ["row"] [] := T.d_need_row.binds (ps := ["row"]) fun _ _ _ _ _ _ us hl => match us, hl with | [_], _ => rfl
theorem Tx.m_number_at : mg "number_at" = some (.ref 215) := T.g _ _ T.a_number_at
theorem Tx.b_number_at : Binds K (HL.fdOf K 215) ["row", "at", "end"] [] := T.d_number_at.binds (ps := ["row", "at", "end"]) fun _ _ _ _ _ _ us hl => match us, hl with | [_, _, _], _ => rfl
theorem Tx.m_is_number_over : mg "is_number_over" = some (.ref 222) := T.g _ _ T.a_is_number_over
theorem Tx.b_is_number_over : Binds K (HL.fdOf K 222) ["held"] [] := T.d_is_number_over.binds (ps := ["held"]) fun _ _ _ _ _ _ us hl => match us, hl with | [_], _ => rfl
theorem Tx.m_check : mg "check" = some (.ref 229) := T.g _ _ T.a_check
theorem Tx.b_check : Binds K (HL.fdOf K 229) ["row"] [] := T.d_check.binds (ps := ["row"]) fun _ _ _ _ _ _ us hl => match us, hl with | [_], _ => rfl
theorem Tx.m_is_checked : mg "is_checked" = some (.ref 236) := T.g _ _ T.a_is_checked
theorem Tx.b_is_checked : Binds K (HL.fdOf K 236) ["kept"] [] := T.d_is_checked.binds (ps := ["kept"]) fun _ _ _ _ _ _ us hl => match us, hl with | [_], _ => rfl
theorem Tx.b_Frames_init : Binds K (HL.fdOf K 250) ["self"] [] := T.d_Frames_init.binds (ps := ["self"]) fun _ _ _ _ _ _ us hl => match us, hl with | [_], _ => rfl
theorem Tx.b_Frames_take : Binds K (HL.fdOf K 257) ["self", "row"] [] := T.d_Frames_take.binds (ps := ["self", "row"]) fun _ _ _ _ _ _ us hl => match us, hl with | [_, _], _ => rfl
theorem Tx.b_Frames_end : Binds K (HL.fdOf K 264) ["self"] [] := T.d_Frames_end.binds (ps := ["self"]) fun _ _ _ _ _ _ us hl => match us, hl with | [_], _ => rfl
theorem Tx.b_Frames_need_right : Binds K (HL.fdOf K 271) ["self"] [] := T.d_Frames_need_right.binds (ps := ["self"]) fun _ _ _ _ _ _ us hl => match us, hl with | [_], _ => rfl
theorem Tx.b_Frames_look_at_length : Binds K (HL.fdOf K 278) ["self"] [] := T.d_Frames_look_at_length.binds (ps := ["self"]) fun _ _ _ _ _ _ us hl => match us, hl with | [_], _ => rfl
theorem Tx.b_Frames_finish : Binds K (HL.fdOf K 285) ["self", "rows"] [] := T.d_Frames_finish.binds (ps := ["self", "rows"]) fun _ _ _ _ _ _ us hl => match us, hl with | [_, _], _ => rfl
theorem Tx.b_Frames_refuse : Binds K (HL.fdOf K 292) ["self", "place", "why"] [] := T.d_Frames_refuse.binds (ps := ["self", "place", "why"]) fun _ _ _ _ _ _ us hl => match us, hl with | [_, _, _], _ => rfl
theorem Tx.m_cell_at : mg "_law_cell_at" = some (.ref 306) := T.g _ _ T.a_cell_at
theorem Tx.b_cell_at : Binds K (HL.fdOf K 306) ["_law_script", "_law_k"] [] := T.d_cell_at.binds (ps := ["_law_script", "_law_k"]) fun _ _ _ _ _ _ us hl => match us, hl with | [_, _], _ => rfl
theorem Tx.m_mixed : mg "_law_mixed" = some (.ref 313) := T.g _ _ T.a_mixed
theorem Tx.b_mixed : Binds K (HL.fdOf K 313) ["_law_cell", "_law_k"] [] := T.d_mixed.binds (ps := ["_law_cell", "_law_k"]) fun _ _ _ _ _ _ us hl => match us, hl with | [_, _], _ => rfl
theorem Tx.m_word : mg "_law_word" = some (.ref 318) := T.g _ _ T.a_word
theorem Tx.b_word : Binds K (HL.fdOf K 318) ["_law_e"] [] := T.d_word.binds (ps := ["_law_e"]) fun _ _ _ _ _ _ us hl => match us, hl with | [_], _ => rfl
theorem Tx.m_at : mg "_law_at" = some (.ref 325) := T.g _ _ T.a_at
theorem Tx.b_at : Binds K (HL.fdOf K 325) ["_law_e"] [] := T.d_at.binds (ps := ["_law_e"]) fun _ _ _ _ _ _ us hl => match us, hl with | [_], _ => rfl
theorem Tx.m_number_row : mg "_law_number_row" = some (.ref 332) := T.g _ _ T.a_number_row
theorem Tx.b_number_row : Binds K (HL.fdOf K 332) ["_law_number"] [] := T.d_number_row.binds (ps := ["_law_number"]) fun _ _ _ _ _ _ us hl => match us, hl with | [_], _ => rfl
theorem Tx.m_l_check : mg "_law_check" = some (.ref 339) := T.g _ _ T.a_l_check
theorem Tx.b_l_check : Binds K (HL.fdOf K 339) ["_law_row"] [] := T.d_l_check.binds (ps := ["_law_row"]) fun _ _ _ _ _ _ us hl => match us, hl with | [_], _ => rfl
theorem Tx.m_frame : mg "_law_frame" = some (.ref 346) := T.g _ _ T.a_frame
theorem Tx.b_frame : Binds K (HL.fdOf K 346) ["_law_row"] [] := T.d_frame.binds (ps := ["_law_row"]) fun _ _ _ _ _ _ us hl => match us, hl with | [_], _ => rfl
theorem Tx.m_wire : mg "_law_wire" = some (.ref 351) := T.g _ _ T.a_wire
theorem Tx.b_wire : Binds K (HL.fdOf K 351) ["_law_script"] [] := T.d_wire.binds (ps := ["_law_script"]) fun _ _ _ _ _ _ us hl => match us, hl with | [_], _ => rfl
theorem Tx.m_next : mg "_law_next" = some (.ref 358) := T.g _ _ T.a_next
theorem Tx.b_next : Binds K (HL.fdOf K 358) ["_law_wire_here", "_law_at_here"] [] := T.d_next.binds (ps := ["_law_wire_here", "_law_at_here"]) fun _ _ _ _ _ _ us hl => match us, hl with | [_, _], _ => rfl
theorem Tx.m_due : mg "_law_due" = some (.ref 365) := T.g _ _ T.a_due
theorem Tx.b_due : Binds K (HL.fdOf K 365) ["_law_wire_here"] [] := T.d_due.binds (ps := ["_law_wire_here"]) fun _ _ _ _ _ _ us hl => match us, hl with | [_], _ => rfl
theorem Tx.m_told : mg "_law_told" = some (.ref 372) := T.g _ _ T.a_told
theorem Tx.b_told : Binds K (HL.fdOf K 372) ["_law_box", "_law_piece_here"] [] := T.d_told.binds (ps := ["_law_box", "_law_piece_here"]) fun _ _ _ _ _ _ us hl => match us, hl with | [_, _], _ => rfl
theorem Tx.m_piece : mg "_law_piece" = some (.ref 379) := T.g _ _ T.a_piece
theorem Tx.b_piece : Binds K (HL.fdOf K 379) ["_law_wire_here", "_law_state", "_law_cell"] [] := T.d_piece.binds (ps := ["_law_wire_here", "_law_state", "_law_cell"]) fun _ _ _ _ _ _ us hl => match us, hl with | [_, _, _], _ => rfl
theorem Tx.m_asked : mg "_law_asked" = some (.ref 384) := T.g _ _ T.a_asked
theorem Tx.b_asked : Binds K (HL.fdOf K 384) ["_law_box", "_law_wire_here", "_law_due_here", "_law_state", "_law_cell", "_law_held"] [] := T.d_asked.binds (ps := ["_law_box", "_law_wire_here", "_law_due_here", "_law_state", "_law_cell", "_law_held"]) fun _ _ _ _ _ _ us hl => match us, hl with | [_, _, _, _, _, _], _ => rfl
theorem Tx.m_law : mg "law" = some (.ref 389) := T.g _ _ T.a_law
theorem Tx.b_law : Binds K (HL.fdOf K 389) ["_law_script"] [] := T.d_law.binds (ps := ["_law_script"]) fun _ _ _ _ _ _ us hl => match us, hl with | [_], _ => rfl
theorem Tx.y_len : mg "len" = none := T.g _ _ T.z_len
theorem Tx.y_range : mg "range" = none := T.g _ _ T.z_range
theorem Tx.y_isinstance : mg "isinstance" = none := T.g _ _ T.z_isinstance
theorem Tx.y_all : mg "all" = none := T.g _ _ T.z_all
theorem Tx.y_int : mg "int" = none := T.g _ _ T.z_int
theorem Tx.y_bool : mg "bool" = none := T.g _ _ T.z_bool
theorem Tx.y_list : mg "list" = none := T.g _ _ T.z_list
theorem Tx.y_tuple : mg "tuple" = none := T.g _ _ T.z_tuple
theorem Tx.y_ValueError : mg "ValueError" = none := T.g _ _ T.z_ValueError
theorem Tx.u_LAST_PLACE : ∃ t, mg "LAST_PLACE" = some (.int 36 t) := let ⟨t, e⟩ := T.v_LAST_PLACE; ⟨t, T.g _ _ e⟩
theorem Tx.u_LAST_MOST : ∃ t, mg "LAST_MOST" = some (.int 15 t) := let ⟨t, e⟩ := T.v_LAST_MOST; ⟨t, T.g _ _ e⟩
theorem Tx.u_CHECK_START : ∃ t, mg "CHECK_START" = some (.int 65535 t) := let ⟨t, e⟩ := T.v_CHECK_START; ⟨t, T.g _ _ e⟩
theorem Tx.u_CHECK_END : ∃ t, mg "CHECK_END" = some (.int 65536 t) := let ⟨t, e⟩ := T.v_CHECK_END; ⟨t, T.g _ _ e⟩
theorem Tx.u_CHECK_LAID_OVER : ∃ t, mg "CHECK_LAID_OVER" = some (.int 4129 t) := let ⟨t, e⟩ := T.v_CHECK_LAID_OVER; ⟨t, T.g _ _ e⟩
theorem Tx.u_MOST_BYTES : ∃ t, mg "MOST_BYTES" = some (.int 30000 t) := let ⟨t, e⟩ := T.v_MOST_BYTES; ⟨t, T.g _ _ e⟩
theorem Tx.u_CHECK_BYTES : ∃ t, mg "CHECK_BYTES" = some (.int 2 t) := let ⟨t, e⟩ := T.v_CHECK_BYTES; ⟨t, T.g _ _ e⟩
theorem Tx.mc_FormError : mg "FormError" = some (.ref 24) := T.g _ _ T.n_FormError
theorem Tx.mc_BadNumber : mg "BadNumber" = some (.ref 37) := T.g _ _ T.n_BadNumber
theorem Tx.mc_BadRow : mg "BadRow" = some (.ref 49) := T.g _ _ T.n_BadRow
theorem Tx.mc_BadCheck : mg "BadCheck" = some (.ref 61) := T.g _ _ T.n_BadCheck
theorem Tx.mc_NoKey : mg "NoKey" = some (.ref 73) := T.g _ _ T.n_NoKey
theorem Tx.mc_BadVersion : mg "BadVersion" = some (.ref 85) := T.g _ _ T.n_BadVersion
theorem Tx.mc_BadBook : mg "BadBook" = some (.ref 104) := T.g _ _ T.n_BadBook
theorem Tx.mc_BadValue : mg "BadValue" = some (.ref 123) := T.g _ _ T.n_BadValue
theorem Tx.mc_BadText : mg "BadText" = some (.ref 142) := T.g _ _ T.n_BadText
theorem Tx.mc_BadWire : mg "BadWire" = some (.ref 161) := T.g _ _ T.n_BadWire
theorem Tx.mc_NotKin : mg "NotKin" = some (.ref 180) := T.g _ _ T.n_NotKin
theorem Tx.mc_Frames : mg "Frames" = some (.ref 295) := T.g _ _ T.n_Frames
theorem Tx.cl_Frames : Cls K 295 := ⟨T.g_Frames, T.h_Frames, T.p_Frames, T.s_Frames⟩
end
end K6L

set_option maxRecDepth 1000000
set_option maxHeartbeats 0
namespace K6L
open PySem PySem.W HL L2
noncomputable abbrev tp : Program := PySem.W.Fast.tw10623090964153022821
abbrev lo : List Str := []
theorem h1 : opening tp = plainProg tp.main.scope.names := by kernel_rfl
theorem h2 (s : Shared) : fenceModules? tp s = some s := by kernel_rfl
theorem hsz (P : Params) : (boot_heap P).isNs mainGlobals = true ∧ (boot_heap P).objs.size = 11 ∧ (boot_heap P).nsMap mainGlobals "__annotations__" = ann6 := ⟨by kernel_rfl, by kernel_rfl, by kernel_rfl⟩
theorem hpre (w : World) (os : OsState) : topGoQ tbQ tp w 11 ann6 12 (S00 w os) (topStub tp) = some ((S0 w os).abs, ⟨denoteQ tbQ (code tp), code tp, pos0, [topFrame pos0]⟩) := by kernel_rfl
theorem hblk (w : World) (s : Shared) : segRunQ tbQ tp w 11 ann6 1 1 s (blockOf (behindTheImports tp) (env tp) (code tp) pos0 [topFrame pos0]) = some (.next, s, code tp, pos0) := by kernel_rfl
theorem hrun (w : World) (os : OsState) : (R tp 60000 w os).map (fun x => (x.1, x.2.2, lk tp (view tp keep) lo obs w x.2.1)) = some (.next, (code tp, ⟨281, 0, 306, 89⟩), (goods (view tp keep) lo, exp tp w)) := by kernel_rfl
theorem left : LeftO PySem.Challenge.pw_formkin_k06_whole_kept_rows_in_pieces (view PySem.Challenge.pw_formkin_k06_whole_kept_rows_in_pieces keep) lo (fun s => xlAt (view PySem.Challenge.pw_formkin_k06_whole_kept_rows_in_pieces keep) [] s && recOk [] s) obs (exp PySem.Challenge.pw_formkin_k06_whole_kept_rows_in_pieces) 60100 := by
  rw [PySem.W.Fast.te10623090964153022821]
  exact left_of (n := 60000) h1 h2 hpre hblk hrun hsz rfl (by decide)
end K6L

set_option maxRecDepth 1000000
set_option maxHeartbeats 0
namespace K6L
open PySem PySem.W HL L2 PyProof.Rows
abbrev pw_ := PySem.Challenge.pw_formkin_k06_whole_kept_rows_in_pieces
abbrev rw_ := PySem.Challenge.rw_formkin_k06_whole_kept_rows_in_pieces
theorem tx_of {K : Frag} {h : Heap} {mg : Str → Option Value} {s : Shared} {w : World} (e : frag s.heap = K) (y : obs s = exp pw_ w) (X : K.In h) (G : h.Ns mainGlobals mg) : Tx K mg := by
  subst e
  refine ⟨congrArg Prod.fst y, congrArg (fun x => x.2.1) y, congrArg (fun x => x.2.2.1) y, congrArg (fun x => x.2.2.2.1) y, congrArg (fun x => x.2.2.2.2.1) y, congrArg (fun x => x.2.2.2.2.2) y, fun x v e => ?_⟩
  cases v with
  | none => exact mg_none_of X G e
  | some v => exact mg_of X G e
theorem walkF {q : Program} {loose : List Str} {XP : (Str → Option Value) → Heap → Prop} {d : DefRec} (hdf : d.params.defaults = []) (hn : d.name = "law") {k : Nat} (hr : Room k callerA) {sp : Frag → Sp}
    (F : ∀ (w : World) (K : Frag) (mg : Str → Option Value) (base : Heap), Tx K mg → K.In base → base.Ns mainGlobals mg → FnOk pw_ w K mg base CX0 k 389 (fdOf K 389) ["_law_script"] (sp K))
    (B : ∀ (K : Frag) (mg : Str → Option Value), Tx K mg → ∀ (s : Shared) (u : Value), BindsTo s (fdOf K 389) ⟨[u], []⟩ [("_law_script", u)])
    (hsp : ∀ (K : Frag) (H : Hp) (a : Addr) (ns : List Int), ns.length ≤ 63 → (∀ i ∈ ns, Builtin.Int.intBits i ≤ 1048576) → Only H → SqL K H a (ns.map V.int) → sp K [.ref a] H (fun v _ => v = .bl true) fun _ _ _ => False) :
    WalkX q loose XP obs (exp pw_) rw_.row.toRowW d [] (fun f vs => PySem.call f vs) := by
  intro w s₀ s₁ mg mb G y a o pm cd doc dV kV ho hd hcd hD hmg hg args vals bs L hpre hlay hrd hwl hlo
  refine walk_ofK (l := rw_) (n := 63) (k := k) (x := "_law_script") (K := fun _ => frag s₀.heap) (CX := CX0) (sp := sp) (YP := fun _ h => (frag s₀.heap).In h) (q := q) (loose := loose) (XP := XP) (d := d) rfl (by decide) hdf hr (fun _ _ Y => Y)
    (fun w' mg fa h KX G hmg => ?_) hsp (fun _ _ _ _ z => z) rfl w s₀ s₁ mg mb G (Frag.In.keeps (frag_in s₀.heap) L.keeps) a o pm cd doc dV kV ho hd hcd hD hmg hg args vals bs hpre hlay hrd hwl hlo
  have T := tx_of rfl y KX G
  have e : mg "law" = some (.ref 389) := mg_of KX G T.a_law
  rw [hn, e] at hmg
  obtain rfl : 389 = fa := by simpa using hmg
  exact ⟨fdOf (frag s₀.heap) 389, B _ _ T, fun base h1 h2 => F w' _ _ base ⟨T.A, T.B, T.C, T.D, T.I, T.X, fun x v e => T.g x v e⟩ h1 h2⟩
def dLaw : DefRec := ⟨"law", defArgs (top 45), defBody (top 45), defScope (top 45), ⟨281, 0, 306, 89⟩⟩
theorem holds {k : Nat} (hr : Room k callerA) {sp : Frag → Sp}
    (F : ∀ (w : World) (K : Frag) (mg : Str → Option Value) (base : Heap), Tx K mg → K.In base → base.Ns mainGlobals mg → FnOk pw_ w K mg base CX0 k 389 (fdOf K 389) ["_law_script"] (sp K))
    (B : ∀ (K : Frag) (mg : Str → Option Value), Tx K mg → ∀ (s : Shared) (u : Value), BindsTo s (fdOf K 389) ⟨[u], []⟩ [("_law_script", u)])
    (hsp : ∀ (K : Frag) (H : Hp) (a : Addr) (ns : List Int), ns.length ≤ 63 → (∀ i ∈ ns, Builtin.Int.intBits i ≤ 1048576) → Only H → SqL K H a (ns.map V.int) → sp K [.ref a] H (fun v _ => v = .bl true) fun _ _ _ => False) : rw_.Holds := by
  refine k06.law_of fun said => ?_
  refine holds_openX (r := rw_.row) (q := view pw_ keep) (loose := lo) (Xt := fun s => xlAt (view pw_ keep) [] s && recOk [] s) (XP := XL (view pw_ keep) []) (Yf := obs) (Ya := exp pw_) (d := dLaw) (kwd := []) (N := 60100) left
    (fun s e => xl_of s (Bool.and_eq_true_iff.mp e).1) XL.keeps (by kernel_rfl) (by kernel_rfl) (by kernel_rfl) (fun s e => recFacts_of (Bool.and_eq_true_iff.mp e).2) (by rfl) said (by decide +kernel) ⟨rfl, rfl, rfl, rfl, rfl, by decide +kernel⟩ ?hw ?hc
  case hw => w_witness2
  case hc => exact walkF rfl rfl hr F B hsp
end K6L

namespace K6
open PySem L2
abbrev top (i : Nat) : Stmt := K6L.top i
theorem bt_len : bootBuiltins "len" = some (.builtin "len") := by decide +kernel
theorem bt_isinstance : bootBuiltins "isinstance" = some (.builtin "isinstance") := by decide +kernel
theorem bt_all : bootBuiltins "all" = some (.builtin "all") := by decide +kernel
theorem bt_int : bootBuiltins "int" = some (.type "int") := by decide +kernel
theorem bt_bool : bootBuiltins "bool" = some (.type "bool") := by decide +kernel
theorem bt_list : bootBuiltins "list" = some (.type "list") := by decide +kernel
theorem bt_tuple : bootBuiltins "tuple" = some (.type "tuple") := by decide +kernel
theorem bt_ValueError : bootBuiltins "ValueError" = some (.type "ValueError") := by decide +kernel
abbrev s_BadWire_init : Stmt := inClass (top 10) 0
theorem sc_BadWire_init : FnScope ["self", "place", "why"] ["self", "place", "why"] (defScope s_BadWire_init) := ⟨rfl, rfl, rfl, by decide +kernel, rfl, by decide +kernel, by decide +kernel⟩
abbrev s_is_whole : Stmt := top 13
theorem sc_is_whole : FnScope ["thing"] ["thing"] (defScope s_is_whole) := ⟨rfl, rfl, rfl, by decide +kernel, rfl, by decide +kernel, by decide +kernel⟩
abbrev s_is_among : Stmt := top 14
theorem sc_is_among : FnScope ["thing", "least", "most"] ["thing", "least", "most"] (defScope s_is_among) := ⟨rfl, rfl, rfl, by decide +kernel, rfl, by decide +kernel, by decide +kernel⟩
abbrev s_is_row : Stmt := top 21
theorem sc_is_row : FnScope ["row"] ["row"] (defScope s_is_row) := ⟨rfl, rfl, rfl, by decide +kernel, rfl, by decide +kernel, by decide +kernel⟩
abbrev s_need_row : Stmt := top 22
theorem sc_need_row : FnScope ["row"] ["row"] (defScope s_need_row) := ⟨rfl, rfl, rfl, by decide +kernel, rfl, by decide +kernel, by decide +kernel⟩
abbrev s_number_at : Stmt := top 23
theorem sc_number_at : FnScope ["row", "at", "end", "number", "scale", "place", "byte"] ["row", "at", "end"] (defScope s_number_at) := ⟨rfl, rfl, rfl, by decide +kernel, rfl, by decide +kernel, by decide +kernel⟩
abbrev s_is_number_over : Stmt := top 24
theorem sc_is_number_over : FnScope ["held"] ["held"] (defScope s_is_number_over) := ⟨rfl, rfl, rfl, by decide +kernel, rfl, by decide +kernel, by decide +kernel⟩
abbrev s_check : Stmt := top 25
theorem sc_check : FnScope ["row", "value", "byte", "step"] ["row"] (defScope s_check) := ⟨rfl, rfl, rfl, by decide +kernel, rfl, by decide +kernel, by decide +kernel⟩
abbrev s_is_checked : Stmt := top 29
theorem sc_is_checked : FnScope ["kept"] ["kept"] (defScope s_is_checked) := ⟨rfl, rfl, rfl, by decide +kernel, rfl, by decide +kernel, by decide +kernel⟩
abbrev s_Frames_init : Stmt := inClass (top 30) 0
theorem sc_Frames_init : FnScope ["self"] ["self"] (defScope s_Frames_init) := ⟨rfl, rfl, rfl, by decide +kernel, rfl, by decide +kernel, by decide +kernel⟩
abbrev s_Frames_take : Stmt := inClass (top 30) 1
theorem sc_Frames_take : FnScope ["self", "row", "rows", "byte"] ["self", "row"] (defScope s_Frames_take) := ⟨rfl, rfl, rfl, by decide +kernel, rfl, by decide +kernel, by decide +kernel⟩
abbrev s_Frames_end : Stmt := inClass (top 30) 2
theorem sc_Frames_end : FnScope ["self"] ["self"] (defScope s_Frames_end) := ⟨rfl, rfl, rfl, by decide +kernel, rfl, by decide +kernel, by decide +kernel⟩
abbrev s_Frames_need_right : Stmt := inClass (top 30) 3
theorem sc_Frames_need_right : FnScope ["self"] ["self"] (defScope s_Frames_need_right) := ⟨rfl, rfl, rfl, by decide +kernel, rfl, by decide +kernel, by decide +kernel⟩
abbrev s_Frames_look_at_length : Stmt := inClass (top 30) 4
theorem sc_Frames_look_at_length : FnScope ["self", "came", "many", "error"] ["self"] (defScope s_Frames_look_at_length) := ⟨rfl, rfl, rfl, by decide +kernel, rfl, by decide +kernel, by decide +kernel⟩
abbrev s_Frames_finish : Stmt := inClass (top 30) 5
theorem sc_Frames_finish : FnScope ["self", "rows"] ["self", "rows"] (defScope s_Frames_finish) := ⟨rfl, rfl, rfl, by decide +kernel, rfl, by decide +kernel, by decide +kernel⟩
abbrev s_Frames_refuse : Stmt := inClass (top 30) 6
theorem sc_Frames_refuse : FnScope ["self", "place", "why"] ["self", "place", "why"] (defScope s_Frames_refuse) := ⟨rfl, rfl, rfl, by decide +kernel, rfl, by decide +kernel, by decide +kernel⟩
abbrev s_cell_at : Stmt := top 32
theorem sc_cell_at : FnScope ["_law_script", "_law_k"] ["_law_script", "_law_k"] (defScope s_cell_at) := ⟨rfl, rfl, rfl, by decide +kernel, rfl, by decide +kernel, by decide +kernel⟩
abbrev s_mixed : Stmt := top 33
theorem sc_mixed : FnScope ["_law_cell", "_law_k"] ["_law_cell", "_law_k"] (defScope s_mixed) := ⟨rfl, rfl, rfl, by decide +kernel, rfl, by decide +kernel, by decide +kernel⟩
abbrev s_word : Stmt := top 34
theorem sc_word : FnScope ["_law_e", "_law_some", "_law_found"] ["_law_e"] (defScope s_word) := ⟨rfl, rfl, rfl, by decide +kernel, rfl, by decide +kernel, by decide +kernel⟩
abbrev s_at : Stmt := top 35
theorem sc_at : FnScope ["_law_e"] ["_law_e"] (defScope s_at) := ⟨rfl, rfl, rfl, by decide +kernel, rfl, by decide +kernel, by decide +kernel⟩
abbrev s_number_row : Stmt := top 36
theorem sc_number_row : FnScope ["_law_number", "_law_row"] ["_law_number"] (defScope s_number_row) := ⟨rfl, rfl, rfl, by decide +kernel, rfl, by decide +kernel, by decide +kernel⟩
abbrev s_l_check : Stmt := top 37
theorem sc_l_check : FnScope ["_law_row", "_law_found", "_law_byte", "_law_k", "_law_out"] ["_law_row"] (defScope s_l_check) := ⟨rfl, rfl, rfl, by decide +kernel, rfl, by decide +kernel, by decide +kernel⟩
abbrev s_frame : Stmt := top 38
theorem sc_frame : FnScope ["_law_row", "_law_whole", "_law_found"] ["_law_row"] (defScope s_frame) := ⟨rfl, rfl, rfl, by decide +kernel, rfl, by decide +kernel, by decide +kernel⟩
abbrev s_wire : Stmt := top 39
theorem sc_wire : FnScope ["_law_script", "_law_cell", "_law_wire_here", "_law_k", "_law_more", "_law_size", "_law_at_here", "_law_way", "_law_byte"] ["_law_script"] (defScope s_wire) := ⟨rfl, rfl, rfl, by decide +kernel, rfl, by decide +kernel, by decide +kernel⟩
abbrev s_next : Stmt := top 40
theorem sc_next : FnScope ["_law_wire_here", "_law_at_here", "_law_length", "_law_power", "_law_place", "_law_byte", "_law_end", "_law_due_here"] ["_law_wire_here", "_law_at_here"] (defScope s_next) := ⟨rfl, rfl, rfl, by decide +kernel, rfl, by decide +kernel, by decide +kernel⟩
abbrev s_due : Stmt := top 41
theorem sc_due : FnScope ["_law_wire_here", "_law_found", "_law_at_here", "_law_more"] ["_law_wire_here"] (defScope s_due) := ⟨rfl, rfl, rfl, by decide +kernel, rfl, by decide +kernel, by decide +kernel⟩
abbrev s_told : Stmt := top 42
theorem sc_told : FnScope ["_law_box", "_law_piece_here", "_law_e"] ["_law_box", "_law_piece_here"] (defScope s_told) := ⟨rfl, rfl, rfl, by decide +kernel, rfl, by decide +kernel, by decide +kernel⟩
abbrev s_piece : Stmt := top 43
theorem sc_piece : FnScope ["_law_wire_here", "_law_state", "_law_cell", "_law_size", "_law_piece_here"] ["_law_wire_here", "_law_state", "_law_cell"] (defScope s_piece) := ⟨rfl, rfl, rfl, by decide +kernel, rfl, by decide +kernel, by decide +kernel⟩
abbrev s_asked : Stmt := top 44
theorem sc_asked : FnScope ["_law_box", "_law_wire_here", "_law_due_here", "_law_state", "_law_cell", "_law_held", "_law_found", "_law_wrong", "_law_ahead", "_law_known", "_law_piece_here", "_law_told_here", "_law_rows", "_law_is_wrong", "_law_row"] ["_law_box", "_law_wire_here", "_law_due_here", "_law_state", "_law_cell", "_law_held"] (defScope s_asked) := ⟨rfl, rfl, rfl, by decide +kernel, rfl, by decide +kernel, by decide +kernel⟩
abbrev s_law : Stmt := top 45
theorem sc_law : FnScope ["_law_script", "_law_wire_here", "_law_due_here", "_law_boxes", "_law_states", "_law_held", "_law_cell", "_law_k", "_law_at_here", "_law_end", "_law_whole"] ["_law_script"] (defScope s_law) := ⟨rfl, rfl, rfl, by decide +kernel, rfl, by decide +kernel, by decide +kernel⟩
/-- a def of the text, by its name -/
structure Df (K : PySem.W.Frag) (mg : Str → Option Value) (x : Str) (st : Stmt) (ps : List Str) (f : Addr) (fd : FuncData) : Prop where
  F : Fun K x x st f fd
  m : mg x = some (.ref f)
  b : Binds K fd ps []
/-- a method -/
structure Dm (K : PySem.W.Frag) (C : Addr) (x qual : Str) (st : Stmt) (ps : List Str) (f : Addr) (fd : FuncData) : Prop where
  F : Fun K x qual st f fd
  m : PySem.W.findIn K (.ref C) x = some (some (.ref f))
  i : PySem.W.isFn K (.ref f) = true
  b : Binds K fd ps []
/-- where the defs and the classes stand -/
structure Ad where
  f_BadWire_init : Addr
  d_BadWire_init : FuncData
  f_is_whole : Addr
  d_is_whole : FuncData
  f_is_among : Addr
  d_is_among : FuncData
  f_is_row : Addr
  d_is_row : FuncData
  f_need_row : Addr
  d_need_row : FuncData
  f_number_at : Addr
  d_number_at : FuncData
  f_is_number_over : Addr
  d_is_number_over : FuncData
  f_check : Addr
  d_check : FuncData
  f_is_checked : Addr
  d_is_checked : FuncData
  f_Frames_init : Addr
  d_Frames_init : FuncData
  f_Frames_take : Addr
  d_Frames_take : FuncData
  f_Frames_end : Addr
  d_Frames_end : FuncData
  f_Frames_need_right : Addr
  d_Frames_need_right : FuncData
  f_Frames_look_at_length : Addr
  d_Frames_look_at_length : FuncData
  f_Frames_finish : Addr
  d_Frames_finish : FuncData
  f_Frames_refuse : Addr
  d_Frames_refuse : FuncData
  f_cell_at : Addr
  d_cell_at : FuncData
  f_mixed : Addr
  d_mixed : FuncData
  f_word : Addr
  d_word : FuncData
  f_at : Addr
  d_at : FuncData
  f_number_row : Addr
  d_number_row : FuncData
  f_l_check : Addr
  d_l_check : FuncData
  f_frame : Addr
  d_frame : FuncData
  f_wire : Addr
  d_wire : FuncData
  f_next : Addr
  d_next : FuncData
  f_due : Addr
  d_due : FuncData
  f_told : Addr
  d_told : FuncData
  f_piece : Addr
  d_piece : FuncData
  f_asked : Addr
  d_asked : FuncData
  f_law : Addr
  d_law : FuncData
  FormError : Addr
  BadNumber : Addr
  BadRow : Addr
  BadCheck : Addr
  NoKey : Addr
  BadVersion : Addr
  BadBook : Addr
  BadValue : Addr
  BadText : Addr
  BadWire : Addr
  NotKin : Addr
  Frames : Addr
/-- what the top has written -/
structure Tx (K : PySem.W.Frag) (mg : Str → Option Value) (a : Ad) : Prop where
  len : mg "len" = none
  range : mg "range" = none
  isinstance : mg "isinstance" = none
  all : mg "all" = none
  int : mg "int" = none
  bool : mg "bool" = none
  list : mg "list" = none
  tuple : mg "tuple" = none
  ValueError : mg "ValueError" = none
  d_BadWire_init : Dm K a.BadWire "__init__" "BadWire.__init__" s_BadWire_init ["self", "place", "why"] a.f_BadWire_init a.d_BadWire_init
  d_is_whole : Df K mg "is_whole" s_is_whole ["thing"] a.f_is_whole a.d_is_whole
  d_is_among : Df K mg "is_among" s_is_among ["thing", "least", "most"] a.f_is_among a.d_is_among
  d_is_row : Df K mg "is_row" s_is_row ["row"] a.f_is_row a.d_is_row
  d_need_row : Df K mg "need_row" s_need_row ["row"] a.f_need_row a.d_need_row
  d_number_at : Df K mg "number_at" s_number_at ["row", "at", "end"] a.f_number_at a.d_number_at
  d_is_number_over : Df K mg "is_number_over" s_is_number_over ["held"] a.f_is_number_over a.d_is_number_over
  d_check : Df K mg "check" s_check ["row"] a.f_check a.d_check
  d_is_checked : Df K mg "is_checked" s_is_checked ["kept"] a.f_is_checked a.d_is_checked
  d_Frames_init : Dm K a.Frames "__init__" "Frames.__init__" s_Frames_init ["self"] a.f_Frames_init a.d_Frames_init
  d_Frames_take : Dm K a.Frames "take" "Frames.take" s_Frames_take ["self", "row"] a.f_Frames_take a.d_Frames_take
  d_Frames_end : Dm K a.Frames "end" "Frames.end" s_Frames_end ["self"] a.f_Frames_end a.d_Frames_end
  d_Frames_need_right : Dm K a.Frames "need_right" "Frames.need_right" s_Frames_need_right ["self"] a.f_Frames_need_right a.d_Frames_need_right
  d_Frames_look_at_length : Dm K a.Frames "look_at_length" "Frames.look_at_length" s_Frames_look_at_length ["self"] a.f_Frames_look_at_length a.d_Frames_look_at_length
  d_Frames_finish : Dm K a.Frames "finish" "Frames.finish" s_Frames_finish ["self", "rows"] a.f_Frames_finish a.d_Frames_finish
  d_Frames_refuse : Dm K a.Frames "refuse" "Frames.refuse" s_Frames_refuse ["self", "place", "why"] a.f_Frames_refuse a.d_Frames_refuse
  d_cell_at : Df K mg "_law_cell_at" s_cell_at ["_law_script", "_law_k"] a.f_cell_at a.d_cell_at
  d_mixed : Df K mg "_law_mixed" s_mixed ["_law_cell", "_law_k"] a.f_mixed a.d_mixed
  d_word : Df K mg "_law_word" s_word ["_law_e"] a.f_word a.d_word
  d_at : Df K mg "_law_at" s_at ["_law_e"] a.f_at a.d_at
  d_number_row : Df K mg "_law_number_row" s_number_row ["_law_number"] a.f_number_row a.d_number_row
  d_l_check : Df K mg "_law_check" s_l_check ["_law_row"] a.f_l_check a.d_l_check
  d_frame : Df K mg "_law_frame" s_frame ["_law_row"] a.f_frame a.d_frame
  d_wire : Df K mg "_law_wire" s_wire ["_law_script"] a.f_wire a.d_wire
  d_next : Df K mg "_law_next" s_next ["_law_wire_here", "_law_at_here"] a.f_next a.d_next
  d_due : Df K mg "_law_due" s_due ["_law_wire_here"] a.f_due a.d_due
  d_told : Df K mg "_law_told" s_told ["_law_box", "_law_piece_here"] a.f_told a.d_told
  d_piece : Df K mg "_law_piece" s_piece ["_law_wire_here", "_law_state", "_law_cell"] a.f_piece a.d_piece
  d_asked : Df K mg "_law_asked" s_asked ["_law_box", "_law_wire_here", "_law_due_here", "_law_state", "_law_cell", "_law_held"] a.f_asked a.d_asked
  d_law : Df K mg "law" s_law ["_law_script"] a.f_law a.d_law
  m_FormError : mg "FormError" = some (.ref a.FormError)
  m_BadNumber : mg "BadNumber" = some (.ref a.BadNumber)
  m_BadRow : mg "BadRow" = some (.ref a.BadRow)
  m_BadCheck : mg "BadCheck" = some (.ref a.BadCheck)
  m_NoKey : mg "NoKey" = some (.ref a.NoKey)
  m_BadVersion : mg "BadVersion" = some (.ref a.BadVersion)
  m_BadBook : mg "BadBook" = some (.ref a.BadBook)
  m_BadValue : mg "BadValue" = some (.ref a.BadValue)
  m_BadText : mg "BadText" = some (.ref a.BadText)
  m_BadWire : mg "BadWire" = some (.ref a.BadWire)
  m_NotKin : mg "NotKin" = some (.ref a.NotKin)
  m_Frames : mg "Frames" = some (.ref a.Frames)
  c_LAST_PLACE : ∃ t, mg "LAST_PLACE" = some (.int 36 t)
  c_LAST_MOST : ∃ t, mg "LAST_MOST" = some (.int 15 t)
  c_CHECK_START : ∃ t, mg "CHECK_START" = some (.int 65535 t)
  c_CHECK_END : ∃ t, mg "CHECK_END" = some (.int 65536 t)
  c_CHECK_LAID_OVER : ∃ t, mg "CHECK_LAID_OVER" = some (.int 4129 t)
  c_MOST_BYTES : ∃ t, mg "MOST_BYTES" = some (.int 30000 t)
  c_CHECK_BYTES : ∃ t, mg "CHECK_BYTES" = some (.int 2 t)
  q_NoneType_int : PySem.W.kitOne K (.type "NoneType") (.type "int") = some false
  q_NoneType_bool : PySem.W.kitOne K (.type "NoneType") (.type "bool") = some false
  q_NoneType_list : PySem.W.kitOne K (.type "NoneType") (.type "list") = some false
  q_NoneType_tuple : PySem.W.kitOne K (.type "NoneType") (.type "tuple") = some false
  q_bool_int : PySem.W.kitOne K (.type "bool") (.type "int") = some true
  q_bool_list : PySem.W.kitOne K (.type "bool") (.type "list") = some false
  q_bool_tuple : PySem.W.kitOne K (.type "bool") (.type "tuple") = some false
  q_int_bool : PySem.W.kitOne K (.type "int") (.type "bool") = some false
  q_int_list : PySem.W.kitOne K (.type "int") (.type "list") = some false
  q_int_tuple : PySem.W.kitOne K (.type "int") (.type "tuple") = some false
  q_str_int : PySem.W.kitOne K (.type "str") (.type "int") = some false
  q_str_bool : PySem.W.kitOne K (.type "str") (.type "bool") = some false
  q_str_list : PySem.W.kitOne K (.type "str") (.type "list") = some false
  q_str_tuple : PySem.W.kitOne K (.type "str") (.type "tuple") = some false
  q_tuple_int : PySem.W.kitOne K (.type "tuple") (.type "int") = some false
  q_tuple_bool : PySem.W.kitOne K (.type "tuple") (.type "bool") = some false
  q_tuple_list : PySem.W.kitOne K (.type "tuple") (.type "list") = some false
  q_list_int : PySem.W.kitOne K (.type "list") (.type "int") = some false
  q_list_bool : PySem.W.kitOne K (.type "list") (.type "bool") = some false
  q_list_tuple : PySem.W.kitOne K (.type "list") (.type "tuple") = some false
  q_dict_int : PySem.W.kitOne K (.type "dict") (.type "int") = some false
  q_dict_bool : PySem.W.kitOne K (.type "dict") (.type "bool") = some false
  q_dict_list : PySem.W.kitOne K (.type "dict") (.type "list") = some false
  q_dict_tuple : PySem.W.kitOne K (.type "dict") (.type "tuple") = some false
  q_BadRow_BadNumber : PySem.W.kitOne K (.ref a.BadRow) (.ref a.BadNumber) = some false
  q_BadRow_BadRow : PySem.W.kitOne K (.ref a.BadRow) (.ref a.BadRow) = some true
  q_BadRow_BadBook : PySem.W.kitOne K (.ref a.BadRow) (.ref a.BadBook) = some false
  q_BadRow_BadValue : PySem.W.kitOne K (.ref a.BadRow) (.ref a.BadValue) = some false
  q_BadRow_BadText : PySem.W.kitOne K (.ref a.BadRow) (.ref a.BadText) = some false
  q_BadRow_BadWire : PySem.W.kitOne K (.ref a.BadRow) (.ref a.BadWire) = some false
  q_BadRow_BadCheck : PySem.W.kitOne K (.ref a.BadRow) (.ref a.BadCheck) = some false
  q_BadRow_NotKin : PySem.W.kitOne K (.ref a.BadRow) (.ref a.NotKin) = some false
  q_BadRow_NoKey : PySem.W.kitOne K (.ref a.BadRow) (.ref a.NoKey) = some false
  q_BadRow_BadVersion : PySem.W.kitOne K (.ref a.BadRow) (.ref a.BadVersion) = some false
  q_BadWire_BadNumber : PySem.W.kitOne K (.ref a.BadWire) (.ref a.BadNumber) = some false
  q_BadWire_BadRow : PySem.W.kitOne K (.ref a.BadWire) (.ref a.BadRow) = some false
  q_BadWire_BadBook : PySem.W.kitOne K (.ref a.BadWire) (.ref a.BadBook) = some false
  q_BadWire_BadValue : PySem.W.kitOne K (.ref a.BadWire) (.ref a.BadValue) = some false
  q_BadWire_BadText : PySem.W.kitOne K (.ref a.BadWire) (.ref a.BadText) = some false
  q_BadWire_BadWire : PySem.W.kitOne K (.ref a.BadWire) (.ref a.BadWire) = some true
  q_BadWire_BadCheck : PySem.W.kitOne K (.ref a.BadWire) (.ref a.BadCheck) = some false
  q_BadWire_NotKin : PySem.W.kitOne K (.ref a.BadWire) (.ref a.NotKin) = some false
  q_BadWire_NoKey : PySem.W.kitOne K (.ref a.BadWire) (.ref a.NoKey) = some false
  q_BadWire_BadVersion : PySem.W.kitOne K (.ref a.BadWire) (.ref a.BadVersion) = some false
  q_BadCheck_BadNumber : PySem.W.kitOne K (.ref a.BadCheck) (.ref a.BadNumber) = some false
  q_BadCheck_BadRow : PySem.W.kitOne K (.ref a.BadCheck) (.ref a.BadRow) = some false
  q_BadCheck_BadBook : PySem.W.kitOne K (.ref a.BadCheck) (.ref a.BadBook) = some false
  q_BadCheck_BadValue : PySem.W.kitOne K (.ref a.BadCheck) (.ref a.BadValue) = some false
  q_BadCheck_BadText : PySem.W.kitOne K (.ref a.BadCheck) (.ref a.BadText) = some false
  q_BadCheck_BadWire : PySem.W.kitOne K (.ref a.BadCheck) (.ref a.BadWire) = some false
  q_BadCheck_BadCheck : PySem.W.kitOne K (.ref a.BadCheck) (.ref a.BadCheck) = some true
  q_BadCheck_NotKin : PySem.W.kitOne K (.ref a.BadCheck) (.ref a.NotKin) = some false
  q_BadCheck_NoKey : PySem.W.kitOne K (.ref a.BadCheck) (.ref a.NoKey) = some false
  q_BadCheck_BadVersion : PySem.W.kitOne K (.ref a.BadCheck) (.ref a.BadVersion) = some false
  q_BadRow_v : PySem.W.kitOne K (.ref a.BadRow) (.type "ValueError") = some true
  q_BadWire_v : PySem.W.kitOne K (.ref a.BadWire) (.type "ValueError") = some true
  q_BadCheck_v : PySem.W.kitOne K (.ref a.BadCheck) (.type "ValueError") = some true
  x_BadRow : PySem.W.exmOne K (.ref a.BadRow) (.ref a.FormError) = some true
  x_BadWire : PySem.W.exmOne K (.ref a.BadWire) (.ref a.FormError) = some true
  x_BadCheck : PySem.W.exmOne K (.ref a.BadCheck) (.ref a.FormError) = some true
  x_BadWire2 : PySem.W.exmOne K (.ref a.BadWire) (.ref a.BadWire) = some true
  e_BadRow : PySem.W.excIn K a.BadRow bmV "ValueError.__new__" = true
  e_BadCheck : PySem.W.excIn K a.BadCheck bmV "ValueError.__new__" = true
  z_BadRow : XCls K a.BadRow
  z_BadWire : XCls K a.BadWire
  z_BadCheck : XCls K a.BadCheck
  k_BadWire : XMk K a.BadWire a.FormError a.f_BadWire_init
  b_FormError : XBase K a.FormError
  n_place : PySem.W.findIn K (.ref a.BadWire) "place" = some none
  n_why : PySem.W.findIn K (.ref a.BadWire) "why" = some none
abbrev ad (K : PySem.W.Frag) : Ad := ⟨158, HL.fdOf K 158, 189, HL.fdOf K 189, 196, HL.fdOf K 196, 201, HL.fdOf K 201, 208, HL.fdOf K 208, 215, HL.fdOf K 215, 222, HL.fdOf K 222, 229, HL.fdOf K 229, 236, HL.fdOf K 236, 250, HL.fdOf K 250, 257, HL.fdOf K 257, 264, HL.fdOf K 264, 271, HL.fdOf K 271, 278, HL.fdOf K 278, 285, HL.fdOf K 285, 292, HL.fdOf K 292, 306, HL.fdOf K 306, 313, HL.fdOf K 313, 318, HL.fdOf K 318, 325, HL.fdOf K 325, 332, HL.fdOf K 332, 339, HL.fdOf K 339, 346, HL.fdOf K 346, 351, HL.fdOf K 351, 358, HL.fdOf K 358, 365, HL.fdOf K 365, 372, HL.fdOf K 372, 379, HL.fdOf K 379, 384, HL.fdOf K 384, 389, HL.fdOf K 389, 24, 37, 49, 61, 73, 85, 104, 123, 142, 161, 180, 295⟩
theorem tx_old {K : PySem.W.Frag} {mg : Str → Option Value} (T : K6L.Tx K mg) : Tx K mg (ad K) := {
  «len» := T.y_len,
  «range» := T.y_range,
  «isinstance» := T.y_isinstance,
  «all» := T.y_all,
  «int» := T.y_int,
  «bool» := T.y_bool,
  «list» := T.y_list,
  «tuple» := T.y_tuple,
  «ValueError» := T.y_ValueError,
  d_BadWire_init := ⟨T.d_BadWire_init, T.m_BadWire_init, T.i_BadWire_init, T.b_BadWire_init⟩,
  d_is_whole := ⟨T.d_is_whole, T.m_is_whole, T.b_is_whole⟩,
  d_is_among := ⟨T.d_is_among, T.m_is_among, T.b_is_among⟩,
  d_is_row := ⟨T.d_is_row, T.m_is_row, T.b_is_row⟩,
  d_need_row := ⟨T.d_need_row, T.m_need_row, T.b_need_row⟩,
  d_number_at := ⟨T.d_number_at, T.m_number_at, T.b_number_at⟩,
  d_is_number_over := ⟨T.d_is_number_over, T.m_is_number_over, T.b_is_number_over⟩,
  d_check := ⟨T.d_check, T.m_check, T.b_check⟩,
  d_is_checked := ⟨T.d_is_checked, T.m_is_checked, T.b_is_checked⟩,
  d_Frames_init := ⟨T.d_Frames_init, T.f_Frames_init, T.i_Frames_init, T.b_Frames_init⟩,
  d_Frames_take := ⟨T.d_Frames_take, T.f_Frames_take, T.i_Frames_take, T.b_Frames_take⟩,
  d_Frames_end := ⟨T.d_Frames_end, T.f_Frames_end, T.i_Frames_end, T.b_Frames_end⟩,
  d_Frames_need_right := ⟨T.d_Frames_need_right, T.f_Frames_need_right, T.i_Frames_need_right, T.b_Frames_need_right⟩,
  d_Frames_look_at_length := ⟨T.d_Frames_look_at_length, T.f_Frames_look_at_length, T.i_Frames_look_at_length, T.b_Frames_look_at_length⟩,
  d_Frames_finish := ⟨T.d_Frames_finish, T.f_Frames_finish, T.i_Frames_finish, T.b_Frames_finish⟩,
  d_Frames_refuse := ⟨T.d_Frames_refuse, T.f_Frames_refuse, T.i_Frames_refuse, T.b_Frames_refuse⟩,
  d_cell_at := ⟨T.d_cell_at, T.m_cell_at, T.b_cell_at⟩,
  d_mixed := ⟨T.d_mixed, T.m_mixed, T.b_mixed⟩,
  d_word := ⟨T.d_word, T.m_word, T.b_word⟩,
  d_at := ⟨T.d_at, T.m_at, T.b_at⟩,
  d_number_row := ⟨T.d_number_row, T.m_number_row, T.b_number_row⟩,
  d_l_check := ⟨T.d_l_check, T.m_l_check, T.b_l_check⟩,
  d_frame := ⟨T.d_frame, T.m_frame, T.b_frame⟩,
  d_wire := ⟨T.d_wire, T.m_wire, T.b_wire⟩,
  d_next := ⟨T.d_next, T.m_next, T.b_next⟩,
  d_due := ⟨T.d_due, T.m_due, T.b_due⟩,
  d_told := ⟨T.d_told, T.m_told, T.b_told⟩,
  d_piece := ⟨T.d_piece, T.m_piece, T.b_piece⟩,
  d_asked := ⟨T.d_asked, T.m_asked, T.b_asked⟩,
  d_law := ⟨T.d_law, T.m_law, T.b_law⟩,
  m_FormError := T.mc_FormError,
  m_BadNumber := T.mc_BadNumber,
  m_BadRow := T.mc_BadRow,
  m_BadCheck := T.mc_BadCheck,
  m_NoKey := T.mc_NoKey,
  m_BadVersion := T.mc_BadVersion,
  m_BadBook := T.mc_BadBook,
  m_BadValue := T.mc_BadValue,
  m_BadText := T.mc_BadText,
  m_BadWire := T.mc_BadWire,
  m_NotKin := T.mc_NotKin,
  m_Frames := T.mc_Frames,
  c_LAST_PLACE := T.u_LAST_PLACE,
  c_LAST_MOST := T.u_LAST_MOST,
  c_CHECK_START := T.u_CHECK_START,
  c_CHECK_END := T.u_CHECK_END,
  c_CHECK_LAID_OVER := T.u_CHECK_LAID_OVER,
  c_MOST_BYTES := T.u_MOST_BYTES,
  c_CHECK_BYTES := T.u_CHECK_BYTES,
  q_NoneType_int := T.q_NoneType_int,
  q_NoneType_bool := T.q_NoneType_bool,
  q_NoneType_list := T.q_NoneType_list,
  q_NoneType_tuple := T.q_NoneType_tuple,
  q_bool_int := T.q_bool_int,
  q_bool_list := T.q_bool_list,
  q_bool_tuple := T.q_bool_tuple,
  q_int_bool := T.q_int_bool,
  q_int_list := T.q_int_list,
  q_int_tuple := T.q_int_tuple,
  q_str_int := T.q_str_int,
  q_str_bool := T.q_str_bool,
  q_str_list := T.q_str_list,
  q_str_tuple := T.q_str_tuple,
  q_tuple_int := T.q_tuple_int,
  q_tuple_bool := T.q_tuple_bool,
  q_tuple_list := T.q_tuple_list,
  q_list_int := T.q_list_int,
  q_list_bool := T.q_list_bool,
  q_list_tuple := T.q_list_tuple,
  q_dict_int := T.q_dict_int,
  q_dict_bool := T.q_dict_bool,
  q_dict_list := T.q_dict_list,
  q_dict_tuple := T.q_dict_tuple,
  q_BadRow_BadNumber := T.q_BadRow_BadNumber,
  q_BadRow_BadRow := T.q_BadRow_BadRow,
  q_BadRow_BadBook := T.q_BadRow_BadBook,
  q_BadRow_BadValue := T.q_BadRow_BadValue,
  q_BadRow_BadText := T.q_BadRow_BadText,
  q_BadRow_BadWire := T.q_BadRow_BadWire,
  q_BadRow_BadCheck := T.q_BadRow_BadCheck,
  q_BadRow_NotKin := T.q_BadRow_NotKin,
  q_BadRow_NoKey := T.q_BadRow_NoKey,
  q_BadRow_BadVersion := T.q_BadRow_BadVersion,
  q_BadWire_BadNumber := T.q_BadWire_BadNumber,
  q_BadWire_BadRow := T.q_BadWire_BadRow,
  q_BadWire_BadBook := T.q_BadWire_BadBook,
  q_BadWire_BadValue := T.q_BadWire_BadValue,
  q_BadWire_BadText := T.q_BadWire_BadText,
  q_BadWire_BadWire := T.q_BadWire_BadWire,
  q_BadWire_BadCheck := T.q_BadWire_BadCheck,
  q_BadWire_NotKin := T.q_BadWire_NotKin,
  q_BadWire_NoKey := T.q_BadWire_NoKey,
  q_BadWire_BadVersion := T.q_BadWire_BadVersion,
  q_BadCheck_BadNumber := T.q_BadCheck_BadNumber,
  q_BadCheck_BadRow := T.q_BadCheck_BadRow,
  q_BadCheck_BadBook := T.q_BadCheck_BadBook,
  q_BadCheck_BadValue := T.q_BadCheck_BadValue,
  q_BadCheck_BadText := T.q_BadCheck_BadText,
  q_BadCheck_BadWire := T.q_BadCheck_BadWire,
  q_BadCheck_BadCheck := T.q_BadCheck_BadCheck,
  q_BadCheck_NotKin := T.q_BadCheck_NotKin,
  q_BadCheck_NoKey := T.q_BadCheck_NoKey,
  q_BadCheck_BadVersion := T.q_BadCheck_BadVersion,
  q_BadRow_v := T.q_BadRow_v,
  q_BadWire_v := T.q_BadWire_v,
  q_BadCheck_v := T.q_BadCheck_v,
  x_BadRow := T.x_BadRow,
  x_BadWire := T.x_BadWire,
  x_BadCheck := T.x_BadCheck,
  x_BadWire2 := T.x_BadWire2,
  e_BadRow := T.e_BadRow,
  e_BadCheck := T.e_BadCheck,
  z_BadRow := ⟨T.h1_BadRow, T.h2_BadRow, T.h3_BadRow, T.h4_BadRow, T.og, T.ot, T.h7_BadRow, T.h8_BadRow⟩,
  z_BadWire := ⟨T.h1_BadWire, T.h2_BadWire, T.h3_BadWire, T.h4_BadWire, T.og, T.ot, T.h7_BadWire, T.h8_BadWire⟩,
  z_BadCheck := ⟨T.h1_BadCheck, T.h2_BadCheck, T.h3_BadCheck, T.h4_BadCheck, T.og, T.ot, T.h7_BadCheck, T.h8_BadCheck⟩,
  k_BadWire := ⟨HL.xmk_of T.g_BadWire, T.w1, T.w2, T.i_BadWire_init, T.g4_BadWire, T.g5_BadWire⟩,
  b_FormError := ⟨T.w3, T.w4, HL.fc_of T.w5⟩,
  n_place := T.n_place,
  n_why := T.n_why }
def cellAt (ns : List Int) (k : Int) : Int := ns.getD k.toNat 0
def mixed (c k : Int) : Int := (c + 7919 * k + 1) ^ 3 * 48271 % 2147483647
theorem mixed_nn (c k : Int) : 0 ≤ mixed c k := Int.emod_nonneg _ (by decide)
theorem mixed_lt (c k : Int) : mixed c k < 2147483647 := Int.emod_lt_of_pos _ (by decide)
def sp_cell_at (K : PySem.W.Frag) : Sp := fun vs H Q _ => ∃ (a : Addr) (ns : List Int) (k : Int), vs = [.ref a, .int k] ∧ SqL K H a (ns.map V.int) ∧ 0 ≤ k ∧ Q (.int (cellAt ns k)) H
def sp_mixed : Sp := fun vs H Q _ => ∃ (c k : Int), vs = [.int c, .int k] ∧ Builtin.Int.intBits c ≤ 1048576 ∧ 0 ≤ k ∧ k ≤ 1000000 ∧ Q (.int (mixed c k)) H
def sp_great : Sp := fun vs H Q _ => ∃ (c k : Int), vs = [.int c, .int k] ∧ Builtin.Int.intBits c ≤ 1048576 ∧ 0 ≤ k ∧ k ≤ 1000 ∧ ∀ g : Int, 0 ≤ g → g < 2147483648 ^ 8 → Q (.int g) H
def spLaw (K : PySem.W.Frag) : Sp := fun vs H Q _ => ∃ (a : Addr) (ns : List Int), vs = [.ref a] ∧ SqL K H a (ns.map V.int) ∧ ns.length ≤ 63 ∧ (∀ i ∈ ns, Builtin.Int.intBits i ≤ 1048576) ∧ ∀ H', Q (.bl true) H'
theorem cell_bits {ns : List Int} (h : ∀ i ∈ ns, Builtin.Int.intBits i ≤ 1048576) (k : Int) : Builtin.Int.intBits (cellAt ns k) ≤ 1048576 := by
  unfold cellAt
  rw [List.getD_eq_getElem?_getD]
  cases e : ns[k.toNat]? with
  | none => exact Nat.le_trans (intBits_le_64 (by decide) (by decide)) (by decide)
  | some i => exact h i (List.mem_of_getElem? e)
theorem bits_small {c : Int} (h0 : 0 ≤ c) (h1 : c < 2147483647) : Builtin.Int.intBits c ≤ 1048576 := Nat.le_trans (intBits_le_64 (by omega) (by omega)) (by decide)
section
variable {P : Program} {w : World} {K : PySem.W.Frag} {mg : Str → Option Value} {base : Heap} {a : Ad}
theorem ok_cell_at (T : Tx K mg a) : FnOk P w K mg base CX0 1 a.f_cell_at a.d_cell_at ["_law_script", "_law_k"] (sp_cell_at K) := by
  refine T.d_cell_at.F.ok sc_cell_at (fun vs H Q E h => ?_) (fun cdv A outer s H vs Q E hr h => ?_)
  · obtain ⟨a, ns, k, rfl, _⟩ := h
    rfl
  · obtain ⟨a, ns, k, rfl, hS, h0, q⟩ := h
    refine ⟨_, pss_cons (ps_if (pt_cmpR op_lt (pv 1) (pe_callB call_len_seq (by rfl) T.len bt_len (pa_cons (pv 0) pa_nil)) (nomark _)) (pss_one (ps_ret (pe_ix ix_list (pv 0) (pv 1) (fun _ _ => rfl)))) pss_nil) (pss_one (ps_ret pe_int)), ?_⟩
    refine ⟨_, rfl, _, rfl, a, _, rfl, .inl hS, _, _, rfl, rfl, _, rfl, ?_⟩
    refine ite2 (fun hk => ?_) (fun hk => ?_)
    · have hk' : k < (ns.length : Int) := by simpa using of_decide_eq_true hk
      refine ⟨_, rfl, _, rfl, a, _, k, _, rfl, rfl, hS, ?_, q⟩
      have hlt : k.toNat < ns.length := by omega
      have e2 : atI (ns.map V.int) ((k.toNat : Nat) : Int) = some (V.int (cellAt ns k)) := atI_nat (by
        rw [List.getElem?_map]
        unfold cellAt
        simp [List.getD, hlt])
      have e : ((k.toNat : Nat) : Int) = k := by omega
      rw [e] at e2
      exact e2
    · have hk' : ¬ k < (ns.length : Int) := by simpa using hk
      have e : cellAt ns k = 0 := by
        unfold cellAt
        have hlt : ns.length ≤ k.toNat := by omega
        simp [List.getD, hlt]
      rw [e] at q
      exact q
theorem ok_mixed (T : Tx K mg a) : FnOk P w K mg base CX0 1 a.f_mixed a.d_mixed ["_law_cell", "_law_k"] sp_mixed := by
  refine T.d_mixed.F.ok sc_mixed (fun vs H Q E h => ?_) (fun cdv A outer s H vs Q E hr h => ?_)
  · obtain ⟨c, k, rfl, _⟩ := h
    rfl
  · obtain ⟨c, k, rfl, hb, h0, h1, q⟩ := h
    refine ⟨_, pss_one (ps_ret (pe_op op_mod (pe_op op_mul (pe_op op_powB (pe_op op_add (pe_op op_add (pv 0) (pe_op op_mul pe_int (pv 1))) pe_int) pe_int) pe_int) pe_int)), ?_⟩
    refine ⟨_, rfl, _, rfl, _, _, rfl, rfl, .inl ⟨by decide, by decide⟩, _, _, rfl, rfl, _, _, rfl, rfl, _, _, rfl, rfl, ⟨by decide, ?_⟩, _, _, rfl, rfl, .inr ⟨by decide, by decide⟩, _, _, rfl, rfl, (by show (0 : Int) < 2147483647; decide), q⟩
    show (Builtin.Int.intBits (c + 7919 * k + 1) : Int) * 3 ≤ 2 ^ 27
    have b1 : Builtin.Int.intBits (7919 * k) ≤ 64 := intBits_le_64 (by omega) (by omega)
    have b2 := intBits_add_le hb b1
    have b3 : Builtin.Int.intBits (1 : Int) ≤ 64 := intBits_le_64 (by decide) (by decide)
    have b4 := intBits_add_le b2 b3
    have e1 : max (max 1048576 64 + 1) 64 + 1 = 1048578 := by decide
    rw [e1] at b4
    have e2 : (2 : Int) ^ 27 = 134217728 := by decide
    rw [e2]
    omega
theorem nd_word : ((["_law_word_here", "_law_good"] : List Str) ++ ([] : List Str)).Nodup := by decide +kernel
/-- what isinstance tells of a class for each word -/
structure Wd (K : PySem.W.Frag) (a : Ad) (C : Addr) (bs : List Bool) : Prop where
  k1 : PySem.W.kitOne K (.ref C) (.ref a.BadNumber) = some (bs.getD 0 false)
  k2 : PySem.W.kitOne K (.ref C) (.ref a.BadRow) = some (bs.getD 1 false)
  k3 : PySem.W.kitOne K (.ref C) (.ref a.BadBook) = some (bs.getD 2 false)
  k4 : PySem.W.kitOne K (.ref C) (.ref a.BadValue) = some (bs.getD 3 false)
  k5 : PySem.W.kitOne K (.ref C) (.ref a.BadText) = some (bs.getD 4 false)
  k6 : PySem.W.kitOne K (.ref C) (.ref a.BadWire) = some (bs.getD 5 false)
  k7 : PySem.W.kitOne K (.ref C) (.ref a.BadCheck) = some (bs.getD 6 false)
  k8 : PySem.W.kitOne K (.ref C) (.ref a.NotKin) = some (bs.getD 7 false)
  k9 : PySem.W.kitOne K (.ref C) (.ref a.NoKey) = some (bs.getD 8 false)
  k10 : PySem.W.kitOne K (.ref C) (.ref a.BadVersion) = some (bs.getD 9 false)
  kv : PySem.W.kitOne K (.ref C) (.type "ValueError") = some true
  z : XCls K C
def sp_word (C : Addr) (word : Str) : Sp := fun vs H Q _ => ∃ e dx a0 tb, vs = [.ref e] ∧ H e = some (xHO e (xObj (.ref C) dx a0 tb)) ∧ (dx = none ∨ ∃ d fs, dx = some d ∧ H d = some (.xd fs)) ∧ ∀ H', Same H H' → Q (.str word) H'
def wordsOf (bs : List Bool) : List (Str × Bool) := [("number", bs.getD 0 false), ("row", bs.getD 1 false), ("book", bs.getD 2 false), ("value", bs.getD 3 false), ("text", bs.getD 4 false), ("wire", bs.getD 5 false), ("check", bs.getD 6 false), ("kin", bs.getD 7 false), ("key", bs.getD 8 false), ("version", bs.getD 9 false)]
set_option maxHeartbeats 8000000 in
theorem ok_word {C : Addr} {bs : List Bool} {word : Str} (T : Tx K mg a) (W : Wd K a C bs) (hw : ((wordsOf bs).filter (·.2)).map (fun p => V.str p.1) = [V.str word]) : FnOk P w K mg base CXS 1 a.f_word a.d_word ["_law_e"] (sp_word C word) := by
  refine T.d_word.F.ok sc_word (fun vs H Q E h => ?_) (fun cdv A outer s H vs Q E hr h => ?_)
  · obtain ⟨e, dx, a0, tb, rfl, _⟩ := h
    rfl
  · obtain ⟨e, dx, a0, tb, rfl, hE, hdx, q⟩ := h
    have hu := hr.units
    refine ⟨_, pss_cons (ps_set (i := 1) sc_word.nd rfl (Or.inl rfl) (pe_lst (pa_cons (pe_tup (pa_cons pe_str (pa_cons (pe_callB call_isinstX rfl T.isinstance bt_isinstance (pa_cons (pv 0) (pa_cons (pcl T.m_BadNumber) pa_nil))) pa_nil))) (pa_cons (pe_tup (pa_cons pe_str (pa_cons (pe_callB call_isinstX rfl T.isinstance bt_isinstance (pa_cons (pv 0) (pa_cons (pcl T.m_BadRow) pa_nil))) pa_nil))) (pa_cons (pe_tup (pa_cons pe_str (pa_cons (pe_callB call_isinstX rfl T.isinstance bt_isinstance (pa_cons (pv 0) (pa_cons (pcl T.m_BadBook) pa_nil))) pa_nil))) pa_nil)))))
      (pss_cons (ps_set (i := 1) sc_word.nd rfl (Or.inl rfl) (pe_op op_cat (pv 1) (pe_lst (pa_cons (pe_tup (pa_cons pe_str (pa_cons (pe_callB call_isinstX rfl T.isinstance bt_isinstance (pa_cons (pv 0) (pa_cons (pcl T.m_BadValue) pa_nil))) pa_nil))) (pa_cons (pe_tup (pa_cons pe_str (pa_cons (pe_callB call_isinstX rfl T.isinstance bt_isinstance (pa_cons (pv 0) (pa_cons (pcl T.m_BadText) pa_nil))) pa_nil))) pa_nil)))))
      (pss_cons (ps_set (i := 1) sc_word.nd rfl (Or.inl rfl) (pe_op op_cat (pv 1) (pe_lst (pa_cons (pe_tup (pa_cons pe_str (pa_cons (pe_callB call_isinstX rfl T.isinstance bt_isinstance (pa_cons (pv 0) (pa_cons (pcl T.m_BadWire) pa_nil))) pa_nil))) (pa_cons (pe_tup (pa_cons pe_str (pa_cons (pe_callB call_isinstX rfl T.isinstance bt_isinstance (pa_cons (pv 0) (pa_cons (pcl T.m_BadCheck) pa_nil))) pa_nil))) pa_nil)))))
      (pss_cons (ps_set (i := 1) sc_word.nd rfl (Or.inl rfl) (pe_op op_cat (pv 1) (pe_lst (pa_cons (pe_tup (pa_cons pe_str (pa_cons (pe_callB call_isinstX rfl T.isinstance bt_isinstance (pa_cons (pv 0) (pa_cons (pcl T.m_NotKin) pa_nil))) pa_nil))) (pa_cons (pe_tup (pa_cons pe_str (pa_cons (pe_callB call_isinstX rfl T.isinstance bt_isinstance (pa_cons (pv 0) (pa_cons (pcl T.m_NoKey) pa_nil))) pa_nil))) pa_nil)))))
      (pss_cons (ps_set (i := 1) sc_word.nd rfl (Or.inl rfl) (pe_op op_cat (pv 1) (pe_lst (pa_cons (pe_tup (pa_cons pe_str (pa_cons (pe_callB call_isinstX rfl T.isinstance bt_isinstance (pa_cons (pv 0) (pa_cons (pcl T.m_BadVersion) pa_nil))) pa_nil))) pa_nil))))
      (pss_cons (ps_setCompS (i := 2) (ts := ["_law_word_here", "_law_good"]) (xs := []) (js := []) rfl ⟨rfl, rfl, by decide +kernel, by decide +kernel, freeIn rfl⟩ .nil (by decide +kernel) (pi_list (pv 1))
          (fun C s₀ H₀ fp => pg_tupSK (X := cxC _ _ _ C s₀ H₀ fp) K rfl (n := 2) rfl (pgs_cons (pg_name (i := 0) nd_word rfl (Or.inl rfl) (Or.inr rfl)) (pgs_cons (pg_name (i := 1) nd_word rfl (Or.inl rfl) (Or.inr rfl)) pgs_nil)))
          (fun _ _ _ _ => pif_one (pt_val (pv 1))) (fun _ _ _ _ => pv 0) sc_word.nd rfl (Or.inl rfl) rfl)
      (pss_one (ps_ret (pe_ifExp (pw_and (pt_cmpR op_eq (pe_callB call_len_seq (by rfl) T.len bt_len (pa_cons (pv 2) pa_nil)) pe_int (nomark _)) (pw_and1 (pt_val (pe_callB call_isinstX (by rfl) T.isinstance bt_isinstance (pa_cons (pv 0) (pa_cons (pty T.ValueError bt_ValueError) pa_nil)))))).pt
        (pe_ix ix_list (pv 2) pe_int (fun _ _ => rfl)) pe_str)))))))), ?_⟩
    refine ⟨_, rfl, e, C, dx, a0, tb, _, _, _, rfl, (by repeat (first | exact upd_same | exact hE | refine keepH ?_ (by assumption))), W.z, (by repeat (first | exact hdx | refine keepX ?_ (by assumption))), .inl ⟨_, rfl, rfl⟩, W.k1, by show 2 ≤ sizeLine; decide, fun t1 h1 => ?_⟩
    refine ⟨_, rfl, e, C, dx, a0, tb, _, _, _, rfl, (by repeat (first | exact upd_same | exact hE | refine keepH ?_ (by assumption))), W.z, (by repeat (first | exact hdx | refine keepX ?_ (by assumption))), .inl ⟨_, rfl, rfl⟩, W.k2, by show 2 ≤ sizeLine; decide, fun t2 h2 => ?_⟩
    refine ⟨_, rfl, e, C, dx, a0, tb, _, _, _, rfl, (by repeat (first | exact upd_same | exact hE | refine keepH ?_ (by assumption))), W.z, (by repeat (first | exact hdx | refine keepX ?_ (by assumption))), .inl ⟨_, rfl, rfl⟩, W.k3, by show 2 ≤ sizeLine; decide, fun t3 h3 => ?_⟩
    refine ⟨by show 3 ≤ sizeLine; decide, fun l1 g1 => ?_⟩
    refine ⟨_, rfl, ?_⟩
    refine ⟨_, rfl, e, C, dx, a0, tb, _, _, _, rfl, (by repeat (first | exact upd_same | exact hE | refine keepH ?_ (by assumption))), W.z, (by repeat (first | exact hdx | refine keepX ?_ (by assumption))), .inl ⟨_, rfl, rfl⟩, W.k4, by show 2 ≤ sizeLine; decide, fun t4 h4 => ?_⟩
    refine ⟨_, rfl, e, C, dx, a0, tb, _, _, _, rfl, (by repeat (first | exact upd_same | exact hE | refine keepH ?_ (by assumption))), W.z, (by repeat (first | exact hdx | refine keepX ?_ (by assumption))), .inl ⟨_, rfl, rfl⟩, W.k5, by show 2 ≤ sizeLine; decide, fun t5 h5 => ?_⟩
    refine ⟨by show 2 ≤ sizeLine; decide, fun m2 f2 => ?_⟩
    refine ⟨l1, m2, _, _, rfl, rfl, (by repeat (first | exact upd_same | exact hE | refine keepH ?_ (by assumption))), (by repeat (first | exact upd_same | exact hE | refine keepH ?_ (by assumption))), by show 5 ≤ sizeLine; decide, fun l2 g2 => ?_⟩
    refine ⟨_, rfl, ?_⟩
    refine ⟨_, rfl, e, C, dx, a0, tb, _, _, _, rfl, (by repeat (first | exact upd_same | exact hE | refine keepH ?_ (by assumption))), W.z, (by repeat (first | exact hdx | refine keepX ?_ (by assumption))), .inl ⟨_, rfl, rfl⟩, W.k6, by show 2 ≤ sizeLine; decide, fun t6 h6 => ?_⟩
    refine ⟨_, rfl, e, C, dx, a0, tb, _, _, _, rfl, (by repeat (first | exact upd_same | exact hE | refine keepH ?_ (by assumption))), W.z, (by repeat (first | exact hdx | refine keepX ?_ (by assumption))), .inl ⟨_, rfl, rfl⟩, W.k7, by show 2 ≤ sizeLine; decide, fun t7 h7 => ?_⟩
    refine ⟨by show 2 ≤ sizeLine; decide, fun m3 f3 => ?_⟩
    refine ⟨l2, m3, _, _, rfl, rfl, (by repeat (first | exact upd_same | exact hE | refine keepH ?_ (by assumption))), (by repeat (first | exact upd_same | exact hE | refine keepH ?_ (by assumption))), by show 7 ≤ sizeLine; decide, fun l3 g3 => ?_⟩
    refine ⟨_, rfl, ?_⟩
    refine ⟨_, rfl, e, C, dx, a0, tb, _, _, _, rfl, (by repeat (first | exact upd_same | exact hE | refine keepH ?_ (by assumption))), W.z, (by repeat (first | exact hdx | refine keepX ?_ (by assumption))), .inl ⟨_, rfl, rfl⟩, W.k8, by show 2 ≤ sizeLine; decide, fun t8 h8 => ?_⟩
    refine ⟨_, rfl, e, C, dx, a0, tb, _, _, _, rfl, (by repeat (first | exact upd_same | exact hE | refine keepH ?_ (by assumption))), W.z, (by repeat (first | exact hdx | refine keepX ?_ (by assumption))), .inl ⟨_, rfl, rfl⟩, W.k9, by show 2 ≤ sizeLine; decide, fun t9 h9 => ?_⟩
    refine ⟨by show 2 ≤ sizeLine; decide, fun m4 f4 => ?_⟩
    refine ⟨l3, m4, _, _, rfl, rfl, (by repeat (first | exact upd_same | exact hE | refine keepH ?_ (by assumption))), (by repeat (first | exact upd_same | exact hE | refine keepH ?_ (by assumption))), by show 9 ≤ sizeLine; decide, fun l4 g4 => ?_⟩
    refine ⟨_, rfl, ?_⟩
    refine ⟨_, rfl, e, C, dx, a0, tb, _, _, _, rfl, (by repeat (first | exact upd_same | exact hE | refine keepH ?_ (by assumption))), W.z, (by repeat (first | exact hdx | refine keepX ?_ (by assumption))), .inl ⟨_, rfl, rfl⟩, W.k10, by show 2 ≤ sizeLine; decide, fun t10 h10 => ?_⟩
    refine ⟨by show 1 ≤ sizeLine; decide, fun m5 f5 => ?_⟩
    refine ⟨l4, m5, _, _, rfl, rfl, (by repeat (first | exact upd_same | exact hE | refine keepH ?_ (by assumption))), (by repeat (first | exact upd_same | exact hE | refine keepH ?_ (by assumption))), by show 10 ≤ sizeLine; decide, fun l5 g5 => ?_⟩
    refine ⟨_, rfl, l5, rfl, ⟨_, SqL.of (by repeat (first | exact upd_same | exact hE | refine keepH ?_ (by assumption)))⟩, ?_⟩
    refine comp_pairs (ts := [t1, t2, t3, t4, t5, t6, t7, t8, t9, t10]) (prs := wordsOf bs) ?_ rfl (by show 10 ≤ 1000; decide) ?_ rfl ?_
    · exact upd_same
    · intro i t w b h1 h2
      unfold wordsOf at h2
      rcases i with _ | _ | _ | _ | _ | _ | _ | _ | _ | _ | i <;> simp at h1 h2
      all_goals
        obtain ⟨rfl, rfl⟩ := h2
        subst h1
        repeat (first | exact upd_same | refine keepH ?_ (by assumption))
    · intro D hD
      rw [hw]
      refine ⟨_, rfl, D, _, rfl, .inl (SqL.of upd_same), rfl, _, rfl, iteP rfl ?_⟩
      refine ⟨_, rfl, e, C, dx, a0, tb, _, _, _, rfl, (by repeat (first | exact upd_same | exact hE | refine keepH ?_ (by assumption))), W.z, (by repeat (first | exact hdx | refine keepX ?_ (by assumption))), .inr ⟨_, rfl, rfl⟩, W.kv, _, rfl, iteT ?_⟩
      refine ⟨_, rfl, D, _, 0, _, rfl, rfl, SqL.of upd_same, rfl, q _ fun b o z => ?_⟩
      repeat (first | exact z | refine keepH ?_ (by assumption))
end

end K6

namespace K6
open PySem L2
theorem small1000 {n : Nat} (h : n ≤ 100000) : n < sizeLine := by rw [sizeLine_eq]; omega
noncomputable def pstep (v : Nat) : Nat := if 65536 ≤ v * 2 then (v * 2 - 65536) ^^^ 4129 else v * 2
noncomputable def lstep (b k f : Nat) : Nat := if (f / 32768 + b / 2 ^ (7 - k)) % 2 = 1 then (f * 2 % 65536) ^^^ 4129 else f * 2 % 65536
theorem dbl_xor (l c : Nat) : (l ^^^ c) * 2 % 65536 = (l * 2 % 65536) ^^^ (c * 2 % 65536) := by
  apply Nat.eq_of_testBit_eq
  intro i
  rw [show (65536 : Nat) = 2 ^ 16 from rfl, show (2 : Nat) = 2 ^ 1 from rfl]
  rw [Nat.testBit_xor, Nat.testBit_mod_two_pow, Nat.testBit_mod_two_pow, Nat.testBit_mod_two_pow, Nat.testBit_mul_two_pow, Nat.testBit_mul_two_pow, Nat.testBit_mul_two_pow, Nat.testBit_xor]
  cases decide (i < 16) <;> cases decide (1 ≤ i) <;> simp
theorem top_xor {l c : Nat} (hl : l < 65536) (hc : c < 65536) : (l ^^^ c) / 32768 = (l / 32768 + c / 32768) % 2 := by
  have e : (l ^^^ c) / 32768 = (l / 32768) ^^^ (c / 32768) := by
    rw [show (32768 : Nat) = 2 ^ 15 from rfl, ← Nat.shiftRight_eq_div_pow, ← Nat.shiftRight_eq_div_pow, ← Nat.shiftRight_eq_div_pow, Nat.shiftRight_xor_distrib]
  rw [e]
  have h1 : l / 32768 = 0 ∨ l / 32768 = 1 := by omega
  have h2 : c / 32768 = 0 ∨ c / 32768 = 1 := by omega
  rcases h1 with h1 | h1 <;> rcases h2 with h2 | h2 <;> rw [h1, h2] <;> rfl
theorem xor_lt {l c : Nat} (hl : l < 65536) (hc : c < 65536) : l ^^^ c < 65536 := Nat.xor_lt_two_pow (n := 16) hl hc
theorem pstep_xor {l c : Nat} (hl : l < 65536) (hc : c < 65536) : pstep (l ^^^ c) = (if (l / 32768 + c / 32768) % 2 = 1 then (l * 2 % 65536) ^^^ 4129 else l * 2 % 65536) ^^^ (c * 2 % 65536) := by
  have hx := xor_lt hl hc
  have ht := top_xor hl hc
  have hd := dbl_xor l c
  unfold pstep
  by_cases h : 65536 ≤ (l ^^^ c) * 2
  · have h1 : (l ^^^ c) / 32768 = 1 := by omega
    rw [if_pos h, if_pos (by omega), show (l ^^^ c) * 2 - 65536 = (l ^^^ c) * 2 % 65536 by omega, hd, Nat.xor_assoc, Nat.xor_assoc, Nat.xor_comm (c * 2 % 65536)]
  · have h1 : (l ^^^ c) / 32768 = 0 := by omega
    rw [if_neg h, if_neg (by omega), show (l ^^^ c) * 2 = (l ^^^ c) * 2 % 65536 by omega, hd]
noncomputable def cut (b k : Nat) : Nat := b * 2 ^ (8 + k) % 65536
theorem cut_lt (b k : Nat) : cut b k < 65536 := Nat.mod_lt _ (by decide)
theorem cut_succ (b k : Nat) : cut b (k + 1) = cut b k * 2 % 65536 := by
  unfold cut
  rw [show 8 + (k + 1) = (8 + k) + 1 by omega, Nat.pow_succ, ← Nat.mul_assoc, Nat.mod_mul_mod]
theorem cut_top {b k : Nat} (hk : k < 8) : cut b k / 32768 % 2 = b / 2 ^ (7 - k) % 2 := by
  have e : Nat.testBit (b * 2 ^ (8 + k) % 2 ^ 16) 15 = Nat.testBit b (7 - k) := by
    rw [Nat.testBit_mod_two_pow, Nat.testBit_mul_two_pow]
    simp only [show (15 : Nat) < 16 by decide, decide_true, Bool.true_and, show 8 + k ≤ 15 by omega]
    rw [show 15 - (8 + k) = 7 - k by omega]
  rw [Nat.testBit_eq_decide_div_mod_eq, Nat.testBit_eq_decide_div_mod_eq, decide_eq_decide] at e
  have e' : cut b k / 32768 % 2 = 1 ↔ b / 2 ^ (7 - k) % 2 = 1 := e
  omega
theorem lstep_lt (b k f : Nat) : lstep b k f < 65536 := by
  unfold lstep
  split
  · exact xor_lt (Nat.mod_lt _ (by decide)) (by decide)
  · exact Nat.mod_lt _ (by decide)
/-- one step of both -/
theorem both {b k l : Nat} (hl : l < 65536) (hk : k < 8) : pstep (l ^^^ cut b k) = lstep b k l ^^^ cut b (k + 1) := by
  rw [pstep_xor hl (cut_lt b k), cut_succ]
  unfold lstep
  have := cut_top (b := b) hk
  by_cases h : (l / 32768 + cut b k / 32768) % 2 = 1
  · rw [if_pos h, if_pos (by omega)]
  · rw [if_neg h, if_neg (by omega)]
theorem cut_8 (b : Nat) : cut b 8 = 0 := by
  unfold cut
  rw [show (65536 : Nat) = 2 ^ (8 + 8) from rfl]
  exact Nat.mul_mod_left _ _
noncomputable def ploop : Nat → Nat → Nat
  | 0, v => v
  | n + 1, v => ploop n (pstep v)
noncomputable def lloop (b : Nat) : Nat → Nat → Nat → Nat
  | 0, _, f => f
  | n + 1, k, f => lloop b n (k + 1) (lstep b k f)
theorem loops (b : Nat) : ∀ (n k l : Nat), n + k = 8 → l < 65536 → ploop n (l ^^^ cut b k) = lloop b n k l
  | 0, k, l, h, _ => by
    have : k = 8 := by omega
    subst this
    rw [cut_8, Nat.xor_zero]
    rfl
  | n + 1, k, l, h, hl => by
    show ploop n (pstep (l ^^^ cut b k)) = lloop b n (k + 1) (lstep b k l)
    rw [both hl (by omega)]
    exact loops b n (k + 1) _ (by omega) (lstep_lt b k l)
/-- a byte, both ways -/
theorem byte {b v : Nat} (hb : b < 256) (hv : v < 65536) : ploop 8 (v ^^^ (b * 2 ^ 8)) = lloop b 8 0 v := by
  have e : b * 2 ^ 8 = cut b 0 := by
    unfold cut
    rw [Nat.mod_eq_of_lt (by show b * 256 < 65536; omega)]
  rw [e]
  exact loops b 8 0 v rfl hv
theorem small {n : Nat} (h : n ≤ 100000) : n ≤ sizeLine := Nat.le_of_lt (small1000 h)
theorem nf {b : Bool} (h : ¬ b = true) : b = false := by cases b <;> simp at h ⊢
noncomputable def natV (ns : List Nat) : List V := ns.map fun (n : Nat) => V.int (n : Int)
theorem natV_len (ns : List Nat) : (natV ns).length = ns.length := by unfold natV; rw [List.length_map]
theorem or_split : ∀ (n x y : Nat), x < 2 ^ n → y < 2 ^ n → x ||| y = (x &&& y) + (x ^^^ y)
  | 0, x, y, hx, hy => by
    have e1 : x = 0 := by omega
    have e2 : y = 0 := by omega
    rw [e1, e2]
    rfl
  | n + 1, x, y, hx, hy => by
    rw [Nat.pow_succ] at hx hy
    have ih := or_split n (x / 2) (y / 2) (by omega) (by omega)
    have o1 := Nat.or_div_two (a := x) (b := y)
    have a1 := Nat.and_div_two (a := x) (b := y)
    have x1 := Nat.xor_div_two (a := x) (b := y)
    have o2 : (x ||| y) % 2 = (x % 2 ||| y % 2) := Nat.or_mod_two_pow (n := 1)
    have a2 : (x &&& y) % 2 = (x % 2 &&& y % 2) := Nat.and_mod_two_pow (n := 1)
    have x2 : (x ^^^ y) % 2 = (x % 2 ^^^ y % 2) := Nat.xor_mod_two_pow (n := 1)
    have hx2 : x % 2 = 0 ∨ x % 2 = 1 := by omega
    have hy2 : y % 2 = 0 ∨ y % 2 = 1 := by omega
    rcases hx2 with hx2 | hx2 <;> rcases hy2 with hy2 | hy2 <;> rw [hx2, hy2] at o2 a2 x2
    · have o3 : (x ||| y) % 2 = 0 := o2
      have a3 : (x &&& y) % 2 = 0 := a2
      have x3 : (x ^^^ y) % 2 = 0 := x2
      omega
    · have o3 : (x ||| y) % 2 = 1 := o2
      have a3 : (x &&& y) % 2 = 0 := a2
      have x3 : (x ^^^ y) % 2 = 1 := x2
      omega
    · have o3 : (x ||| y) % 2 = 1 := o2
      have a3 : (x &&& y) % 2 = 0 := a2
      have x3 : (x ^^^ y) % 2 = 1 := x2
      omega
    · have o3 : (x ||| y) % 2 = 1 := o2
      have a3 : (x &&& y) % 2 = 1 := a2
      have x3 : (x ^^^ y) % 2 = 0 := x2
      omega
theorem bxor (x y : Nat) : Builtin.bitXor (x : Int) (y : Int) = ((x ^^^ y : Nat) : Int) := by
  have hand : Spec.bitAnd (x : Int) (y : Int) = ((x &&& y : Nat) : Int) := by
    unfold Spec.bitAnd
    rw [decide_eq_true (Int.natCast_nonneg x), decide_eq_true (Int.natCast_nonneg y)]
    rfl
  have hor : Spec.bitOr (x : Int) (y : Int) = ((x ||| y : Nat) : Int) := by
    unfold Spec.bitOr Spec.bitAnd Spec.bitNot
    rw [decide_eq_false (by omega), decide_eq_false (by omega)]
    show -(-((((- (-(x : Int) - 1) - 1).toNat ||| (- (-(y : Int) - 1) - 1).toNat : Nat)) : Int) - 1) - 1 = _
    rw [show (- (-(x : Int) - 1) - 1).toNat = x by omega, show (- (-(y : Int) - 1) - 1).toNat = y by omega]
    omega
  show Spec.bitOr (x : Int) (y : Int) - Spec.bitAnd (x : Int) (y : Int) = _
  rw [hand, hor, or_split (x + y + 1) x y (Nat.lt_of_lt_of_le (by omega : x < x + y + 1) (Nat.le_of_lt Nat.lt_two_pow_self)) (Nat.lt_of_lt_of_le (by omega : y < x + y + 1) (Nat.le_of_lt Nat.lt_two_pow_self))]
  omega
/-- the check, bit by bit -/
noncomputable def crcL (bs : List Nat) : Nat := bs.foldl (fun f b => lloop b 8 0 f) 65535
theorem lloop_lt (b : Nat) : ∀ (n k f : Nat), f < 65536 → lloop b n k f < 65536
  | 0, _, _, h => h
  | n + 1, k, f, _ => lloop_lt b n (k + 1) _ (lstep_lt b k f)
theorem lloop_snoc (b : Nat) : ∀ (n k f : Nat), lloop b (n + 1) k f = lstep b (k + n) (lloop b n k f)
  | 0, k, f => rfl
  | n + 1, k, f => by
    show lloop b (n + 1) (k + 1) (lstep b k f) = _
    rw [lloop_snoc b n (k + 1)]
    rw [show k + 1 + n = k + (n + 1) by omega]
    rfl
theorem ploop_snoc : ∀ (n v : Nat), ploop (n + 1) v = pstep (ploop n v)
  | 0, v => rfl
  | n + 1, v => by
    show ploop (n + 1) (pstep v) = _
    rw [ploop_snoc n (pstep v)]
    rfl
theorem crcL_lt (bs : List Nat) : crcL bs < 65536 := by
  have aux : ∀ (bs : List Nat) (f : Nat), f < 65536 → bs.foldl (fun f b => lloop b 8 0 f) f < 65536 := by
    intro bs
    induction bs with
    | nil => intro f h; exact h
    | cons b r ih => intro f h; exact ih _ (lloop_lt b 8 0 f h)
  exact aux bs 65535 (by decide)
theorem crcL_snoc (bs : List Nat) (b : Nat) : crcL (bs ++ [b]) = lloop b 8 0 (crcL bs) := by
  unfold crcL
  rw [List.foldl_append]
  rfl
section
variable {P : Program} {w : World} {K : PySem.W.Frag} {mg : Str → Option Value} {base : Heap} {a : Ad}
noncomputable def sp_l_check : Sp := fun vs H Q _ => ∃ (p : Addr) (bs : List Nat), vs = [.ref p] ∧ H p = some (.lst (natV bs)) ∧ (∀ b ∈ bs, b < 256) ∧ Q (.int ((crcL bs : Nat) : Int)) H
set_option maxHeartbeats 1000000 in
theorem ok_l_check (T : Tx K mg a) : FnOk P w K mg base CX0 1 a.f_l_check a.d_l_check ["_law_row"] sp_l_check := by
  refine T.d_l_check.F.ok sc_l_check (fun vs H Q E h => ?_) (fun cdv A outer s H vs Q E hr h => ?_)
  · obtain ⟨p, ns, rfl, _⟩ := h
    rfl
  · obtain ⟨p, bs, rfl, hp, hb, q⟩ := h
    refine ⟨_, pss_cons (ps_set (i := 1) sc_l_check.nd rfl (Or.inl rfl) pe_int)
      (pss_cons (ps_for PassesOwn.never rfl (pi_list (pv 0)) (pg_name (i := 2) sc_l_check.nd rfl (Or.inl rfl))
        (pss_one (ps_for PassesOwn.never rfl (pi_range1 rfl T.range (pa_cons pe_int pa_nil)) (pg_name (i := 3) sc_l_check.nd rfl (Or.inl rfl))
            (pss_cons (ps_set (i := 4) sc_l_check.nd rfl (Or.inl rfl) (pe_op op_mod (pe_op op_add (pe_op op_fdiv (pv 1) pe_int) (pe_op op_shr (pv 2) (pe_op op_sub pe_int (pv 3)))) pe_int))
              (pss_cons (ps_set (i := 1) sc_l_check.nd rfl (Or.inl rfl) (pe_op op_mod (pe_op op_mul (pv 1) pe_int) pe_int))
              (pss_one (ps_if (pt_cmpR op_eq (pv 4) pe_int (nomark _))
                (pss_one (ps_set (i := 1) sc_l_check.nd rfl (Or.inl rfl) (pe_op op_xor (pv 1) pe_int)))
                pss_nil)))))))
      (pss_one (ps_ret (pv 1)))), ?_⟩
    refine ⟨_, rfl, p, rfl, ⟨_, SqL.of hp⟩, ?_⟩
    refine for_list (xs := natV bs) (fun i σ H' => i ≤ bs.length ∧ H' = H ∧ ∃ v2 v3 v4, σ = [some (.ref p), some (.int ((crcL (bs.take i) : Nat) : Int)), v2, v3, v4]) ⟨Nat.zero_le _, rfl, none, none, none, rfl⟩ (fun i σ H' _ h => by obtain ⟨_, rfl, _⟩ := h; exact SqL.of hp) ?_ ?_
    · rintro i x σ H' hx ⟨hil, rfl, v2, v3, v4, rfl⟩
      unfold natV at hx
      rw [List.getElem?_map] at hx
      cases hn : bs[i]? with
      | none => rw [hn] at hx; cases hx
      | some b =>
        rw [hn] at hx
        cases hx
        have hi : i < bs.length := (List.getElem?_eq_some_iff.mp hn).1
        have hb256 := hb b (List.mem_of_getElem? hn)
        have et : bs.take (i + 1) = bs.take i ++ [b] := by rw [List.take_add_one, hn]; rfl
        have hcl := crcL_lt (bs.take i)
        generalize hv : crcL (bs.take i) = v at hcl
        refine ⟨8, rfl, by decide, by decide, for_range (n := 8) (fun k σ H'' => H'' = H' ∧ ∃ v3 v4, σ = [some (.ref p), some (.int ((lloop b k 0 v : Nat) : Int)), some (.int b), v3, v4]) ⟨rfl, _, _, rfl⟩ ?_ ?_⟩
        · rintro k σ H'' hk ⟨rfl, v3, v4, rfl⟩
          have hf := lloop_lt b k 0 v hcl
          generalize hfv : lloop b k 0 v = f at hf
          have est : lloop b (k + 1) 0 v = lstep b k f := by rw [lloop_snoc, hfv, Nat.zero_add]
          have eout : ((f : Int) / 32768 + (b : Int) / 2 ^ (7 - (0 + (k : Int))).toNat) % 2 = (((f / 32768 + b / 2 ^ (7 - k)) % 2 : Nat) : Int) := by
            rw [show (7 - (0 + (k : Int))).toNat = 7 - k by omega]
            have : (b : Int) / 2 ^ (7 - k) = ((b / 2 ^ (7 - k) : Nat) : Int) := by
              rw [Int.natCast_ediv]; norm_cast
            rw [this]
            omega
          have edbl : (f : Int) * 2 % 65536 = ((f * 2 % 65536 : Nat) : Int) := by omega
          refine ⟨_, rfl, _, _, rfl, rfl, ⟨by decide, by decide⟩, _, rfl, _, rfl, _, _, rfl, rfl, _, _, rfl, rfl, by omega, _, _, rfl, rfl, _, _, rfl, rfl, (by show (0 : Int) < 2; decide), ?_⟩
          refine ⟨_, rfl, _, _, rfl, rfl, .inl ⟨by omega, by omega⟩, _, _, rfl, rfl, (by show (0 : Int) < 65536; decide), ?_⟩
          refine ⟨_, rfl, rfl, _, rfl, ite2 (fun ho => ?_) (fun ho => ?_)⟩
          · have ho' : (f / 32768 + b / 2 ^ (7 - k)) % 2 = 1 := by
              have h1 := of_decide_eq_true ho
              injection h1 with h2
              have h3 : ((f : Int) / 32768 + (b : Int) / 2 ^ (7 - (0 + (k : Int))).toNat) % 2 = 1 := h2
              rw [eout] at h3
              omega
            refine ⟨_, rfl, _, _, rfl, rfl, rfl, some (.int (0 + (k : Int))), some (.int (((f : Int) / 32768 + (b : Int) / 2 ^ (7 - (0 + (k : Int))).toNat) % 2)), ?_⟩
            rw [est]
            unfold lstep
            rw [if_pos ho']
            show [some (V.ref p), some (.int (Builtin.bitXor ((f : Int) * 2 % 65536) 4129)), some (.int b), some (.int (0 + (k : Int))), some (.int (((f : Int) / 32768 + (b : Int) / 2 ^ (7 - (0 + (k : Int))).toNat) % 2))] = _
            rw [edbl, show (4129 : Int) = ((4129 : Nat) : Int) from rfl, bxor]
          · have ho' : ¬ (f / 32768 + b / 2 ^ (7 - k)) % 2 = 1 := fun z => ho (decide_eq_true (by
              show V.int (((f : Int) / 32768 + (b : Int) / 2 ^ (7 - (0 + (k : Int))).toNat) % 2) = V.int 1
              rw [eout, z]
              rfl))
            refine ⟨rfl, some (.int (0 + (k : Int))), some (.int (((f : Int) / 32768 + (b : Int) / 2 ^ (7 - (0 + (k : Int))).toNat) % 2)), ?_⟩
            rw [est]
            unfold lstep
            rw [if_neg ho']
            show [some (V.ref p), some (.int ((f : Int) * 2 % 65536)), some (.int b), some (.int (0 + (k : Int))), some (.int (((f : Int) / 32768 + (b : Int) / 2 ^ (7 - (0 + (k : Int))).toNat) % 2))] = _
            rw [edbl]
        · rintro σ H'' ⟨rfl, v3, v4, rfl⟩
          refine ⟨hi, rfl, some (.int b), v3, v4, ?_⟩
          rw [et, crcL_snoc, hv]
    · rintro σ H' ⟨_, rfl, v2, v3, v4, e⟩
      rw [natV_len, List.take_length] at e
      subst e
      exact ⟨_, rfl, q⟩
end
inductive Th (K : PySem.W.Frag) (H : Hp) : V → Prop where
  | non : Th K H .non
  | bl (b : Bool) : Th K H (.bl b)
  | int (i : Int) : Th K H (.int i)
  | str (z : Str) : Th K H (.str z)
  | obj {p : Addr} {t : String} (h : TyOf K H (.ref p) (.type t)) (ht : t = "list" ∨ t = "tuple" ∨ t = "dict") : Th K H (.ref p)
noncomputable def isI : V → Bool
  | .int _ => true
  | .bl _ => true
  | _ => false
noncomputable def isB : V → Bool
  | .bl _ => true
  | _ => false
noncomputable def isS : V → Bool
  | .str _ => true
  | _ => false
theorem TyOf.same {K : PySem.W.Frag} {H H' : Hp} {p : Addr} {t : String} (s : Same H H') (h : TyOf K H (.ref p) (.type t)) : TyOf K H' (.ref p) (.type t) := by
  cases h with
  | lst e => exact .lst (s _ _ e)
  | frz e => exact .frz (s _ _ e)
  | tup e => exact .tup (s _ _ e)
  | dK e => exact .dK (s _ _ e)
  | dT e => exact .dT (s _ _ e)
theorem Th.same {K : PySem.W.Frag} {H H' : Hp} {x : V} (s : Same H H') (h : Th K H x) : Th K H' x := by
  cases h with
  | non => exact .non
  | bl b => exact .bl b
  | int i => exact .int i
  | str z => exact .str z
  | obj h ht => exact .obj (TyOf.same s h) ht
section
variable {P : Program} {w : World} {K : PySem.W.Frag} {mg : Str → Option Value} {base : Heap} {a : Ad}
theorem th_kit (T : Tx K mg a) {H : Hp} {x : V} (h : Th K H x) : ∃ t, TyOf K H x t ∧ PySem.W.kitOne K t (.type "int") = some (isI x) ∧ PySem.W.kitOne K t (.type "bool") = some (isB x) := by
  cases h with
  | non => exact ⟨_, .non, T.q_NoneType_int, T.q_NoneType_bool⟩
  | bl b => exact ⟨_, .bl b, T.q_bool_int, kit_self⟩
  | int i => exact ⟨_, .int i, kit_self, T.q_int_bool⟩
  | str z => exact ⟨_, .str z, T.q_str_int, T.q_str_bool⟩
  | obj h ht =>
    rcases ht with rfl | rfl | rfl
    · exact ⟨_, h, T.q_list_int, T.q_list_bool⟩
    · exact ⟨_, h, T.q_tuple_int, T.q_tuple_bool⟩
    · exact ⟨_, h, T.q_dict_int, T.q_dict_bool⟩
noncomputable def amV : V → Int → Int → Bool
  | .int i, l, m => decide (l ≤ i) && decide (i ≤ m)
  | _, _, _ => false
theorem amV_int (i l m : Int) : amV (.int i) l m = (decide (l ≤ i) && decide (i ≤ m)) := rfl
noncomputable def sp_is_whole (K : PySem.W.Frag) : Sp := fun vs H Q _ => ∃ x, vs = [x] ∧ Th K H x ∧ Q (.bl (isI x && !isB x)) H
noncomputable def sp_is_among (K : PySem.W.Frag) : Sp := fun vs H Q _ => ∃ x l m, vs = [x, .int l, .int m] ∧ Th K H x ∧ Q (.bl (amV x l m)) H
theorem ok_is_whole (T : Tx K mg a) : FnOk P w K mg base CX0 1 a.f_is_whole a.d_is_whole ["thing"] (sp_is_whole K) := by
  refine T.d_is_whole.F.ok sc_is_whole (fun vs H Q E h => ?_) (fun cdv A outer s H vs Q E hr h => ?_)
  · obtain ⟨x, rfl, _⟩ := h
    rfl
  · obtain ⟨x, rfl, hx, q⟩ := h
    obtain ⟨t, ty, k1, k2⟩ := th_kit T hx
    refine ⟨_, pss_one (ps_ret (pe_and (pe_callB (call_isinstK K rfl) rfl T.isinstance bt_isinstance (pa_cons (pv 0) (pa_cons (pty T.int bt_int) pa_nil))) (pe_one (pe_not (pe_callB (call_isinstK K rfl) rfl T.isinstance bt_isinstance (pa_cons (pv 0) (pa_cons (pty T.bool bt_bool) pa_nil))))))), ?_⟩
    refine ⟨_, rfl, x, .ty "int", t, _, _, rfl, ty, rfl, k1, _, rfl, ite2 (fun h => ?_) (fun h => ?_)⟩
    · rw [h, Bool.true_and] at q
      exact ⟨_, rfl, x, .ty "bool", t, _, _, rfl, ty, rfl, k2, _, rfl, q⟩
    · have h' : isI x = false := by simpa using h
      rw [h', Bool.false_and] at q
      exact q
theorem amV_of {x : V} {l m : Int} (h : isI x = true ∧ isB x = false) : ∃ i, x = .int i := by
  cases x <;> simp [isI, isB] at h
  exact ⟨_, rfl⟩
theorem ok_is_among (T : Tx K mg a) : FnOk P w K mg base CX0 2 a.f_is_among a.d_is_among ["thing", "least", "most"] (sp_is_among K) := by
  have G_is_whole : FnOk P w K mg base CX0 1 a.f_is_whole a.d_is_whole ["thing"] (sp_is_whole K) := ok_is_whole T
  refine T.d_is_among.F.ok sc_is_among (fun vs H Q E h => ?_) (fun cdv A outer s H vs Q E hr h => ?_)
  · obtain ⟨x, l, m, rfl, _⟩ := h
    rfl
  · obtain ⟨x, l, m, rfl, hx, q⟩ := h
    refine ⟨_, pss_one (ps_ret (pe_and (pe_call G_is_whole (hr.mono (by decide)) rfl T.d_is_whole.m T.d_is_whole.F.kp T.d_is_whole.b .nil pass0 (pa_cons (pv 0) pa_nil)) (pe_one (pe_chain op_le op_le (pv 1) (pv 0) (pv 2))))), ?_⟩
    refine ⟨_, rfl, x, rfl, hx, _, rfl, ite2 (fun h => ?_) (fun h => ?_)⟩
    · obtain ⟨i, rfl⟩ := amV_of (l := l) (m := m) (by simpa using h)
      refine ⟨_, rfl, _, rfl, _, _, rfl, rfl, _, rfl, ite2 (fun h1 => ?_) (fun h1 => ?_)⟩
      · refine ⟨_, rfl, _, _, rfl, rfl, ?_⟩
        rw [show amV (.int i) l m = decide (i ≤ m) by rw [amV_int, h1, Bool.true_and]] at q
        exact q
      · rw [show amV (.int i) l m = false by rw [amV_int, show decide (l ≤ i) = false by simpa using h1, Bool.false_and]] at q
        exact q
    · rw [show amV x l m = false by cases x <;> simp [isI, isB] at h <;> rfl] at q
      exact q
end
open PySem L2
end K6

namespace K6
open PySem L2
theorem PI.or {X : Cx} {tg l : Expr} {w1 w2 : TI} (h1 : PI X tg l w1) (h2 : PI X tg l w2) : PI X tg l (fun σ H R => w1 σ H R ∨ w2 σ H R) := by
  intro pins s σ H R I h
  rcases h with h | h
  · exact h1 pins s σ H R I h
  · exact h2 pins s σ H R I h
theorem comp_listM {K : PySem.W.Frag} {l : Addr} {xs : List V} {σ0 : L2.St} {g : TG} {te : TE} {Q : VK} {H1 : Hp} (f : V → V) (hq : SqL K H1 l xs) (hz : xs.length ≤ 100000)
    (hs : ∀ x ∈ xs, ∀ (H : Hp) (R : VK), Same H1 H → R (f x) H → g x σ0 H fun σ2 H2 => Sub σ0 σ2 ∧ te σ2 H2 R)
    (hd : ∀ D, H1 D = none → Q (.ref D) (upd H1 D (.lst (xs.map f)))) : CompW (Itl K l) H1 σ0 g tTrue te Q := by
  intro D hD
  refine ⟨fun i m ys H => m = xs.length - i ∧ i ≤ xs.length ∧ ys = (xs.take i).map f ∧ H = upd H1 D (.lst ys), ⟨xs.length, by simp, Nat.zero_le _, rfl, rfl⟩, ?_⟩
  rintro i m ys H ⟨rfl, hi, rfl, rfl⟩
  refine ⟨upd_same, ?_⟩
  have hL : SqL K (upd H1 D (.lst ((xs.take i).map f))) l xs := (sameU hD).seq hq
  by_cases hlt : i < xs.length
  · refine .inr ⟨⟨_, xs[i], hL, List.getElem?_eq_getElem hlt⟩, fun x H' y => ?_⟩
    obtain ⟨e, y⟩ := y
    subst e
    have hx := y _ hL
    refine hs x (List.mem_of_getElem? hx) _ _ (sameU hD) ?_
    refine ⟨upd_same, ?_, xs.length - (i + 1), Nat.sub_succ_lt_self _ _ hlt, rfl, hlt, ?_, by rw [upd_upd]⟩
    · rw [List.length_map, List.length_take]
      exact small1000 (by omega)
    · rw [List.take_add_one, hx, List.map_append]
      rfl
  · have e : i = xs.length := by omega
    subst e
    refine .inl ⟨⟨_, hL, Nat.le_refl _⟩, ?_⟩
    rw [List.take_length]
    exact hd D hD
theorem comp_tupM {K : PySem.W.Frag} {l : Addr} {xs : List V} {σ0 : L2.St} {g : TG} {te : TE} {Q : VK} {H1 : Hp} (f : V → V) (hq : SqT K H1 l xs) (hz : xs.length ≤ 100000)
    (hs : ∀ x ∈ xs, ∀ (H : Hp) (R : VK), Same H1 H → R (f x) H → g x σ0 H fun σ2 H2 => Sub σ0 σ2 ∧ te σ2 H2 R)
    (hd : ∀ D, H1 D = none → Q (.ref D) (upd H1 D (.lst (xs.map f)))) : CompW (Itt K l) H1 σ0 g tTrue te Q := by
  intro D hD
  refine ⟨fun i m ys H => m = xs.length - i ∧ i ≤ xs.length ∧ ys = (xs.take i).map f ∧ H = upd H1 D (.lst ys), ⟨xs.length, by simp, Nat.zero_le _, rfl, rfl⟩, ?_⟩
  rintro i m ys H ⟨rfl, hi, rfl, rfl⟩
  refine ⟨upd_same, ?_⟩
  have hL : SqT K (upd H1 D (.lst ((xs.take i).map f))) l xs := (sameU hD).seqT hq
  by_cases hlt : i < xs.length
  · refine .inr ⟨⟨_, xs[i], hL, List.getElem?_eq_getElem hlt⟩, fun x H' y => ?_⟩
    obtain ⟨e, y⟩ := y
    subst e
    have hx := y _ hL
    refine hs x (List.mem_of_getElem? hx) _ _ (sameU hD) ?_
    refine ⟨upd_same, ?_, xs.length - (i + 1), Nat.sub_succ_lt_self _ _ hlt, rfl, hlt, ?_, by rw [upd_upd]⟩
    · rw [List.length_map, List.length_take]
      exact small1000 (by omega)
    · rw [List.take_add_one, hx, List.map_append]
      rfl
  · have e : i = xs.length := by omega
    subst e
    refine .inl ⟨⟨_, hL, Nat.le_refl _⟩, ?_⟩
    rw [List.take_length]
    exact hd D hD
theorem kit_lt {K : PySem.W.Frag} {t : Value} {b1 b2 : Bool} (h1 : PySem.W.kitOne K t (.type "list") = some b1) (h2 : PySem.W.kitOne K t (.type "tuple") = some b2) : PySem.W.kitAny K t (["list", "tuple"].map Value.type) = some (b1 || b2) := by
  show PySem.W.kitAny K t [.type "list", .type "tuple"] = _
  unfold PySem.W.kitAny
  rw [h1]
  cases b1 with
  | true => rfl
  | false =>
    show PySem.W.kitAny K t [.type "tuple"] = _
    unfold PySem.W.kitAny
    rw [h2]
    cases b2 with
    | true => rfl
    | false => rfl
theorem ndY : ((["byte"] : List Str) ++ ([] : List Str)).Nodup := by decide +kernel
section
variable {P : Program} {w : World} {K : PySem.W.Frag} {mg : Str → Option Value} {base : Heap} {a : Ad}
/-- what may be handed in as a row, and whether it is one -/
noncomputable def Rw (K : PySem.W.Frag) (H : Hp) (x : V) (good : Bool) : Prop :=
  (∃ (p : Addr) (xs : List V), x = .ref p ∧ (H p = some (.lst xs) ∨ H p = some (.tup xs)) ∧ xs.length ≤ 100000 ∧ (∀ v ∈ xs, Th K H v) ∧ good = xs.all fun v => amV v 0 255) ∨
  (good = false ∧ ∃ t, TyOf K H x t ∧ PySem.W.kitOne K t (.type "list") = some false ∧ PySem.W.kitOne K t (.type "tuple") = some false ∧ (∀ H', Same H H' → TyOf K H' x t))
noncomputable def sp_need_row (K : PySem.W.Frag) (br : Addr) : Sp := fun vs H Q E => ∃ x good, vs = [x] ∧ Rw K H x good ∧ ∀ H', Same H H' → if good = true then Q .non H' else E (.ref br) none H'
noncomputable def sp_is_row (K : PySem.W.Frag) : Sp := fun vs H Q _ => ∃ x good, vs = [x] ∧ Rw K H x good ∧ ∀ H', Same H H' → Q (.bl good) H'
set_option maxHeartbeats 1000000 in
theorem ok_is_row (T : Tx K mg a) : FnOk P w K mg base CX0 3 a.f_is_row a.d_is_row ["row"] (sp_is_row K) := by
  have G_is_among : FnOk P w K mg base CX0 2 a.f_is_among a.d_is_among ["thing", "least", "most"] (sp_is_among K) := ok_is_among T
  refine T.d_is_row.F.ok sc_is_row (fun vs H Q E h => ?_) (fun cdv A outer s H vs Q E hr h => ?_)
  · obtain ⟨x, good, rfl, _⟩ := h
    rfl
  · obtain ⟨x, good, rfl, hx, q⟩ := h
    refine ⟨_, pss_one (ps_ret (pe_and (pe_callB (call_isinstT K rfl) rfl T.isinstance bt_isinstance (pa_cons (pv 0) (pa_cons (pe_tup (pa_cons (pty T.list bt_list) (pa_cons (pty T.tuple bt_tuple) pa_nil))) pa_nil)))
      (pe_one (pe_callB (call_all_bl rfl) rfl T.all bt_all (pa_cons (pe_comp (ts := ["byte"]) (xs := []) (js := []) rfl ⟨rfl, rfl, by decide +kernel, by decide +kernel, freeIn rfl⟩ .nil (by decide +kernel) (PI.or (pi_list (pv 0)) (pi_tup (pv 0)))
          (fun C s₀ H₀ fp => pg_name (X := cxC _ _ _ C s₀ H₀ fp) (i := 0) ndY rfl (Or.inl rfl) (Or.inr rfl))
          (fun C s₀ H₀ fp => pif_nil (X := cxC _ _ _ C s₀ H₀ fp))
          (fun C s₀ H₀ fp => pe_call (X := cxC _ _ _ C s₀ H₀ fp) G_is_among (hr.mono (by decide)) rfl T.d_is_among.m T.d_is_among.F.kp T.d_is_among.b .nil pass0 (pa_cons (pv 0) (pa_cons pe_int (pa_cons pe_int pa_nil))))) pa_nil))))), ?_⟩
    refine ⟨_, rfl, small (by show 2 ≤ 100000; decide), fun tp htp => ?_⟩
    have s1 : Same H (upd H tp (.tup (["list", "tuple"].map V.ty))) := sameU htp
    rcases hx with ⟨p, xs, rfl, hp, hz, hth, rfl⟩ | ⟨rfl, t, ty, k1, k2, ty'⟩
    rotate_left
    · exact ⟨x, tp, t, _, ["list", "tuple"], rfl, upd_same, ty' _ s1, kit_lt k1 k2, _, rfl, iteF (q _ s1)⟩
    have emap : xs.map (fun v => V.bl (amV v 0 255)) = (xs.map fun v => amV v 0 255).map V.bl := by rw [List.map_map]; rfl
    have eall : (xs.map fun v => amV v 0 255).all id = xs.all fun v => amV v 0 255 := by rw [List.all_map]; rfl
    have hs : ∀ x ∈ xs, ∀ (Hx : Hp) (R : VK), Same (upd H tp (.tup (["list", "tuple"].map V.ty))) Hx → R (V.bl (amV x 0 255)) Hx → sp_is_among K [x, .int 0, .int 255] Hx R E0 := fun x hx Hx R sx hR => ⟨x, 0, 255, rfl, (hth x hx).same (s1.trans sx), hR⟩
    have fin : ∀ D, (upd H tp (.tup (["list", "tuple"].map V.ty))) D = none → Q (.bl (xs.all fun v => amV v 0 255)) (upd (upd H tp (.tup (["list", "tuple"].map V.ty))) D (.lst ((xs.map fun v => amV v 0 255).map V.bl))) := fun D hD => q _ (s1.trans (sameU hD))
    rcases hp with hp | hp
    · refine ⟨.ref p, tp, .type "list", _, ["list", "tuple"], rfl, upd_same, .lst (s1 _ _ hp), kit_lt kit_self T.q_list_tuple, _, rfl, iteT (.inl ⟨_, rfl, p, rfl, ⟨_, SqL.of (s1 _ _ hp)⟩, comp_listM (fun v => .bl (amV v 0 255)) (SqL.of (s1 _ _ hp)) hz (fun x hx Hx R sx hR => ⟨Sub.set rfl, _, rfl, hs x hx Hx R sx hR⟩) fun D hD => ?_⟩)⟩
      rw [emap]
      refine ⟨D, _, rfl, upd_same, ?_⟩
      rw [eall]
      exact fin D hD
    · refine ⟨.ref p, tp, .type "tuple", _, ["list", "tuple"], rfl, upd_same, .tup (s1 _ _ hp), kit_lt T.q_tuple_list kit_self, _, rfl, iteT (.inr ⟨_, rfl, p, rfl, ⟨_, SqT.of (s1 _ _ hp)⟩, comp_tupM (fun v => .bl (amV v 0 255)) (SqT.of (s1 _ _ hp)) hz (fun x hx Hx R sx hR => ⟨Sub.set rfl, _, rfl, hs x hx Hx R sx hR⟩) fun D hD => ?_⟩)⟩
      rw [emap]
      refine ⟨D, _, rfl, upd_same, ?_⟩
      rw [eall]
      exact fin D hD
theorem ok_need_row (T : Tx K mg a) : FnOk P w K mg base (XC P w true) 4 a.f_need_row a.d_need_row ["row"] (sp_need_row K a.BadRow) := by
  have G_is_row : FnOk P w K mg base CX0 3 a.f_is_row a.d_is_row ["row"] (sp_is_row K) := ok_is_row T
  refine T.d_need_row.F.okX sc_need_row (fun vs H Q E h => ?_) (fun cdv A outer s H vs Q E hr h => ?_)
  · obtain ⟨x, good, rfl, _⟩ := h
    rfl
  · obtain ⟨x, good, rfl, hx, q⟩ := h
    refine ⟨_, pss_one (ps_if (pt_not (pt_val (pe_call G_is_row (hr.mono (by decide)) rfl T.d_is_row.m T.d_is_row.F.kp T.d_is_row.b .nil pass0 (pa_cons (pv 0) pa_nil))))
        (pss_one (ps_raise rfl rfl T.m_BadRow T.e_BadRow PySem.F.excBase_ValueError (by decide +kernel) raises_fn (pa_cons pe_str pa_nil)))
        pss_nil), ?_⟩
    refine ⟨_, rfl, x, good, rfl, hx, fun H' hs => ⟨_, rfl, ?_⟩⟩
    have := q H' hs
    cases good with
    | true =>
      rw [if_pos rfl] at this
      exact iteF this
    | false =>
      rw [if_neg Bool.false_ne_true] at this
      exact iteT ⟨by show 1 ≤ sizeLine; decide, this⟩
end
theorem pstep_lt {v : Nat} (h : v < 65536) : pstep v < 65536 := by
  unfold pstep
  split
  · exact xor_lt (by omega) (by decide)
  · omega
theorem ploop_lt : ∀ (n v : Nat), v < 65536 → ploop n v < 65536
  | 0, _, h => h
  | n + 1, v, h => ploop_lt n _ (pstep_lt h)
section
variable {P : Program} {w : World} {K : PySem.W.Frag} {mg : Str → Option Value} {base : Heap} {a : Ad}
/-- a row of bytes, a list or a tuple -/
noncomputable def Row (H : Hp) (x : V) (bs : List Nat) : Prop := ∃ p, x = .ref p ∧ (H p = some (.lst (natV bs)) ∨ H p = some (.tup (natV bs))) ∧ bs.length ≤ 100000 ∧ ∀ b ∈ bs, b < 256
theorem Row.rw {H : Hp} {x : V} {bs : List Nat} (h : Row H x bs) : Rw K H x true := by
  obtain ⟨p, rfl, hp, hl, hb⟩ := h
  refine .inl ⟨p, natV bs, rfl, hp, by rw [natV_len]; exact hl, fun v hv => ?_, ?_⟩
  · obtain ⟨b, _, rfl⟩ := List.mem_map.mp hv
    exact .int _
  · symm
    rw [List.all_eq_true]
    intro v hv
    obtain ⟨b, hbm, rfl⟩ := List.mem_map.mp hv
    have := hb b hbm
    show amV (.int (b : Int)) 0 255 = true
    rw [amV_int, decide_eq_true (show (0 : Int) ≤ (b : Int) by omega), decide_eq_true (show (b : Int) ≤ 255 by omega)]
    rfl
noncomputable def sp_check (K : PySem.W.Frag) (br : Addr) : Sp := fun vs H Q E => ∃ x, vs = [x] ∧ ((∃ bs, Row H x bs ∧ ∀ H', Same H H' → Q (.int ((crcL bs : Nat) : Int)) H') ∨ (Rw K H x false ∧ ∀ H', Same H H' → E (.ref br) none H'))
set_option maxHeartbeats 1000000 in
theorem ok_check (T : Tx K mg a) : FnOk P w K mg base (XC P w true) 5 a.f_check a.d_check ["row"] (sp_check K a.BadRow) := by
  have G_need_row : FnOk P w K mg base (XC P w true) 4 a.f_need_row a.d_need_row ["row"] (sp_need_row K a.BadRow) := ok_need_row T
  refine T.d_check.F.okX sc_check (fun vs H Q E h => ?_) (fun cdv A outer s H vs Q E hr h => ?_)
  · obtain ⟨x, rfl, _⟩ := h
    rfl
  · obtain ⟨x, rfl, h⟩ := h
    obtain ⟨_, C_CHECK_START⟩ := T.c_CHECK_START
    obtain ⟨_, C_CHECK_END⟩ := T.c_CHECK_END
    obtain ⟨_, C_CHECK_LAID_OVER⟩ := T.c_CHECK_LAID_OVER
    refine ⟨_, pss_cons (ps_expr (pe_call G_need_row (hr.mono (by decide)) rfl T.d_need_row.m T.d_need_row.F.kp T.d_need_row.b .nil (pass_fn (fun z => z)) (pa_cons (pv 0) pa_nil)))
      (PSs.nox (pss_cons (ps_set (i := 1) sc_check.nd rfl (Or.inl rfl) (pgi C_CHECK_START))
      (pss_cons (ps_for PassesOwn.never rfl (PI.or (pi_list (pv 0)) (pi_tup (pv 0))) (pg_name (i := 2) sc_check.nd rfl (Or.inl rfl))
        (pss_cons (ps_set (i := 1) sc_check.nd rfl (Or.inl rfl) (pe_op op_xor (pv 1) (pe_op op_shl (pv 2) pe_int)))
          (pss_one (ps_for PassesOwn.never rfl (pi_range1 rfl T.range (pa_cons pe_int pa_nil)) (pg_name (i := 3) sc_check.nd rfl (Or.inl rfl))
            (pss_cons (ps_set (i := 1) sc_check.nd rfl (Or.inl rfl) (pe_op op_shl (pv 1) pe_int))
              (pss_one (ps_if (pt_cmpR op_ge (pv 1) (pgi C_CHECK_END) (nomark _))
                (pss_one (ps_set (i := 1) sc_check.nd rfl (Or.inl rfl) (pe_op op_xor (pe_op op_sub (pv 1) (pgi C_CHECK_END)) (pgi C_CHECK_LAID_OVER))))
                pss_nil)))))))
      (pss_one (ps_ret (pv 1)))))), ?_⟩
    rcases h with ⟨bs, hx, q⟩ | ⟨hx, q⟩
    rotate_left
    · refine ⟨_, rfl, x, false, rfl, hx, fun H' s' => ?_⟩
      rw [if_neg Bool.false_ne_true]
      exact q _ s'
    refine ⟨_, rfl, x, true, rfl, hx.rw, fun H0 s0 => ?_⟩
    rw [if_pos rfl]
    obtain ⟨p, rfl, hp, hl, hb⟩ := hx
    have step : ∀ (D : Ends) (i : Nat) (x : V) (σ : L2.St) (H' : Hp), (natV bs)[i]? = some x → (i ≤ bs.length ∧ H' = H0 ∧ ∃ v2 v3, σ = [some (.ref p), some (.int ((crcL (bs.take i) : Nat) : Int)), v2, v3]) →
        gName 2 x σ H' fun σ2 H2 => tSeq (tAsg (tOp (rI0 fun i j => .int (Builtin.bitXor i j)) (tVar 1) (tOp (rI CPow fun i j => .int (i * 2 ^ j.toNat)) (tVar 2) (tC (.int 8)))) (gName 1))
          (tFor (iRng1 (tCons (tC (.int 8)) tNil)) (gName 3) (tSeq (tAsg (tOp (rI CPow fun i j => .int (i * 2 ^ j.toNat)) (tVar 1) (tC (.int 1))) (gName 1)) (tIfS (tTest (tOp (rI0 fun i j => .bl (decide (j ≤ i))) (tVar 1) (tC (.int 65536)))) (tAsg (tOp (rI0 fun i j => .int (Builtin.bitXor i j)) (tOp (rI0 fun i j => .int (i - j)) (tVar 1) (tC (.int 65536))) (tC (.int 4129))) (gName 1)) tNext)))
          { D with nx := fun σ H' => i + 1 ≤ bs.length ∧ H' = H0 ∧ ∃ v2 v3, σ = [some (.ref p), some (.int ((crcL (bs.take (i + 1)) : Nat) : Int)), v2, v3], ct := fun σ H' => i + 1 ≤ bs.length ∧ H' = H0 ∧ ∃ v2 v3, σ = [some (.ref p), some (.int ((crcL (bs.take (i + 1)) : Nat) : Int)), v2, v3], bk := D.nx } σ2 H2 := by
      rintro D i x σ H' hx ⟨hil, rfl, v2, v3, rfl⟩
      unfold natV at hx
      rw [List.getElem?_map] at hx
      cases hn : bs[i]? with
      | none => rw [hn] at hx; cases hx
      | some b =>
        rw [hn] at hx
        cases hx
        have hi : i < bs.length := (List.getElem?_eq_some_iff.mp hn).1
        have hb256 := hb b (List.mem_of_getElem? hn)
        have et : bs.take (i + 1) = bs.take i ++ [b] := by rw [List.take_add_one, hn]; rfl
        have hcl := crcL_lt (bs.take i)
        have ecrc : crcL (bs.take (i + 1)) = ploop 8 (crcL (bs.take i) ^^^ (b * 2 ^ 8)) := by rw [et, crcL_snoc, byte hb256 hcl]
        generalize hv : crcL (bs.take i) = v at hcl ecrc
        have hv0 : v ^^^ (b * 2 ^ 8) < 65536 := xor_lt hcl (by show b * 256 < 65536; omega)
        refine ⟨_, rfl, _, rfl, _, _, rfl, rfl, ⟨by decide, by decide, by simp; omega⟩, _, _, rfl, rfl, ?_⟩
        refine ⟨8, rfl, by decide, by decide, for_range (n := 8) (fun k σ H'' => H'' = H' ∧ ∃ v3, σ = [some (.ref p), some (.int ((ploop k (v ^^^ (b * 2 ^ 8)) : Nat) : Int)), some (.int b), v3]) ⟨rfl, v3, ?_⟩ ?_ ?_⟩
        · show [some (V.ref p), some (.int (Builtin.bitXor (v : Int) ((b : Int) * 2 ^ (8 : Int).toNat))), some (.int b), v3] = _
          rw [show ((b : Int) * 2 ^ (8 : Int).toNat) = ((b * 2 ^ 8 : Nat) : Int) by norm_cast, bxor]
          rfl
        · rintro k σ H'' hk ⟨rfl, v3', rfl⟩
          have hf := ploop_lt k _ hv0
          have est : ploop (k + 1) (v ^^^ (b * 2 ^ 8)) = pstep (ploop k (v ^^^ (b * 2 ^ 8))) := ploop_snoc k _
          generalize ploop k (v ^^^ (b * 2 ^ 8)) = f at hf est
          have e2 : (f : Int) * 2 ^ (1 : Int).toNat = ((f * 2 : Nat) : Int) := by norm_cast
          refine ⟨_, rfl, _, _, rfl, rfl, ⟨by decide, by decide, by simp; omega⟩, ?_⟩
          refine ⟨_, rfl, _, _, rfl, rfl, _, rfl, ite2 (fun ho => ?_) (fun ho => ?_)⟩
          · have ho' : 65536 ≤ f * 2 := by
              have h1 : (65536 : Int) ≤ (f : Int) * 2 ^ (1 : Int).toNat := of_decide_eq_true ho
              rw [e2] at h1
              omega
            refine ⟨_, rfl, _, _, rfl, rfl, _, _, rfl, rfl, rfl, some (.int (0 + (k : Int))), ?_⟩
            rw [est]
            unfold pstep
            rw [if_pos ho']
            show [some (V.ref p), some (.int (Builtin.bitXor ((f : Int) * 2 ^ (1 : Int).toNat - 65536) 4129)), some (.int b), some (.int (0 + (k : Int)))] = _
            rw [e2, show ((f * 2 : Nat) : Int) - 65536 = ((f * 2 - 65536 : Nat) : Int) by omega, show (4129 : Int) = ((4129 : Nat) : Int) from rfl, bxor]
          · have ho' : ¬ 65536 ≤ f * 2 := by
              have h1 : ¬ (65536 : Int) ≤ (f : Int) * 2 ^ (1 : Int).toNat := of_decide_eq_false (nf ho)
              rw [e2] at h1
              omega
            refine ⟨rfl, some (.int (0 + (k : Int))), ?_⟩
            rw [est]
            unfold pstep
            rw [if_neg ho']
            show [some (V.ref p), some (.int ((f : Int) * 2 ^ (1 : Int).toNat)), some (.int b), some (.int (0 + (k : Int)))] = _
            rw [e2]
        · rintro σ H'' ⟨rfl, v3', rfl⟩
          refine ⟨hi, rfl, some (.int b), v3', ?_⟩
          rw [ecrc]
    rcases hp with hp | hp
    · refine .inl ⟨_, rfl, p, rfl, ⟨_, SqL.of (s0 _ _ hp)⟩, ?_⟩
      refine for_list (xs := natV bs) (fun i σ H' => i ≤ bs.length ∧ H' = H0 ∧ ∃ v2 v3, σ = [some (.ref p), some (.int ((crcL (bs.take i) : Nat) : Int)), v2, v3]) ⟨Nat.zero_le _, rfl, none, none, rfl⟩ (fun i σ H' _ h => by obtain ⟨_, rfl, _⟩ := h; exact SqL.of (s0 _ _ hp)) (fun i x σ H' hx h => step _ i x σ H' hx h) ?_
      rintro σ H' ⟨_, rfl, v2, v3, e⟩
      rw [natV_len, List.take_length] at e
      subst e
      exact ⟨_, rfl, q _ s0⟩
    · refine .inr ⟨_, rfl, p, rfl, ⟨_, SqT.of (s0 _ _ hp)⟩, ?_⟩
      refine for_tup (xs := natV bs) (fun i σ H' => i ≤ bs.length ∧ H' = H0 ∧ ∃ v2 v3, σ = [some (.ref p), some (.int ((crcL (bs.take i) : Nat) : Int)), v2, v3]) ⟨Nat.zero_le _, rfl, none, none, rfl⟩ (fun i σ H' _ h => by obtain ⟨_, rfl, _⟩ := h; exact SqT.of (s0 _ _ hp)) (fun i x σ H' hx h => step _ i x σ H' hx h) ?_
      rintro σ H' ⟨_, rfl, v2, v3, e⟩
      rw [natV_len, List.take_length] at e
      subst e
      exact ⟨_, rfl, q _ s0⟩
end
open PySem L2
end K6

namespace K6
open PySem L2
theorem natV_ints (ns : List Nat) : natV ns = (ns.map fun (n : Nat) => (n : Int)).map V.int := by unfold natV; rw [List.map_map]; rfl
section
variable {P : Program} {w : World} {K : PySem.W.Frag} {mg : Str → Option Value} {base : Heap} {a : Ad}
end
/-! boxes: what stands in them is not unfolded -/
structure PEb (X : Cx) (e : Expr) (t : TE) : Prop where
  out : PE X e t
  ns : ∀ x p, e ≠ .Starred x p
structure PAb (X : Cx) (es : List Expr) (t : TA) : Prop where
  out : PA X es t
theorem shaped_w1 {y : Str} (hy : PyData.canLay0 (.str y) = true) : SeqAt.shaped (.list [.str y]) = true := by
  show (PyData.canLay0 _ && decide (PyData.depth _ ≤ 64)) = true
  rw [Bool.and_eq_true]
  constructor
  · show (PyData.canLay0 (.str y) && true) = true
    rw [hy]
    rfl
  · exact decide_eq_true (by simp [PyData.depth, PyData.depthAll])
theorem natV_cat (a b : List Nat) : natV a ++ natV b = natV (a ++ b) := by unfold natV; rw [List.map_append]
theorem natV_at {ns : List Nat} (k : Nat) {j : Int} (hj : j = (k : Nat)) (h : k < ns.length) : atI (natV ns) j = some (.int ((ns.getD k 0 : Nat) : Int)) := by
  rw [hj]
  apply atI_nat
  unfold natV
  rw [List.getElem?_map, List.getD_eq_getElem?_getD, List.getElem?_eq_getElem h]
  rfl
mutual
theorem datV_same {K : PySem.W.Frag} {H H' : Hp} (s : Same H H') : ∀ {x : V} {d : PyData}, DatV K H x d → DatV K H' x d
  | _, _, .non => .non
  | _, _, .bl b => .bl b
  | _, _, .int i => .int i
  | _, _, .str z => .str z
  | _, _, .lst h r => .lst (s.seq h) (datVs_same s r)
  | _, _, .tup h r => .tup (s.seqT h) (datVs_same s r)
theorem datVs_same {K : PySem.W.Frag} {H H' : Hp} (s : Same H H') : ∀ {xs : List V} {ds : List PyData}, DatVs K H xs ds → DatVs K H' xs ds
  | _, _, .nil => .nil
  | _, _, .cons h r => .cons (datV_same s h) (datVs_same s r)
end
theorem natV_item {ns : List Nat} {i : Nat} {x : V} (h : (natV ns)[i]? = some x) : ∃ n, ns[i]? = some n ∧ x = .int (n : Int) := by
  unfold natV at h
  rw [List.getElem?_map] at h
  cases e : ns[i]? with
  | none => rw [e] at h; cases h
  | some n => rw [e] at h; exact ⟨n, rfl, (Option.some.inj h).symm⟩
theorem FnOk_or {P : Program} {w : World} {K : PySem.W.Frag} {mg : Str → Option Value} {base : Heap} {CX : CXT} {k : Nat} {f : Addr} {fd : FuncData} {ps : List Str} {sp1 sp2 : Sp} (F1 : FnOk P w K mg base CX k f fd ps sp1) (F2 : FnOk P w K mg base CX k f fd ps sp2) :
    FnOk P w K mg base CX k f fd ps (fun vs H Q E => sp1 vs H Q E ∨ sp2 vs H Q E) :=
  ⟨fun vs H Q E h => h.elim (F1.len vs H Q E) (F2.len vs H Q E), fun A outer s H args us vs Q E hr hc hsm he hb hv hs => hs.elim (F1.run A outer s H args us vs Q E hr hc hsm he hb hv) (F2.run A outer s H args us vs Q E hr hc hsm he hb hv)⟩
noncomputable def told1 (H : Hp) (Q : VK) (y : Str) : Prop := ∀ r (H' : Hp), H r = none → Same H H' → H' r = some (.lst [.str y]) → Q (.ref r) H'
open PySem L2
/-! ### the mathematics -/
end K6

namespace K6
open PySem L2
inductive Out where
  | wire (p : Int) (y : Str)
  | num (n p : Int)
noncomputable def outO : Out → HO
  | .wire p y => .lst [.str "wire", .int p, .str y, .bl false]
  | .num n p => .tup [.int n, .int p]
/-- the reading byte by byte: what is left, the place, the number so far, the scale -/
noncomputable def rd (bs : List Int) (at0 : Nat) : Nat → Nat → Int → Int → Out
  | 0, p, _, _ => .wire p "cut"
  | f + 1, p, n, s => if (bs.getD p 0 = 0 ∧ at0 < p) ∨ (15 < bs.getD p 0 ∧ p = at0 + 36) then .wire p "number" else if bs.getD p 0 < 128 then .num (n + bs.getD p 0 * s) (p + 1) else rd bs at0 f (p + 1) (n + (bs.getD p 0 - 128) * s) (s * 128)
theorem rd_bad {bs : List Int} {at0 f p : Nat} {n s : Int} (h : (bs.getD p 0 = 0 ∧ at0 < p) ∨ (15 < bs.getD p 0 ∧ p = at0 + 36)) : rd bs at0 (f + 1) p n s = .wire p "number" := by rw [rd, if_pos h]
theorem rd_end {bs : List Int} {at0 f p : Nat} {n s : Int} (h : ¬ ((bs.getD p 0 = 0 ∧ at0 < p) ∨ (15 < bs.getD p 0 ∧ p = at0 + 36))) (h2 : bs.getD p 0 < 128) : rd bs at0 (f + 1) p n s = .num (n + bs.getD p 0 * s) (p + 1) := by rw [rd, if_neg h, if_pos h2]
theorem rd_on {bs : List Int} {at0 f p : Nat} {n s : Int} (h : ¬ ((bs.getD p 0 = 0 ∧ at0 < p) ∨ (15 < bs.getD p 0 ∧ p = at0 + 36))) (h2 : ¬ bs.getD p 0 < 128) : rd bs at0 (f + 1) p n s = rd bs at0 f (p + 1) (n + (bs.getD p 0 - 128) * s) (s * 128) := by rw [rd, if_neg h, if_neg h2]
noncomputable def Bs (ns : List Int) : Prop := ∀ b ∈ ns, 0 ≤ b ∧ b < 256
theorem Bs.at {ns : List Int} (h : Bs ns) (p : Nat) : 0 ≤ ns.getD p 0 ∧ ns.getD p 0 < 256 := by
  rw [List.getD_eq_getElem?_getD]
  cases e : ns[p]? with
  | none => exact ⟨by decide, by decide⟩
  | some b => exact h b (List.mem_of_getElem? e)
theorem byte_at {ns : List Int} {p : Nat} (h : p < ns.length) : atI (ns.map V.int) (p : Int) = some (V.int (ns.getD p 0)) := atI_nat (by
  rw [List.getElem?_map]
  simp [List.getD, h])
/-- how a refusal of this class lies: its dict -/
noncomputable def wireX (bw : Addr) (H : Hp) (p : Int) (y : Str) (E : XK) : Prop := ∀ d (H' : Hp), H d = none → Same H H' → H' d = some (.xd [("place", .int p), ("why", .str y)]) → E (.ref bw) (some d) H'
noncomputable def sp_number_at (K : PySem.W.Frag) (bw : Addr) : Sp := fun vs H Q E => ∃ (p : Addr) (ns : List Int) (at0 en : Nat), vs = [.ref p, .int at0, .int en] ∧ (SqL K H p (ns.map V.int) ∨ SqT K H p (ns.map V.int)) ∧ Bs ns ∧ at0 ≤ en ∧ en ≤ ns.length ∧ ns.length ≤ 400 ∧
  match rd ns at0 (en - at0) at0 0 1 with
  | .num n e => ∀ t (H' : Hp), H t = none → Same H H' → H' t = some (.tup [.int n, .int e]) → Q (.ref t) H'
  | .wire pl y => wireX bw H pl y E
noncomputable def sp_BadWire_init (C : Addr) : Sp := fun vs H Q _ => ∃ (e : Addr) (p : Nat) (y : Str), vs = [.ref e, .int p, .str y] ∧ H e = some (xcO e C none) ∧ p ≤ 400 ∧ y.length ≤ 100 ∧
  ∀ d (H' : Hp), H d = none → (∀ b o, b ≠ e → H b = some o → H' b = some o) → H' e = some (xcO e C (some d)) → H' d = some (.xd [("place", .int p), ("why", .str y)]) → Q .non H'
noncomputable def sp_at (C : Addr) : Sp := fun vs H Q _ => ∃ (e d : Addr) (a0 tb : Value) (p : Int) (y : Str), vs = [.ref e] ∧ H e = some (xHO e (xObj (.ref C) (some d) a0 tb)) ∧ H d = some (.xd [("place", .int p), ("why", .str y)]) ∧
  ∀ q (H' : Hp), H q = none → Same H H' → H' q = some (.lst [.str "wire", .int p, .str y, .bl false]) → Q (.ref q) H'
section
variable {P : Program} {w : World} {K : PySem.W.Frag} {mg : Str → Option Value} {base : Heap} {a : Ad}
theorem app_len {x y : Str} {n m : Nat} (hx : x.length ≤ n) (hy : y.length ≤ m) : (x ++ y).length ≤ n + m := by
  rw [strLen_append]
  omega
theorem place_len : ∀ p : Nat, p ≤ 400 → (Str.ofString (toString (p : Int))).length ≤ 3 ∧ (p : Int).natAbs.log2 < 1920 := by decide +kernel
theorem ok_BadWire_init (T : Tx K mg a) : FnOk P w K mg base CX0 1 a.f_BadWire_init a.d_BadWire_init ["self", "place", "why"] (sp_BadWire_init a.BadWire) := by
  refine T.d_BadWire_init.F.ok sc_BadWire_init (fun vs H Q E h => ?_) (fun cdv A outer s H vs Q E hr h => ?_)
  · obtain ⟨e, p, y, rfl, _⟩ := h
    rfl
  · obtain ⟨e, p, y, rfl, he, hp, hy, q⟩ := h
    refine ⟨_, pss_cons (ps_expr (pe_xinit rfl T.m_FormError T.b_FormError T.k_BadWire (pa_cons (pv 0) (pa_cons (pe_joined (pj_cons pe_str (pj_cons (pe_fmt (pv 2)) (pj_cons pe_str (pj_cons (pe_fmt (pv 1)) pj_nil))))) pa_nil))))
      (pss_cons (ps_xfld T.k_BadWire (pv 0) (pv 1) rfl)
      (pss_one (ps_xfld T.k_BadWire (pv 0) (pv 2) rfl))), ?_⟩
    obtain ⟨hp3, hlog⟩ := place_len p hp
    have l1 : (Str.empty ++ ("no such row: " : Str)).length ≤ 100 := by decide +kernel
    have l2 := app_len l1 hy
    have l3 : ((Str.empty ++ ("no such row: " : Str) ++ y) ++ (" at byte " : Str)).length ≤ 300 := app_len l2 (m := 100) (by decide +kernel)
    have l4 := app_len l3 hp3
    refine ⟨_, rfl, _, rfl, small (by omega), _, rfl, .inl ⟨_, rfl, small (by omega), _, rfl, small (by omega), _, rfl, small (by omega), _, rfl, .inr ⟨_, rfl, hlog, _, rfl, small (by omega), small (by omega), e, _, _, rfl, he, by show 1 ≤ sizeLine; decide, ?_⟩⟩⟩
    refine ⟨_, rfl, _, rfl, e, rfl, T.n_place, .inl ⟨he, fun d hd => ?_⟩⟩
    have hde : d ≠ e := fun z => by rw [z, he] at hd; cases hd
    refine ⟨_, rfl, _, rfl, e, rfl, T.n_why, .inr ⟨d, _, upd_same, by rw [upd_ne hde]; exact upd_same, by show 1 < 1000; decide, ?_⟩⟩
    refine q d _ hd (fun b o hb z => ?_) ?_ ?_
    · rw [upd_ne (fun z2 => by rw [z2, hd] at z; cases z), upd_ne hb, upd_ne (fun z2 => by rw [z2, hd] at z; cases z)]
      exact z
    · rw [upd_ne hde.symm, upd_same]
    · rw [upd_same]
      have e2 : putF "why" (V.str y) [(("place" : Str), V.int p)] = [(("place" : Str), V.int p), (("why" : Str), V.str y)] := by
        show (if ("place" : Str) = "why" then _ else _) = _
        rw [if_neg (by decide +kernel)]
        rfl
      rw [e2]
/-- raised: its dict is what the wish asks -/
theorem wire_raise {C : Addr} {H1 : Hp} {p : Nat} {y : Str} {E : XK} (hp : p ≤ 400) (hy : y.length ≤ 100) (k : wireX C H1 p y E) : ∀ e, H1 e = none → sp_BadWire_init C (.ref e :: [.int p, .str y]) (upd H1 e (xcO e C none)) (fun v H2 => v = .non ∧ ∃ dx, H2 e = some (xcO e C dx) ∧ E (.ref C) dx (untr H2 e)) E0 := fun e he => by
  refine ⟨e, p, y, rfl, upd_same, hp, hy, fun d H' hd kp he' hd' => ⟨rfl, some d, he', ?_⟩⟩
  have hde : d ≠ e := fun z => by rw [z, upd_same] at hd; cases hd
  refine k d _ (by rw [upd_ne hde] at hd; exact hd) (fun b o z => ?_) (by rw [untr_ne hde]; exact hd')
  have hbe : b ≠ e := fun z2 => by rw [z2, he] at z; cases z
  rw [untr_ne hbe]
  exact kp b o hbe (by rw [upd_ne hbe]; exact z)
theorem ok_number_at (T : Tx K mg a) : FnOk P w K mg base (XC P w true) 3 a.f_number_at a.d_number_at ["row", "at", "end"] (sp_number_at K a.BadWire) := by
  have GI : FnOk P w K mg base CX0 1 a.f_BadWire_init a.d_BadWire_init ["self", "place", "why"] (sp_BadWire_init a.BadWire) := ok_BadWire_init T
  obtain ⟨_, C1⟩ := T.c_LAST_PLACE
  obtain ⟨_, C2⟩ := T.c_LAST_MOST
  refine T.d_number_at.F.okX sc_number_at (fun vs H Q E h => ?_) (fun cdv A outer s H vs Q E hr h => ?_)
  · obtain ⟨p, ns, at0, en, rfl, _⟩ := h
    rfl
  · obtain ⟨p, ns, at0, en, rfl, hS, hB, h1, h2, h3, q⟩ := h
    refine ⟨_, pss_cons (ps_set (i := 3) sc_number_at.nd rfl (Or.inl rfl) pe_int)
      (pss_cons (ps_set (i := 4) sc_number_at.nd rfl (Or.inl rfl) pe_int)
      (pss_cons (ps_for PassesOwn.leaving rfl (pi_range2 rfl T.range (pa_cons (pv 1) (pa_cons (pv 2) pa_nil))) (pg_name (i := 5) sc_number_at.nd rfl (Or.inl rfl))
        (pss_cons (ps_set (i := 6) sc_number_at.nd rfl (Or.inl rfl) (pe_ix ix_seq (pv 0) (pv 5) (fun _ _ => rfl)))
          (pss_cons (ps_if (PW.pt (pw_and (pt_cmpR op_eq (pv 6) pe_int (nomark _)) (pw_and1 (pt_cmpR op_gt (pv 5) (pv 1) (nomark _)))))
            (pss_one (ps_raiseI rfl rfl T.m_BadWire T.k_BadWire GI hr T.d_BadWire_init.b raised_fnD (pa_cons (pv 5) (pa_cons pe_str pa_nil))))
            pss_nil)
          (pss_cons (ps_if (PW.pt (pw_and (pt_cmpR op_gt (pv 6) (pgi C2) (nomark _)) (pw_and1 (pt_cmpR op_eq (pe_op op_sub (pv 5) (pv 1)) (pgi C1) (nomark _)))))
            (pss_one (ps_raiseI rfl rfl T.m_BadWire T.k_BadWire GI hr T.d_BadWire_init.b raised_fnD (pa_cons (pv 5) (pa_cons pe_str pa_nil))))
            pss_nil)
          (pss_cons (ps_set (i := 3) sc_number_at.nd rfl (Or.inl rfl) (pe_op op_add (pv 3) (pe_op op_mul (pe_op op_mod (pv 6) pe_int) (pv 4))))
          (pss_cons (ps_if (pt_cmpR op_lt (pv 6) pe_int (nomark _))
            (pss_one (ps_ret (pe_tup (pa_cons (pv 3) (pa_cons (pe_op op_add (pv 5) pe_int) pa_nil)))))
            pss_nil)
          (pss_one (ps_set (i := 4) sc_number_at.nd rfl (Or.inl rfl) (pe_op op_mul (pv 4) pe_int)))))))))
      (pss_one (ps_raiseI rfl rfl T.m_BadWire T.k_BadWire GI hr T.d_BadWire_init.b raised_fnD (pa_cons (pv 2) (pa_cons pe_str pa_nil)))))), ?_⟩
    refine ⟨_, rfl, _, rfl, _, _, rfl, ⟨by omega, by omega, by omega, by omega⟩, for_range (lo := (at0 : Int)) (n := ((en : Int) - (at0 : Int)).toNat) (fun i σ H' => H' = H ∧ ∃ (nu po : Int) (v5 v6 : Option V),
      σ = [some (.ref p), some (.int at0), some (.int en), some (.int nu), some (.int po), v5, v6] ∧ rd ns at0 (en - at0 - i) (at0 + i) nu po = rd ns at0 (en - at0) at0 0 1) ⟨rfl, 0, 1, none, none, rfl, rfl⟩ ?_ ?_⟩
    · rintro i σ H' hi ⟨rfl, nu, po, v5, v6, rfl, e⟩
      have hlt : at0 + i < ns.length := by omega
      obtain ⟨b0, b1⟩ := hB.at (at0 + i)
      have ep : ((at0 : Int) + (i : Int)) = ((at0 + i : Nat) : Int) := by omega
      have ef : en - at0 - i = (en - at0 - (i + 1)) + 1 := by omega
      rw [ef] at e
      have hb := byte_at hlt
      rw [← ep] at hb
      generalize hbe : ns.getD (at0 + i) 0 = b at b0 b1 hb
      have hix : ∀ R : VK, R (.int b) H' → rIx K (.ref p) (.int ((at0 : Int) + (i : Int))) H' R := fun R z => by
        rcases hS with hS | hS
        · exact .inl ⟨p, _, _, _, rfl, rfl, hS, hb, z⟩
        · exact .inr (.inl ⟨p, _, _, _, rfl, rfl, hS, hb, z⟩)
      refine ⟨_, rfl, _, rfl, hix _ ?_⟩
      have bad : ((b = 0 ∧ at0 < at0 + i) ∨ (15 < b ∧ at0 + i = at0 + 36)) → ∀ e, H' e = none → sp_BadWire_init a.BadWire (.ref e :: [.int ((at0 : Int) + (i : Int)), .str "number"]) (upd H' e (xcO e a.BadWire none)) (fun v H2 => v = .non ∧ ∃ dx, H2 e = some (xcO e a.BadWire dx) ∧ E (.ref a.BadWire) dx (untr H2 e)) E0 := fun hc => by
        rw [rd_bad (by rw [hbe]; exact hc)] at e
        rw [← e] at q
        rw [ep]
        exact wire_raise (by omega) (by decide +kernel) q
      have c36 : V.int ((at0 : Int) + (i : Int) - (at0 : Int)) = V.int 36 ↔ i = 36 := ⟨fun z => by injection z with z; omega, fun z => by rw [z]; congr 1; omega⟩
      by_cases k3 : b = 0 ∧ 0 < i
      · exact ⟨_, rfl, rfl, _, rfl, iteP (by rw [k3.1]) ⟨_, rfl, _, rfl, _, _, rfl, rfl, _, rfl, iteP (by omega) ⟨_, rfl, by show 2 ≤ sizeLine; decide, bad (.inl ⟨k3.1, by omega⟩)⟩⟩⟩
      refine (fun rest => ⟨_, rfl, rfl, _, rfl, ite2 (fun z => ⟨_, rfl, _, rfl, _, _, rfl, rfl, _, rfl, iteD (fun y => k3 ⟨by have := of_decide_eq_true z; injection this, by omega⟩) rest⟩) (fun _ => iteF rest)⟩) ?_
      by_cases k1 : 15 < b ∧ i = 36
      · exact ⟨_, rfl, _, _, rfl, rfl, _, rfl, iteP k1.1 ⟨_, rfl, _, rfl, _, _, rfl, rfl, rfl, _, rfl, iteP (c36.mpr k1.2) ⟨_, rfl, by show 2 ≤ sizeLine; decide, bad (.inr ⟨k1.1, by omega⟩)⟩⟩⟩
      refine (fun rest => ⟨_, rfl, _, _, rfl, rfl, _, rfl, ite2 (fun z => ⟨_, rfl, _, rfl, _, _, rfl, rfl, rfl, _, rfl, iteD (fun y => k1 ⟨of_decide_eq_true z, c36.mp y⟩) rest⟩) (fun _ => iteF rest)⟩) ?_
      refine ⟨_, rfl, _, rfl, _, _, rfl, rfl, (by show (0 : Int) < 128; decide), _, rfl, _, _, rfl, rfl, .inl ⟨by omega, by omega⟩, _, _, rfl, rfl, ?_⟩
      by_cases k2 : b < 128
      · refine ⟨_, rfl, _, _, rfl, rfl, _, rfl, iteP k2 ?_⟩
        refine ⟨_, rfl, _, rfl, _, _, rfl, rfl, by show 2 ≤ sizeLine; decide, fun l hl => ?_⟩
        rw [rd_end (by rw [hbe]; omega) (by rw [hbe]; exact k2), hbe] at e
        rw [← e] at q
        refine q l _ hl (sameU hl) ?_
        rw [upd_same, ep]
        have e5 : b % 128 = b := by omega
        show some (HO.tup [V.int (nu + b % 128 * po), _]) = _
        rw [e5]
      · refine ⟨_, rfl, _, _, rfl, rfl, _, rfl, iteD k2 ?_⟩
        refine ⟨_, rfl, _, _, rfl, rfl, .inr ⟨by decide, by decide⟩, rfl, _, _, _, _, rfl, ?_⟩
        rw [rd_on (by rw [hbe]; omega) (by rw [hbe]; exact k2), hbe] at e
        have e5 : b % 128 = b - 128 := by omega
        rw [← e, e5]
        rfl
    · rintro σ H' ⟨rfl, nu, po, v5, v6, rfl, e⟩
      have e0 : en - at0 - ((en : Int) - (at0 : Int)).toNat = 0 := by omega
      have e1 : at0 + ((en : Int) - (at0 : Int)).toNat = en := by omega
      rw [e0, e1] at e
      rw [← e] at q
      exact ⟨_, rfl, by show 2 ≤ sizeLine; decide, wire_raise (by omega) (by decide +kernel) q⟩
end
open PySem L2
/-! ### the mathematics of kept rows -/
end K6

namespace K6
open PySem L2
seal L2.PE L2.PS L2.PSs L2.PA L2.PT L2.PW L2.PG L2.PGs L2.PI L2.PO
noncomputable def nrow (n : Nat) : List Nat := if n ≤ 127 then [n] else (128 + n % 128) :: nrow (n / 128)
termination_by n
decreasing_by omega
theorem nrow_le {n : Nat} (h : n ≤ 127) : nrow n = [n] := by rw [nrow, if_pos h]
theorem nrow_gt {n : Nat} (h : ¬ n ≤ 127) : nrow n = (128 + n % 128) :: nrow (n / 128) := by rw [nrow, if_neg h]
theorem nrow_lt (n : Nat) : ∀ b ∈ nrow n, b < 256 := by
  induction n using Nat.strongRecOn with
  | _ n ih =>
    by_cases h : n ≤ 127
    · rw [nrow_le h]
      intro b hb
      rw [List.mem_singleton.mp hb]
      omega
    · rw [nrow_gt h]
      intro b hb
      rcases List.mem_cons.mp hb with z | z
      · omega
      · exact ih (n / 128) (by omega) b z
theorem nrow_len {n : Nat} (h : n < 2097152) : 1 ≤ (nrow n).length ∧ (nrow n).length ≤ 3 := by
  by_cases h1 : n ≤ 127
  · rw [nrow_le h1]; exact ⟨Nat.le_refl _, by show 1 ≤ 3; decide⟩
  · rw [nrow_gt h1]
    by_cases h2 : n / 128 ≤ 127
    · rw [nrow_le h2]; exact ⟨by show 1 ≤ 2; decide, by show 2 ≤ 3; decide⟩
    · rw [nrow_gt h2, nrow_le (by omega)]; exact ⟨by show 1 ≤ 3; decide, by show 3 ≤ 3; decide⟩
noncomputable def whole (bs : List Nat) : List Nat := nrow bs.length ++ bs
noncomputable def keptL (bs : List Nat) : List Nat := whole bs ++ [crcL (whole bs) / 256, crcL (whole bs) % 256]
theorem whole_lt {bs : List Nat} (h : ∀ b ∈ bs, b < 256) : ∀ b ∈ whole bs, b < 256 := fun b hb => by
  rcases List.mem_append.mp hb with z | z
  · exact nrow_lt _ b z
  · exact h b z
theorem kept_lt {bs : List Nat} (h : ∀ b ∈ bs, b < 256) : ∀ b ∈ keptL bs, b < 256 := fun b hb => by
  have hc := crcL_lt (whole bs)
  rcases List.mem_append.mp hb with z | z
  · exact whole_lt h b z
  · simp only [List.mem_cons, List.not_mem_nil, or_false] at z
    rcases z with rfl | rfl <;> omega
theorem kept_len (bs : List Nat) : (keptL bs).length = (whole bs).length + 2 := by unfold keptL; rw [List.length_append]; rfl
/-! the check tells any one byte that is another -/
open PySem L2
noncomputable def intsN (bs : List Nat) : List Int := bs.map fun (n : Nat) => (n : Int)
theorem ints_V (bs : List Nat) : natV bs = (intsN bs).map V.int := natV_ints bs
theorem ints_len (bs : List Nat) : (intsN bs).length = bs.length := by unfold intsN; rw [List.length_map]
theorem ints_at (bs : List Nat) (p : Nat) : (intsN bs).getD p 0 = ((bs.getD p 0 : Nat) : Int) := by
  unfold intsN
  rw [List.getD_eq_getElem?_getD, List.getD_eq_getElem?_getD, List.getElem?_map]
  cases bs[p]? <;> rfl
theorem ints_Bs {bs : List Nat} (h : ∀ b ∈ bs, b < 256) : Bs (intsN bs) := fun b hb => by
  obtain ⟨n, hn, rfl⟩ := List.mem_map.mp hb
  have := h n hn
  omega
inductive O5 where
  | wire (p : Int) (y : Str)
  | chk
  | row (bs : List Nat)
noncomputable def oV : O5 → List V
  | .wire p y => [.str "wire", .int p, .str y, .bl false]
  | .chk => [.str "check"]
  | .row bs => natV bs
noncomputable def crcOk (bs : List Nat) : Prop := crcL (bs.take (bs.length - 2)) = 256 * bs.getD (bs.length - 2) 0 + bs.getD (bs.length - 1) 0
noncomputable instance (bs : List Nat) : Decidable (crcOk bs) := inferInstanceAs (Decidable (_ = _))
noncomputable def finO (bs : List Nat) (n e : Int) : O5 := if e + n + 2 = (bs.length : Int) then (if crcOk bs then .row ((bs.take (bs.length - 2)).drop e.toNat) else .chk) else .wire 0 "length"
noncomputable def ofRd (bs : List Nat) : Out → O5
  | .wire p y => .wire p y
  | .num n e => finO bs n e
noncomputable def dueF (bs : List Nat) : O5 := ofRd bs (rd (intsN bs) 0 bs.length 0 0 1)
noncomputable def turnL (l : List Nat) (bit : Nat) : List Nat := l.set (bit / 8) (l.getD (bit / 8) 0 ^^^ 2 ^ (bit % 8))
theorem turn_lt {b k : Nat} (hb : b < 256) (hk : k < 8) : b ^^^ 2 ^ k < 256 ∧ b ^^^ 2 ^ k ≠ b := by
  refine ⟨Nat.xor_lt_two_pow (n := 8) hb (Nat.pow_lt_pow_right (by decide) hk), fun h => ?_⟩
  have h2 : b ^^^ (b ^^^ 2 ^ k) = b ^^^ b := congrArg (b ^^^ ·) h
  rw [← Nat.xor_assoc, Nat.xor_self, Nat.zero_xor] at h2
  have := Nat.pow_pos (n := k) (show 0 < 2 by decide)
  omega
open PySem L2
noncomputable def toldO (H : Hp) (Q : VK) (ys : List V) : Prop := ∀ q (H' : Hp), H q = none → Same H H' → H' q = some (.lst ys) → Q (.ref q) H'
theorem toldO.mono {H H1 : Hp} {Q : VK} {ys : List V} (k : toldO H Q ys) (s : Same H H1) : toldO H1 Q ys := fun q H' hq s' h => k q H' (s.free hq) (s.trans s') h
noncomputable def sp_number_row : Sp := fun vs H Q _ => ∃ n : Nat, vs = [.int n] ∧ n ≤ 100000 ∧ toldO H Q (natV (nrow n))
noncomputable def sp_frame : Sp := fun vs H Q _ => ∃ (p : Addr) (bs : List Nat), vs = [.ref p] ∧ H p = some (.lst (natV bs)) ∧ (∀ b ∈ bs, b < 256) ∧ bs.length ≤ 1000 ∧ toldO H Q (natV (keptL bs))
section
variable {P : Program} {w : World} {K : PySem.W.Frag} {mg : Str → Option Value} {base : Heap} {a : Ad}
theorem ok_number_row (T : Tx K mg a) : FnOk P w K mg base CX0 1 a.f_number_row a.d_number_row ["_law_number"] sp_number_row := by
  refine T.d_number_row.F.ok sc_number_row (fun vs H Q E h => ?_) (fun cdv A outer s H vs Q E hr h => ?_)
  · obtain ⟨n, rfl, _⟩ := h
    rfl
  · obtain ⟨n, rfl, hn, q⟩ := h
    refine ⟨_, pss_cons (ps_set (i := 1) sc_number_row.nd rfl (Or.inl rfl) (pe_lst pa_nil))
      (pss_cons (ps_while PassesOwn.never (pt_cmpR op_gt (pv 0) pe_int (nomark _))
        (pss_cons (ps_expr (pe_bm PySem.F.plainAttrs_list PySem.F.slot_list_append PySem.F.type_list_append mt_append (pv 1) (pa_cons (pe_op op_add (pe_op op_mod (pv 0) pe_int) pe_int) pa_nil)))
          (pss_one (ps_set (i := 0) sc_number_row.nd rfl (Or.inl rfl) (pe_op op_fdiv (pv 0) pe_int)))))
      (pss_one (ps_ret (pe_op op_cat (pv 1) (pe_lst (pa_cons (pv 0) pa_nil)))))), ?_⟩
    refine ⟨by decide, fun l hl => ?_⟩
    have hlen := (nrow_len (n := n) (by omega)).2
    refine while_by (fun σ H' => ∃ (m : Nat) (xs : List Nat), σ = [some (.int m), some (.ref l)] ∧ Same H H' ∧ H' l = some (.lst (natV xs)) ∧ xs ++ nrow m = nrow n) (fun σ H' => match σ with | [some (.int m), _] => m.toNat | _ => 0) ⟨n, [], rfl, sameU hl, upd_same, rfl⟩ ?_ ?_
    · rintro σ H' ⟨m, xs, rfl, sm, hL, e⟩
      have hxl : xs.length + (nrow m).length = (nrow n).length := by rw [← e, List.length_append]
      refine ⟨_, rfl, _, _, rfl, rfl, _, rfl, ite2 (fun hm => ?_) (fun hm => ?_)⟩
      · have hm' : ¬ m ≤ 127 := by have := of_decide_eq_true hm; omega
        refine ⟨_, rfl, .inl ⟨rfl, _, SqL.of hL⟩, _, rfl, _, _, rfl, rfl, (by show (0 : Int) < 128; decide), _, _, rfl, rfl, l, _, _, rfl, rfl, hL, small1000 (by rw [natV_len]; omega), ?_⟩
        refine ⟨_, rfl, _, _, rfl, rfl, ⟨by decide, by decide⟩, ?_⟩
        have e1 : (m : Int) / 128 = ((m / 128 : Nat) : Int) := by omega
        have e2 : (m : Int) % 128 + 128 = ((128 + m % 128 : Nat) : Int) := by omega
        refine ⟨⟨m / 128, xs ++ [128 + m % 128], ?_, sm.put hl, ?_, ?_⟩, ?_⟩
        · show [some (V.int ((m : Int) / 128)), some (V.ref l)] = _
          rw [e1]
        · rw [upd_same, ← natV_cat]
          show some (HO.lst (natV xs ++ [V.int ((m : Int) % 128 + 128)])) = _
          rw [e2]
          rfl
        · rw [List.append_assoc, ← e, nrow_gt hm']
          rfl
        · show ((m : Int) / 128).toNat < (m : Int).toNat
          omega
      · have hm' : m ≤ 127 := by
          have : ¬ (127 : Int) < m := fun z => hm (decide_eq_true z)
          omega
        rw [nrow_le hm'] at e
        have hx2 : xs.length ≤ 3 := by rw [nrow_le hm'] at hxl; simp at hxl; omega
        refine ⟨_, rfl, _, rfl, by show 1 ≤ sizeLine; decide, fun l2 hl2 => ?_⟩
        refine ⟨l, l2, _, _, rfl, rfl, keepH hL hl2, upd_same, small (by rw [natV_len]; show xs.length + 1 ≤ 100000; omega), fun r hr => ?_⟩
        refine q r _ (sm.free (Same.free (sameU hl2) hr)) ((sm.trans (sameU hl2)).trans (sameU hr)) ?_
        rw [upd_same, ← e, ← natV_cat]
        rfl
    · rintro σ H' Q1 Q2 k ⟨v, e, i, j, e1, e2, kk, e3, z⟩
      exact ⟨v, e, i, j, e1, e2, kk, e3, k _ _ z⟩
theorem ok_frame (T : Tx K mg a) : FnOk P w K mg base CX0 2 a.f_frame a.d_frame ["_law_row"] sp_frame := by
  have G_number_row : FnOk P w K mg base CX0 1 a.f_number_row a.d_number_row ["_law_number"] sp_number_row := ok_number_row T
  have G_l_check : FnOk P w K mg base CX0 1 a.f_l_check a.d_l_check ["_law_row"] sp_l_check := ok_l_check T
  refine T.d_frame.F.ok sc_frame (fun vs H Q E h => ?_) (fun cdv A outer s H vs Q E hr h => ?_)
  · obtain ⟨p, bs, rfl, _⟩ := h
    rfl
  · obtain ⟨p, bs, rfl, hp, hb, hz, q⟩ := h
    refine ⟨_, pss_cons (ps_set (i := 1) sc_frame.nd rfl (Or.inl rfl) (pe_op op_cat (pe_call G_number_row (hr.mono (by decide)) rfl T.d_number_row.m T.d_number_row.F.kp T.d_number_row.b .nil pass0 (pa_cons (pe_callB call_len_seq (by rfl) T.len bt_len (pa_cons (pv 0) pa_nil)) pa_nil)) (pv 0)))
      (pss_cons (ps_set (i := 2) sc_frame.nd rfl (Or.inl rfl) (pe_call G_l_check (hr.mono (by decide)) rfl T.d_l_check.m T.d_l_check.F.kp T.d_l_check.b .nil pass0 (pa_cons (pv 1) pa_nil)))
      (pss_one (ps_ret (pe_op op_cat (pv 1) (pe_lst (pa_cons (pe_op op_fdiv (pv 2) pe_int) (pa_cons (pe_op op_mod (pv 2) pe_int) pa_nil))))))), ?_⟩
    have hlen := (nrow_len (n := bs.length) (by omega)).2
    refine ⟨_, rfl, p, _, rfl, .inl (SqL.of hp), bs.length, by rw [natV_len]; rfl, by omega, fun r H1 hr1 s1 g1 => ?_⟩
    refine ⟨_, rfl, r, p, _, _, rfl, rfl, g1, s1 _ _ hp, small (by rw [natV_len, natV_len]; omega), fun l hl => ?_⟩
    rw [natV_cat]
    have s2 := s1.trans (sameU (u := .lst (natV (nrow bs.length ++ bs))) hl)
    have g2 : (upd H1 l (.lst (natV (nrow bs.length ++ bs)))) l = some (.lst (natV (whole bs))) := upd_same
    generalize upd H1 l (.lst (natV (nrow bs.length ++ bs))) = H2 at s2 g2
    refine ⟨_, rfl, l, whole bs, rfl, g2, whole_lt hb, ?_⟩
    have hc := crcL_lt (whole bs)
    refine ⟨_, rfl, _, rfl, _, _, rfl, rfl, ⟨by decide, by decide⟩, _, rfl, _, _, rfl, rfl, (by show (0 : Int) < 256; decide), by show 2 ≤ sizeLine; decide, fun l2 hl2 => ?_⟩
    have hwl : (whole bs).length ≤ 1003 := by unfold whole; rw [List.length_append]; omega
    refine ⟨l, l2, _, _, rfl, rfl, keepH g2 hl2, upd_same, small (by rw [natV_len]; show (whole bs).length + 2 ≤ 100000; omega), fun r2 hr2 => ?_⟩
    refine q r2 _ (s2.free (Same.free (sameU hl2) hr2)) ((s2.trans (sameU hl2)).trans (sameU hr2)) ?_
    rw [upd_same]
    unfold keptL
    rw [← natV_cat]
    show some (HO.lst (natV (whole bs) ++ [V.int (((crcL (whole bs) : Nat) : Int) / 256), V.int (((crcL (whole bs) : Nat) : Int) % 256)])) = _
    rw [show ((crcL (whole bs) : Nat) : Int) / 256 = ((crcL (whole bs) / 256 : Nat) : Int) by omega, show ((crcL (whole bs) : Nat) : Int) % 256 = ((crcL (whole bs) % 256 : Nat) : Int) by omega]
    rfl
end
open PySem L2
end K6

namespace K6
open PySem L2
seal L2.PE L2.PS L2.PSs L2.PA L2.PT L2.PW L2.PG L2.PGs L2.PI L2.PO
theorem slr_or {X : Cx} {r1 r2 : V → Option Int → Option Int → Hp → VK → Prop} (h1 : SlR X r1) (h2 : SlR X r2) : SlR X (fun x lo hi H Q => r1 x lo hi H Q ∨ r2 x lo hi H Q) := by
  intro pins s σ H x v vl vu lo hi sl Q I rx hs pl pu h
  rcases h with h | h
  · exact h1 pins s σ H x v vl vu lo hi sl Q I rx hs pl pu h
  · exact h2 pins s σ H x v vl vu lo hi sl Q I rx hs pl pu h
theorem cut_front {bs : List Nat} (h : 2 ≤ bs.length) : cutV (natV bs) none (some (-2)) = natV (bs.take (bs.length - 2)) := by
  unfold cutV
  have e : HT.sIx (natV bs).length (natV bs).length (some (-2)) = bs.length - 2 := by
    rw [natV_len]
    show (if (-2 : Int) < 0 then ((-2 : Int) + (bs.length : Int)).toNat else min (-2 : Int).toNat bs.length) = _
    rw [if_pos (by decide)]
    omega
  rw [e]
  show ((natV bs).drop 0).take (bs.length - 2 - 0) = _
  unfold natV
  rw [List.drop_zero, Nat.sub_zero, List.map_take]
theorem cut_mid {bs : List Nat} {e : Nat} (h : 2 ≤ bs.length) (he : e + 2 ≤ bs.length) {ei : Int} (hei : ei = (e : Int)) : cutV (natV bs) (some ei) (some (-2)) = natV ((bs.take (bs.length - 2)).drop e) := by
  unfold cutV
  have e1 : HT.sIx (natV bs).length (natV bs).length (some (-2)) = bs.length - 2 := by
    rw [natV_len]
    show (if (-2 : Int) < 0 then ((-2 : Int) + (bs.length : Int)).toNat else min (-2 : Int).toNat bs.length) = _
    rw [if_pos (by decide)]
    omega
  have e2 : HT.sIx (natV bs).length 0 (some ei) = e := by
    rw [natV_len, hei, HT.sIx_nat]
    omega
  rw [e1, e2]
  unfold natV
  rw [← List.map_drop, ← List.map_take, List.drop_take]
theorem natV_back {bs : List Nat} {k : Nat} (h1 : 1 ≤ k) (h2 : k ≤ bs.length) {j : Int} (hj : j = -(k : Int)) : atI (natV bs) j = some (.int ((bs.getD (bs.length - k) 0 : Nat) : Int)) := by
  unfold atI
  rw [natV_len]
  have e : ixN bs.length j = some (bs.length - k) := by
    unfold ixN
    rw [if_neg (by omega), if_pos (by omega)]
    congr 1
    omega
  rw [e]
  show (natV bs)[bs.length - k]? = _
  unfold natV
  have hlt : bs.length - k < bs.length := by omega
  rw [List.getElem?_map, List.getD_eq_getElem?_getD, List.getElem?_eq_getElem hlt]
  rfl
noncomputable def sp_is_checked (K : PySem.W.Frag) : Sp := fun vs H Q _ => ∃ x bs, vs = [x] ∧ Row H x bs ∧ 3 ≤ bs.length ∧ bs.length ≤ 400 ∧ ∀ H', Same H H' → Q (.bl (decide (crcOk bs))) H'
theorem wireX.mono {bw : Addr} {H H1 : Hp} {p : Int} {y : Str} {E : XK} (k : wireX bw H p y E) (s : Same H H1) : wireX bw H1 p y E := fun d H' hd s' h => k d H' (s.free hd) (s.trans s') h
section
variable {P : Program} {w : World} {K : PySem.W.Frag} {mg : Str → Option Value} {base : Heap} {a : Ad}
theorem ok_is_checked (T : Tx K mg a) : FnOk P w K mg base (XC P w true) 6 a.f_is_checked a.d_is_checked ["kept"] (sp_is_checked K) := by
  have G_check : FnOk P w K mg base (XC P w true) 5 a.f_check a.d_check ["row"] (sp_check K a.BadRow) := ok_check T
  refine T.d_is_checked.F.okX sc_is_checked (fun vs H Q E h => ?_) (fun cdv A outer s H vs Q E hr h => ?_)
  · obtain ⟨x, bs, rfl, _⟩ := h
    rfl
  · obtain ⟨x, bs, rfl, hx, h3, h4, q⟩ := h
    obtain ⟨_, C_CHECK_BYTES⟩ := T.c_CHECK_BYTES
    refine ⟨_, pss_one (ps_ret (pe_cmpR op_eq (pe_call G_check hr rfl T.d_check.m T.d_check.F.kp T.d_check.b .nil (pass_fn (fun z => z)) (pa_cons (pe_slice (slr_or sl_list sl_tup) (pv 0) po_none (po_some (pe_un un_neg (pgi C_CHECK_BYTES)))) pa_nil)) (pe_op op_add (pe_op op_mul (pe_ix ix_seq (pv 0) (pe_un un_neg pe_int) (fun _ _ => rfl)) pe_int) (pe_ix ix_seq (pv 0) (pe_un un_neg pe_int) (fun _ _ => rfl))) (nomark _))), ?_⟩
    obtain ⟨p, rfl, hp, hz, hb⟩ := hx
    have htk : ∀ b ∈ bs.take (bs.length - 2), b < 256 := fun b hb' => hb b (List.mem_of_mem_take hb')
    have fin : ∀ H', Same H H' → Q (.bl (decide (V.int ((crcL (bs.take (bs.length - 2)) : Nat) : Int) = V.int (((bs.getD (bs.length - 2) 0 : Nat) : Int) * 256 + ((bs.getD (bs.length - 1) 0 : Nat) : Int))))) H' := fun H' s' => by
      have := q H' s'
      rw [show decide (V.int ((crcL (bs.take (bs.length - 2)) : Nat) : Int) = V.int (((bs.getD (bs.length - 2) 0 : Nat) : Int) * 256 + ((bs.getD (bs.length - 1) 0 : Nat) : Int))) = decide (crcOk bs) from by
        rw [decide_eq_decide]
        unfold crcOk
        constructor
        · intro z; injection z with z; omega
        · intro z; congr 1; omega]
      exact this
    have ix : ∀ (H' : Hp) (s' : Same H H') (k : Nat) (h1 : 1 ≤ k) (h2 : k ≤ bs.length) (j : Int) (hj : j = -(k : Int)) (R : VK), R (.int ((bs.getD (bs.length - k) 0 : Nat) : Int)) H' → rIx K (.ref p) (.int j) H' R := fun H' s' k h1 h2 j hj R hR => by
      rcases hp with hp | hp
      · exact .inl ⟨p, _, _, _, rfl, rfl, SqL.of (s' _ _ hp), natV_back h1 h2 hj, hR⟩
      · exact .inr (.inl ⟨p, _, _, _, rfl, rfl, SqT.of (s' _ _ hp), natV_back h1 h2 hj, hR⟩)
    have rest : ∀ (H1 : Hp), Same H H1 → tOp (rI0 fun i j => .int (i + j)) (tOp (rI CMul fun i j => .int (i * j)) (tOp (rIx K) (tVar 0) (tUn (rU fun i => .int (-i)) (tC (.int 2)))) (tC (.int 256))) (tOp (rIx K) (tVar 0) (tUn (rU fun i => .int (-i)) (tC (.int 1)))) [some (.ref p)] H1 (fun y H2 => rEq (.int ((crcL (bs.take (bs.length - 2)) : Nat) : Int)) y H2 Q) := fun H1 s1 => by
      refine ⟨_, rfl, _, rfl, ix H1 s1 2 (by decide) (by omega) _ rfl _ ⟨_, _, rfl, rfl, .inr ⟨by decide, by decide⟩, ?_⟩⟩
      exact ⟨_, rfl, _, rfl, ix H1 s1 1 (by decide) (by omega) _ rfl _ ⟨_, _, rfl, rfl, rfl, fin _ s1⟩⟩
    rcases hp with hp | hp
    · refine ⟨_, rfl, _, rfl, _, rfl, .inl ⟨p, _, rfl, SqL.of hp, fun l hl => ?_⟩⟩
      rw [show (-2 : Int) = -2 from rfl, cut_front (by omega)]
      exact ⟨.ref l, rfl, .inl ⟨bs.take (bs.length - 2), ⟨l, rfl, .inl upd_same, by rw [List.length_take]; omega, htk⟩, fun H1 s1 => rest H1 ((sameU hl).trans s1)⟩⟩
    · refine ⟨_, rfl, _, rfl, _, rfl, .inr ⟨p, _, rfl, SqT.of hp, ?_, fun l hl => ?_⟩⟩
      · rintro ⟨_, z⟩
        rw [natV_len] at z
        have : (if (-2 : Int) < 0 then ((-2 : Int) + (bs.length : Int)).toNat else min (-2 : Int).toNat bs.length) = bs.length := z
        rw [if_pos (by decide)] at this
        omega
      rw [show (-2 : Int) = -2 from rfl, cut_front (by omega)]
      exact ⟨.ref l, rfl, .inl ⟨bs.take (bs.length - 2), ⟨l, rfl, .inr upd_same, by rw [List.length_take]; omega, htk⟩, fun H1 s1 => rest H1 ((sameU hl).trans s1)⟩⟩
end
open PySem L2
end K6

namespace K6
open PySem L2
seal L2.PE L2.PS L2.PSs L2.PA L2.PT L2.PW L2.PG L2.PGs L2.PI L2.PO
theorem lk_place {x y : V} : List.lookup ("place" : Str) [(("place" : Str), x), (("why" : Str), y)] = some x := by
  rw [List.lookup_cons, show (("place" : Str) == "place") = true from by decide +kernel]
theorem lk_why {x y : V} : List.lookup ("why" : Str) [(("place" : Str), x), (("why" : Str), y)] = some y := by
  rw [List.lookup_cons, show (("why" : Str) == "place") = false from by decide +kernel, List.lookup_cons, show (("why" : Str) == "why") = true from by decide +kernel]
section
variable {P : Program} {w : World} {K : PySem.W.Frag} {mg : Str → Option Value} {base : Heap} {a : Ad}
theorem wd_wire (T : Tx K mg a) : Wd K a a.BadWire [false, false, false, false, false, true, false, false, false, false] := ⟨T.q_BadWire_BadNumber, T.q_BadWire_BadRow, T.q_BadWire_BadBook, T.q_BadWire_BadValue, T.q_BadWire_BadText, T.q_BadWire_BadWire, T.q_BadWire_BadCheck, T.q_BadWire_NotKin, T.q_BadWire_NoKey, T.q_BadWire_BadVersion, T.q_BadWire_v, T.z_BadWire⟩
theorem wd_row (T : Tx K mg a) : Wd K a a.BadRow [false, true, false, false, false, false, false, false, false, false] := ⟨T.q_BadRow_BadNumber, T.q_BadRow_BadRow, T.q_BadRow_BadBook, T.q_BadRow_BadValue, T.q_BadRow_BadText, T.q_BadRow_BadWire, T.q_BadRow_BadCheck, T.q_BadRow_NotKin, T.q_BadRow_NoKey, T.q_BadRow_BadVersion, T.q_BadRow_v, T.z_BadRow⟩
theorem wd_check (T : Tx K mg a) : Wd K a a.BadCheck [false, false, false, false, false, false, true, false, false, false] := ⟨T.q_BadCheck_BadNumber, T.q_BadCheck_BadRow, T.q_BadCheck_BadBook, T.q_BadCheck_BadValue, T.q_BadCheck_BadText, T.q_BadCheck_BadWire, T.q_BadCheck_BadCheck, T.q_BadCheck_NotKin, T.q_BadCheck_NoKey, T.q_BadCheck_BadVersion, T.q_BadCheck_v, T.z_BadCheck⟩
noncomputable def spW (a : Ad) : Sp := fun vs H Q E => sp_word a.BadWire "wire" vs H Q E ∨ sp_word a.BadRow "row" vs H Q E ∨ sp_word a.BadCheck "check" vs H Q E
theorem ok_wordA (T : Tx K mg a) : FnOk P w K mg base CXS 1 a.f_word a.d_word ["_law_e"] (spW a) :=
  FnOk_or (ok_word T (wd_wire T) (by decide +kernel)) (FnOk_or (ok_word T (wd_row T) (by decide +kernel)) (ok_word T (wd_check T) (by decide +kernel)))
/-- the class without fields of its own, and its word -/
noncomputable def Plain (a : Ad) (C : Addr) (y : Str) : Prop := (C = a.BadRow ∧ y = "row") ∨ (C = a.BadCheck ∧ y = "check")
noncomputable def sp_atA (a : Ad) : Sp := fun vs H Q E => sp_at a.BadWire vs H Q E ∨ ∃ e C y a0 tb, vs = [.ref e] ∧ Plain a C y ∧ H e = some (xHO e (xObj (.ref C) none a0 tb)) ∧ toldO H Q [.str y]
theorem ok_at (T : Tx K mg a) : FnOk P w K mg base CXS 2 a.f_at a.d_at ["_law_e"] (sp_atA a) := by
  have GW : FnOk P w K mg base CXS 1 a.f_word a.d_word ["_law_e"] (spW a) := ok_wordA T
  refine T.d_at.F.ok sc_at (fun vs H Q E h => ?_) (fun cdv A outer s H vs Q E hr h => ?_)
  · rcases h with ⟨e, d, a0, tb, p, y, rfl, _⟩ | ⟨e, C, y, a0, tb, rfl, _⟩ <;> rfl
  · refine ⟨_, pss_cons (ps_if (pt_val (pe_callB call_isinstX rfl T.isinstance bt_isinstance (pa_cons (pv 0) (pa_cons (pcl T.m_BadWire) pa_nil))))
        (pss_one (ps_ret (pe_lst (pa_cons pe_str (pa_cons (pe_xget (pv 0) rfl) (pa_cons (pe_xget (pv 0) rfl) (pa_cons (pe_callB (call_isinstK K rfl) rfl T.isinstance bt_isinstance (pa_cons (pe_xget (pv 0) rfl) (pa_cons (pty T.bool bt_bool) pa_nil))) pa_nil)))))))
        pss_nil)
      (pss_cons (ps_if (pt_val (pe_callB call_isinstX rfl T.isinstance bt_isinstance (pa_cons (pv 0) (pa_cons (pcl T.m_BadText) pa_nil))))
        pss_never
        pss_nil)
      (pss_one (ps_ret (pe_lst (pa_cons (pe_callSS rfl GW hr rfl T.d_word.m T.d_word.F.kp T.d_word.b (pa_cons (pv 0) pa_nil)) pa_nil))))), ?_⟩
    rcases h with ⟨e, d, a0, tb, p, y, rfl, hE, hd, q⟩ | ⟨e, C, y, a0, tb, rfl, hC, hE, q⟩
    · refine ⟨_, rfl, e, _, some d, a0, tb, _, _, _, rfl, hE, T.z_BadWire, .inr ⟨d, _, rfl, hd⟩, .inl ⟨_, rfl, rfl⟩, T.q_BadWire_BadWire, _, rfl, iteT ?_⟩
      refine ⟨_, rfl, e, _, d, a0, tb, _, _, rfl, hE, hd, T.z_BadWire, T.n_place, lk_place, _, rfl, e, _, d, a0, tb, _, _, rfl, hE, hd, T.z_BadWire, T.n_why, lk_why, _, rfl, e, _, d, a0, tb, _, _, rfl, hE, hd, T.z_BadWire, T.n_place, lk_place,
        .int _, .ty "bool", .type "int", .type "bool", false, rfl, .int _, rfl, T.q_int_bool, by show 4 ≤ sizeLine; decide, fun r hr => ?_⟩
      exact q r _ hr (sameU hr) upd_same
    · rcases hC with ⟨rfl, rfl⟩ | ⟨rfl, rfl⟩
      · refine ⟨_, rfl, e, _, none, a0, tb, _, _, _, rfl, hE, T.z_BadRow, .inl rfl, .inl ⟨_, rfl, rfl⟩, T.q_BadRow_BadWire, _, rfl, iteF ?_⟩
        refine ⟨_, rfl, e, _, none, a0, tb, _, _, _, rfl, hE, T.z_BadRow, .inl rfl, .inl ⟨_, rfl, rfl⟩, T.q_BadRow_BadText, _, rfl, iteF ?_⟩
        refine ⟨_, rfl, .inr (.inl ⟨e, none, a0, tb, rfl, hE, .inl rfl, fun H1 s1 => ⟨by show 1 ≤ sizeLine; decide, fun r hr => ?_⟩⟩)⟩
        exact q r _ (s1.free hr) (s1.trans (sameU hr)) upd_same
      · refine ⟨_, rfl, e, _, none, a0, tb, _, _, _, rfl, hE, T.z_BadCheck, .inl rfl, .inl ⟨_, rfl, rfl⟩, T.q_BadCheck_BadWire, _, rfl, iteF ?_⟩
        refine ⟨_, rfl, e, _, none, a0, tb, _, _, _, rfl, hE, T.z_BadCheck, .inl rfl, .inl ⟨_, rfl, rfl⟩, T.q_BadCheck_BadText, _, rfl, iteF ?_⟩
        refine ⟨_, rfl, .inr (.inr ⟨e, none, a0, tb, rfl, hE, .inl rfl, fun H1 s1 => ⟨by show 1 ≤ sizeLine; decide, fun r hr => ?_⟩⟩)⟩
        exact q r _ (s1.free hr) (s1.trans (sameU hr)) upd_same
end
open PySem L2
end K6

namespace K6
open PySem L2
seal L2.PE L2.PS L2.PSs L2.PA L2.PT L2.PW L2.PG L2.PGs L2.PI L2.PO
/-! ### the mathematics of kept rows in pieces -/
/-- w[a:b] -/
def seg (w : List Nat) (a b : Nat) : List Nat := (w.take b).drop a
theorem seg_len {w : List Nat} {a b : Nat} (h : b ≤ w.length) : (seg w a b).length = b - a := by
  unfold seg; rw [List.length_drop, List.length_take]; omega
theorem seg_at {w : List Nat} {a b i : Nat} (h : a + i < b) : (seg w a b)[i]? = w[a + i]? := by
  unfold seg
  rw [List.getElem?_drop, List.getElem?_take, if_pos h]
theorem seg_getD {w : List Nat} {a b i : Nat} (h : a + i < b) : (seg w a b).getD i 0 = w.getD (a + i) 0 := by
  rw [List.getD_eq_getElem?_getD, List.getD_eq_getElem?_getD, seg_at h]
theorem seg_snoc {w : List Nat} {a b : Nat} (h : b < w.length) (ha : a ≤ b) : seg w a (b + 1) = seg w a b ++ [w.getD b 0] := by
  unfold seg
  rw [List.take_add_one, List.getElem?_eq_getElem h, List.drop_append_of_le_length (by rw [List.length_take]; omega), List.getD_eq_getElem?_getD, List.getElem?_eq_getElem h]
  rfl
theorem seg_nil (w : List Nat) (a : Nat) : seg w a a = [] := by
  unfold seg
  apply List.drop_eq_nil_of_le
  rw [List.length_take]; omega
theorem seg_seg {w : List Nat} {p E a b : Nat} (hE : b ≤ E) : ((seg w p (p + E)).take b).drop a = seg w (p + a) (p + b) := by
  unfold seg
  rw [List.take_drop, List.take_take, List.drop_drop, Nat.min_eq_left (by omega)]
/-- what begins at a place: nothing yet, a refusal and how many bytes tell it, a row and the place behind -/
inductive N6 where
  | none
  | bad (o : O5) (e : Nat)
  | row (r : List Nat) (e : Nat)
noncomputable def fin6 (w : List Nat) (p : Nat) (n e : Nat) : N6 :=
  if 30000 < n then .bad (.wire (p : Int) "length") e else if w.length < e + n + 2 then .none else
    if crcOk (seg w p (e + n + 2)) then .row (seg w e (e + n)) (e + n + 2) else .bad .chk (e + n + 2)
noncomputable def of6 (w : List Nat) (p : Nat) : Out → N6
  | .wire q y => if q = (w.length : Int) ∧ y = "cut" then .none else .bad (.wire q y) (q.toNat + 1)
  | .num n e => fin6 w p n.toNat e.toNat
noncomputable def nextF (w : List Nat) (p : Nat) : N6 := of6 w p (rd (intsN w) p (w.length - p) p 0 1)
/-- bytes of a number that is not over -/
def pend (h : List Nat) : Prop := (∀ b ∈ h, 128 ≤ b) ∧ h.length ≤ 36
/-- the number that these bytes have so far, and the scale -/
def accN (h : List Nat) : Int × Int := h.foldl (fun (a : Int × Int) (b : Nat) => (a.1 + ((b : Int) - 128) * a.2, a.2 * 128)) (0, 1)
theorem accN_snoc (h : List Nat) (b : Nat) : accN (h ++ [b]) = ((accN h).1 + ((b : Int) - 128) * (accN h).2, (accN h).2 * 128) := by
  unfold accN; rw [List.foldl_append]; rfl
theorem pend_snoc {h : List Nat} {b : Nat} (hp : pend h) (hb : 128 ≤ b) (hl : h.length < 36) : pend (h ++ [b]) := by
  refine ⟨fun c hc => ?_, by rw [List.length_append]; show h.length + 1 ≤ 36; omega⟩
  rcases List.mem_append.mp hc with z | z
  · exact hp.1 c z
  · rw [List.mem_singleton.mp z]; exact hb
theorem pend_nil : pend [] := ⟨fun b hb => (List.not_mem_nil hb).elim, Nat.zero_le _⟩
theorem snoc_ind {P : List Nat → Prop} (h0 : P []) (h1 : ∀ l b, P l → P (l ++ [b])) (l : List Nat) : P l := by
  have h : ∀ l : List Nat, P l.reverse := fun l => by
    induction l with
    | nil => exact h0
    | cons b l ih => rw [List.reverse_cons]; exact h1 _ _ ih
  have := h l.reverse
  rwa [List.reverse_reverse] at this
/-- a reading that goes on through pending bytes -/
theorem rd_pend {w : List Nat} {p : Nat} : ∀ (h : List Nat) (j f : Nat), pend h → p + h.length = j → seg w p j = h → rd (intsN w) p (h.length + f) p 0 1 = rd (intsN w) p f j (accN h).1 (accN h).2 := by
  intro h
  induction h using snoc_ind with
  | h0 => intro j f _ hj _; subst hj; show rd _ p (0 + f) p 0 1 = rd _ p f (p + 0) 0 1; rw [Nat.zero_add, Nat.add_zero]
  | h1 h b ih =>
    intro j f hp hj hs
    rw [List.length_append] at hj
    have hj : p + (h.length + 1) = j := hj
    have hp0 : pend h := ⟨fun c hc => hp.1 c (List.mem_append_left _ hc), by have := hp.2; rw [List.length_append] at this; omega⟩
    have hl : (h ++ [b]).length = h.length + 1 := by rw [List.length_append]; rfl
    have hlen := hp.2
    rw [hl] at hlen
    have hw : j ≤ w.length := by
      have e1 : (seg w p j).length = h.length + 1 := by rw [hs]; exact hl
      unfold seg at e1
      rw [List.length_drop, List.length_take] at e1
      omega
    have hs0 : seg w p (p + h.length) = h := by
      have e := seg_snoc (w := w) (a := p) (b := p + h.length) (by omega) (by omega)
      rw [show p + h.length + 1 = j by omega, hs] at e
      exact ((List.append_inj' e rfl).1).symm
    have hb : w.getD (p + h.length) 0 = b := by
      have e := seg_snoc (w := w) (a := p) (b := p + h.length) (by omega) (by omega)
      rw [show p + h.length + 1 = j by omega, hs] at e
      have := (List.append_inj' e rfl).2
      injection this with t _
      exact t.symm
    have h128 : 128 ≤ b := hp.1 b (List.mem_append_right _ (List.mem_singleton.mpr rfl))
    have e0 := ih (p + h.length) (f + 1) hp0 rfl hs0
    rw [hl, show h.length + 1 + f = h.length + (f + 1) by omega, e0]
    have ew : (intsN w).getD (p + h.length) 0 = (b : Int) := by rw [ints_at, hb]
    rw [rd_on (by rw [ew]; omega) (by rw [ew]; omega), ew, accN_snoc, show p + h.length + 1 = j by omega]
theorem accN_nn : ∀ h : List Nat, (∀ b ∈ h, 128 ≤ b) → 0 ≤ (accN h).1 ∧ 0 < (accN h).2 := by
  intro h
  induction h using snoc_ind with
  | h0 => intro _; exact ⟨by decide, by decide⟩
  | h1 h b ih =>
    intro hb
    obtain ⟨a1, a2⟩ := ih fun c hc => hb c (List.mem_append_left _ hc)
    have := hb b (List.mem_append_right _ (List.mem_singleton.mpr rfl))
    rw [accN_snoc]
    exact ⟨Int.add_nonneg a1 (Int.mul_nonneg (by omega) (by omega)), by show 0 < (accN h).2 * 128; omega⟩
theorem rd_at {bs : List Int} {at0 : Nat} : ∀ (f p : Nat) (n s q : Int) (y : Str), rd bs at0 f p n s = .wire q y → ∃ q' : Nat, q = (q' : Int) ∧ p ≤ q' ∧ q' ≤ p + f ∧ (y = "cut" → q' = p + f)
  | 0, p, n, s, q, y, h => by rw [rd] at h; injection h with h1 h2; exact ⟨p, h1.symm, Nat.le_refl _, Nat.le_refl _, fun _ => rfl⟩
  | f + 1, p, n, s, q, y, h => by
    rw [rd] at h
    split at h
    · injection h with h1 h2
      refine ⟨p, h1.symm, Nat.le_refl _, by omega, fun z => ?_⟩
      rw [z] at h2
      exact absurd h2 (by decide +kernel)
    · split at h
      · cases h
      · obtain ⟨q', h1, h2, h3, h4⟩ := rd_at f (p + 1) _ _ q y h
        exact ⟨q', h1, by omega, by omega, fun z => by have := h4 z; omega⟩
theorem rd_nat {bs : List Nat} {at0 : Nat} (hB : ∀ b ∈ bs, b < 256) : ∀ (f p : Nat) (n s m e : Int), 0 ≤ n → 0 ≤ s → rd (intsN bs) at0 f p n s = .num m e → ∃ m' e' : Nat, m = (m' : Int) ∧ e = (e' : Int) ∧ p < e' ∧ e' ≤ p + f
  | 0, p, n, s, m, e, _, _, h => by rw [rd] at h; cases h
  | f + 1, p, n, s, m, e, hn, hs, h => by
    have b0 : (0 : Int) ≤ (intsN bs).getD p 0 := by rw [ints_at]; exact Int.natCast_nonneg _
    rw [rd] at h
    split at h
    · cases h
    · split at h
      · injection h with h1 h2
        have k := Int.add_nonneg hn (Int.mul_nonneg b0 hs)
        exact ⟨m.toNat, p + 1, by rw [Int.toNat_of_nonneg (by rw [← h1]; exact k)], by rw [← h2]; rfl, by omega, by omega⟩
      · rename_i k1 k2
        obtain ⟨m', e', h1, h2, h3, h4⟩ := rd_nat hB f (p + 1) _ _ m e (Int.add_nonneg hn (Int.mul_nonneg (by omega) hs)) (Int.mul_nonneg hs (by decide)) h
        exact ⟨m', e', h1, h2, by omega, by omega⟩
/-- where a box stands: the kept row begins at p, j bytes came in all; behind and size as it has them -/
def BI (w : List Nat) (p j be sz : Nat) : Prop := p ≤ j ∧ j ≤ w.length ∧ ((sz = 0 ∧ pend (seg w p j)) ∨ ∃ n : Nat, n ≤ 30000 ∧ 0 < be ∧ p + be ≤ j ∧ sz = be + n + 2 ∧ j < p + sz ∧ rd (intsN w) p (w.length - p) p 0 1 = .num (n : Int) ((p + be : Nat) : Int))
theorem BI.new {w : List Nat} {p : Nat} (h : p ≤ w.length) (be : Nat) : BI w p p be 0 := ⟨Nat.le_refl _, h, .inl ⟨rfl, by rw [seg_nil]; exact pend_nil⟩⟩
/-- the reading of the whole goes on behind pending bytes -/
theorem rd_go {w : List Nat} {p j : Nat} (h1 : p ≤ j) (h2 : j ≤ w.length) (hp : pend (seg w p j)) : rd (intsN w) p (w.length - p) p 0 1 = rd (intsN w) p (w.length - j) j (accN (seg w p j)).1 (accN (seg w p j)).2 := by
  have hl := seg_len (w := w) (a := p) (b := j) h2
  have := rd_pend (w := w) (p := p) (seg w p j) j (w.length - j) hp (by omega) rfl
  rw [hl, show j - p + (w.length - j) = w.length - p by omega] at this
  exact this
/-- the number is over, or refused, by the byte that came -/
theorem over_cases {w : List Nat} (hB : ∀ b ∈ w, b < 256) {p j : Nat} (h1 : p ≤ j) (h2 : j < w.length) (hp : pend (seg w p j)) (ho : w.getD j 0 < 128 ∨ 36 ≤ j - p) :
    (rd (intsN (seg w p (j + 1))) 0 (j + 1 - p) 0 0 1 = .wire ((j - p : Nat) : Int) "number" ∧ rd (intsN w) p (w.length - p) p 0 1 = .wire ((j : Nat) : Int) "number") ∨
    ∃ n : Nat, rd (intsN (seg w p (j + 1))) 0 (j + 1 - p) 0 0 1 = .num (n : Int) ((j + 1 - p : Nat) : Int) ∧ rd (intsN w) p (w.length - p) p 0 1 = .num (n : Int) ((j + 1 : Nat) : Int) := by
  have hl := seg_len (w := w) (a := p) (b := j) (by omega)
  have hl1 := seg_len (w := w) (a := p) (b := j + 1) (by omega)
  have e1 := rd_go h1 (by omega) hp
  rw [show w.length - j = (w.length - j - 1) + 1 by omega] at e1
  have e2 : rd (intsN (seg w p (j + 1))) 0 (j + 1 - p) 0 0 1 = rd (intsN (seg w p (j + 1))) 0 1 (j - p) (accN (seg w p j)).1 (accN (seg w p j)).2 := by
    have := rd_pend (w := seg w p (j + 1)) (p := 0) (seg w p j) (j - p) 1 hp (by rw [hl]; omega) (by
      rw [seg_snoc h2 h1]
      unfold seg
      rw [List.drop_zero]
      have : ((w.take j).drop p).length = j - p := hl
      rw [List.take_left' this])
    rw [hl, show j - p + 1 = j + 1 - p by omega] at this
    exact this
  have g1 : (intsN w).getD j 0 = ((w.getD j 0 : Nat) : Int) := ints_at w j
  have g2 : (intsN (seg w p (j + 1))).getD (j - p) 0 = ((w.getD j 0 : Nat) : Int) := by
    rw [ints_at, seg_getD (by omega), show p + (j - p) = j by omega]
  obtain ⟨a1, a2⟩ := accN_nn _ hp.1
  by_cases hb : (w.getD j 0 = 0 ∧ p < j) ∨ (15 < w.getD j 0 ∧ j = p + 36)
  · left
    constructor
    · rw [e2, rd_bad (by rw [g2]; omega)]
    · rw [e1, rd_bad (by rw [g1]; omega)]
  · right
    have hlen := hp.2
    rw [hl] at hlen
    have h128 : w.getD j 0 < 128 := by omega
    have nn : 0 ≤ (accN (seg w p j)).1 + ((w.getD j 0 : Nat) : Int) * (accN (seg w p j)).2 := Int.add_nonneg a1 (Int.mul_nonneg (Int.natCast_nonneg _) (by omega))
    refine ⟨((accN (seg w p j)).1 + ((w.getD j 0 : Nat) : Int) * (accN (seg w p j)).2).toNat, ?_, ?_⟩
    · rw [e2, rd_end (by rw [g2]; omega) (by rw [g2]; omega), g2, Int.toNat_of_nonneg nn, show j + 1 - p = j - p + 1 by omega]
      rfl
    · rw [e1, rd_end (by rw [g1]; omega) (by rw [g1]; omega), g1, Int.toNat_of_nonneg nn]
      rfl
theorem next_num {w : List Nat} {p n e : Nat} (h : rd (intsN w) p (w.length - p) p 0 1 = .num (n : Int) (e : Int)) : nextF w p = fin6 w p n e := by
  unfold nextF; rw [h]; rfl
theorem next_bad {w : List Nat} {p q : Nat} (h : rd (intsN w) p (w.length - p) p 0 1 = .wire (q : Int) "number") : nextF w p = .bad (.wire (q : Int) "number") (q + 1) := by
  unfold nextF
  rw [h]
  show (if _ ∧ ("number" : Str) = "cut" then _ else _) = _
  rw [if_neg (fun z => absurd z.2 (by decide +kernel))]
  rfl
/-- what begins at p is not told by j bytes -/
theorem BI.und {w : List Nat} (hB : ∀ b ∈ w, b < 256) {p j be sz : Nat} (h : BI w p j be sz) : (∀ o e, nextF w p = .bad o e → j < e) ∧ ∀ r e, nextF w p = .row r e → j < e := by
  obtain ⟨h1, h2, h | ⟨n, hn, hb0, hb, hs, hj, hr⟩⟩ := h
  · have e1 := rd_go h1 h2 h.2
    obtain ⟨a1, a2⟩ := accN_nn _ h.2.1
    cases e0 : rd (intsN w) p (w.length - p) p 0 1 with
    | wire q y =>
      have e2 := e1.symm.trans e0
      obtain ⟨q', rfl, h3, h4, h5⟩ := rd_at _ _ _ _ _ _ e2
      unfold nextF
      rw [e0]
      constructor
      · intro o e h
        change (if _ then N6.none else N6.bad _ _) = _ at h
        split at h
        · cases h
        · injection h with _ h; rw [← h, Int.toNat_natCast]; omega
      · intro r e h
        change (if _ then N6.none else N6.bad _ _) = _ at h
        split at h <;> cases h
    | num m e =>
      have e2 := e1.symm.trans e0
      obtain ⟨m', e', rfl, rfl, h3, h4⟩ := rd_nat hB _ _ _ _ _ _ a1 (by omega) e2
      rw [next_num e0]
      unfold fin6
      constructor
      · intro o e h
        split at h
        · injection h with _ h; omega
        · split at h
          · cases h
          · split at h
            · cases h
            · injection h with _ h; omega
      · intro r e h
        split at h
        · cases h
        · split at h
          · cases h
          · split at h
            · injection h with _ h; omega
            · cases h
  · rw [next_num hr]
    unfold fin6
    rw [if_neg (by omega)]
    constructor
    · intro o e h
      split at h
      · cases h
      · split at h
        · cases h
        · injection h with _ h; omega
    · intro r e h
      split at h
      · cases h
      · split at h
        · injection h with _ h; omega
        · cases h
theorem next_row {w : List Nat} (hB : ∀ b ∈ w, b < 256) {p : Nat} (hp : p ≤ w.length) {r : List Nat} {e : Nat} (h : nextF w p = .row r e) : p + 3 ≤ e ∧ e ≤ w.length ∧ (∀ b ∈ r, b < 256) ∧ r.length ≤ w.length := by
  unfold nextF at h
  cases e0 : rd (intsN w) p (w.length - p) p 0 1 with
  | wire q y =>
    rw [e0] at h
    change (if _ then N6.none else N6.bad _ _) = _ at h
    split at h <;> cases h
  | num m e =>
    obtain ⟨m', e', rfl, rfl, h3, h4⟩ := rd_nat hB _ _ _ _ _ _ (by decide) (by decide) e0
    rw [e0] at h
    change fin6 w p m' e' = _ at h
    unfold fin6 at h
    split at h
    · cases h
    · split at h
      · cases h
      · split at h
        · injection h with h5 h6
          refine ⟨by omega, by omega, fun b hb => ?_, ?_⟩
          · rw [← h5] at hb
            exact hB b (List.mem_of_mem_take (List.mem_of_mem_drop hb))
          · rw [← h5]
            unfold seg
            rw [List.length_drop, List.length_take]
            omega
        · cases h
/-- the rows from a place on, and what ends them -/
inductive Ch (w : List Nat) : Nat → List (List Nat × Nat) → N6 → Prop where
  | stop {p : Nat} {x : N6} (h : nextF w p = x) (n : ∀ r e, x ≠ .row r e) : Ch w p [] x
  | more {p : Nat} {r : List Nat} {e : Nat} {l : List (List Nat × Nat)} {x : N6} (h : nextF w p = .row r e) (t : Ch w e l x) : Ch w p ((r, e) :: l) x
theorem Ch.ends {w : List Nat} (hB : ∀ b ∈ w, b < 256) {p : Nat} {l : List (List Nat × Nat)} {x : N6} (c : Ch w p l x) : p ≤ w.length → (∀ q ∈ l, p < q.2 ∧ q.2 ≤ w.length ∧ (∀ b ∈ q.1, b < 256) ∧ q.1.length ≤ w.length) := by
  induction c with
  | stop h n => intro _ q hq; cases hq
  | @more p r e l x h t ih =>
    intro hp q hq
    obtain ⟨h1, h2, h3, h4⟩ := next_row hB hp h
    rcases List.mem_cons.mp hq with rfl | hq
    · exact ⟨by show p < e; omega, h2, h3, h4⟩
    · obtain ⟨k1, k2, k3, k4⟩ := ih h2 q hq
      exact ⟨by omega, k2, k3, k4⟩
/-- as long as the first is not told, none behind it is -/
theorem Ch.und {w : List Nat} (hB : ∀ b ∈ w, b < 256) {p j : Nat} {l : List (List Nat × Nat)} {x : N6} (c : Ch w p l x) (hp : p ≤ w.length) (h : (∀ o e, nextF w p = .bad o e → j < e) ∧ ∀ r e, nextF w p = .row r e → j < e) : (∀ q ∈ l, j < q.2) ∧ ∀ o e, x = .bad o e → j < e := by
  induction c generalizing j with
  | stop h0 n => exact ⟨fun q hq => (by cases hq), fun o e z => h.1 o e (h0.trans z)⟩
  | @more p r e l x h0 t ih =>
    obtain ⟨h1, h2, _⟩ := next_row hB hp h0
    have hj := h.2 r e h0
    have k := BI.und hB (BI.new h2 0)
    obtain ⟨k1, k2⟩ := ih (j := e) h2 k
    refine ⟨fun q hq => ?_, fun o e' z => Nat.lt_trans hj (k2 o e' z)⟩
    rcases List.mem_cons.mp hq with rfl | hq
    · exact hj
    · exact Nat.lt_trans hj (k1 q hq)
theorem BI.on {w : List Nat} {p j be : Nat} (h : BI w p j be 0) (hj : j < w.length) (ho : ¬ (w.getD j 0 < 128 ∨ 36 ≤ j - p)) : BI w p (j + 1) be 0 := by
  obtain ⟨h1, h2, h | ⟨n, hn, hb0, hb, hs, hj, hr⟩⟩ := h
  · refine ⟨by omega, hj, .inl ⟨rfl, ?_⟩⟩
    rw [seg_snoc hj h1]
    exact pend_snoc h.2 (by omega) (by rw [seg_len h2]; omega)
  · omega
theorem BI.over {w : List Nat} (hB : ∀ b ∈ w, b < 256) {p j be : Nat} (h : BI w p j be 0) (hj : j < w.length) (ho : w.getD j 0 < 128 ∨ 36 ≤ j - p) :
    (rd (intsN (seg w p (j + 1))) 0 (j + 1 - p) 0 0 1 = .wire ((j - p : Nat) : Int) "number" ∧ nextF w p = .bad (.wire (j : Int) "number") (j + 1)) ∨
    ∃ n : Nat, rd (intsN (seg w p (j + 1))) 0 (j + 1 - p) 0 0 1 = .num (n : Int) ((j + 1 - p : Nat) : Int) ∧
      ((30000 < n ∧ nextF w p = .bad (.wire (p : Int) "length") (j + 1)) ∨ (n ≤ 30000 ∧ BI w p (j + 1) (j + 1 - p) (j + 1 - p + n + 2))) := by
  obtain ⟨h1, h2, h | ⟨n, hn, hb0, hb, hs, hj, hr⟩⟩ := h
  · rcases over_cases hB h1 hj h.2 ho with ⟨e1, e2⟩ | ⟨n, e1, e2⟩
    · exact .inl ⟨e1, next_bad e2⟩
    · refine .inr ⟨n, e1, ?_⟩
      by_cases c : 30000 < n
      · refine .inl ⟨c, ?_⟩
        rw [next_num e2]
        unfold fin6
        rw [if_pos c]
      · refine .inr ⟨by omega, by omega, hj, .inr ⟨n, by omega, by omega, by omega, rfl, by omega, ?_⟩⟩
        rw [show p + (j + 1 - p) = j + 1 by omega]
        exact e2
  · omega
theorem BI.step {w : List Nat} {p j be sz : Nat} (h : BI w p j be sz) (h0 : sz ≠ 0) (hj : j < w.length) (hs : j + 1 - p ≠ sz) : BI w p (j + 1) be sz := by
  obtain ⟨h1, h2, h | ⟨n, hn, hb0, hb, hs', hj', hr⟩⟩ := h
  · exact absurd h.1 h0
  · exact ⟨by omega, hj, .inr ⟨n, hn, hb0, by omega, hs', by omega, hr⟩⟩
theorem BI.fin {w : List Nat} {p j be sz : Nat} (h : BI w p j be sz) (h0 : sz ≠ 0) (hj : j < w.length) (hs : j + 1 - p = sz) : 0 < be ∧ be + 2 ≤ sz ∧ nextF w p = if crcOk (seg w p (j + 1)) then .row (((seg w p (j + 1)).take ((seg w p (j + 1)).length - 2)).drop be) (j + 1) else .bad .chk (j + 1) := by
  obtain ⟨h1, h2, h | ⟨n, hn, hb0, hb, hs', hj', hr⟩⟩ := h
  · exact absurd h.1 h0
  · refine ⟨hb0, by omega, ?_⟩
    have hl := seg_len (w := w) (a := p) (b := j + 1) (by omega)
    rw [next_num hr]
    unfold fin6
    rw [if_neg (by omega), if_neg (by omega), show p + be + n + 2 = j + 1 by omega, hl]
    have e := seg_seg (w := w) (p := p) (E := j + 1 - p) (a := be) (b := j + 1 - p - 2) (by omega)
    rw [show p + (j + 1 - p) = j + 1 by omega] at e
    rw [e, show p + (j + 1 - p - 2) = p + be + n by omega]
end K6

namespace K6
open PySem L2
seal L2.PE L2.PS L2.PSs L2.PA L2.PT L2.PW L2.PG L2.PGs L2.PI L2.PO
/-! ### a box -/
def BxF (L : Addr) (st be sz pl : Int) (why : Str) : List (Str × V) := [("held", .ref L), ("start", .int st), ("behind", .int be), ("size", .int sz), ("place", .int pl), ("why", .str why)]
section
variable {L L' : Addr} {st be sz pl st' be' sz' pl' : Int} {why why' : Str}
theorem lk_held : (BxF L st be sz pl why).lookup ("held" : Str) = some (.ref L) := by kernel_rfl
theorem lk_start : (BxF L st be sz pl why).lookup ("start" : Str) = some (.int st) := by kernel_rfl
theorem lk_behind : (BxF L st be sz pl why).lookup ("behind" : Str) = some (.int be) := by kernel_rfl
theorem lk_size : (BxF L st be sz pl why).lookup ("size" : Str) = some (.int sz) := by kernel_rfl
theorem lk_pl : (BxF L st be sz pl why).lookup ("place" : Str) = some (.int pl) := by kernel_rfl
theorem lk_wh : (BxF L st be sz pl why).lookup ("why" : Str) = some (.str why) := by kernel_rfl
theorem no_refuse : (BxF L st be sz pl why).lookup ("refuse" : Str) = none := by kernel_rfl
theorem no_right : (BxF L st be sz pl why).lookup ("need_right" : Str) = none := by kernel_rfl
theorem no_look : (BxF L st be sz pl why).lookup ("look_at_length" : Str) = none := by kernel_rfl
theorem no_finish : (BxF L st be sz pl why).lookup ("finish" : Str) = none := by kernel_rfl
theorem no_take : (BxF L st be sz pl why).lookup ("take" : Str) = none := by kernel_rfl
theorem no_end : (BxF L st be sz pl why).lookup ("end" : Str) = none := by kernel_rfl
theorem pf_held : putF "held" (.ref L') (BxF L st be sz pl why) = BxF L' st be sz pl why := by kernel_rfl
theorem pf_start : putF "start" (.int st') (BxF L st be sz pl why) = BxF L st' be sz pl why := by kernel_rfl
theorem pf_behind : putF "behind" (.int be') (BxF L st be sz pl why) = BxF L st be' sz pl why := by kernel_rfl
theorem pf_size : putF "size" (.int sz') (BxF L st be sz pl why) = BxF L st be sz' pl why := by kernel_rfl
theorem pf_place : putF "place" (.int pl') (BxF L st be sz pl why) = BxF L st be sz pl' why := by kernel_rfl
theorem pf_why : putF "why" (.str why') (BxF L st be sz pl why) = BxF L st be sz pl why' := by kernel_rfl
theorem pf_new : putF "why" (.str "") (putF "place" (.int 0) (putF "size" (.int 0) (putF "behind" (.int 0) (putF "start" (.int 0) (putF "held" (.ref L) []))))) = BxF L 0 0 0 0 "" := by kernel_rfl
theorem few_put {f : Str} {v : V} : ∀ {fs : List (Str × V)} {n : Nat}, fs.length < n → (putF f v fs).length < n + 1
  | [], n, h => Nat.succ_lt_succ h
  | (g, x) :: r, n, h => by
    unfold putF
    split
    · exact Nat.lt_succ_of_lt h
    · exact Nat.succ_lt_succ (Nat.lt_of_lt_of_le (few_put (Nat.lt_succ_self r.length)) h)
theorem few6 : (BxF L st be sz pl why).length < 1000 := by show 6 < 1000; decide
end
/-- all but what stands in S is as it was -/
def SameX (S : List Addr) (H H' : Hp) : Prop := ∀ b o, b ∉ S → H b = some o → H' b = some o
theorem SameX.of {S : List Addr} {H H' : Hp} (s : Same H H') : SameX S H H' := fun b o _ e => s b o e
theorem SameX.trans {S : List Addr} {H H1 H2 : Hp} (s : SameX S H H1) (t : SameX S H1 H2) : SameX S H H2 := fun b o n e => t b o n (s b o n e)
theorem SameX.mono {S S' : List Addr} {H H' : Hp} (s : SameX S H H') (h : ∀ b ∈ S, b ∈ S') : SameX S' H H' := fun b o n e => s b o (fun z => n (h b z)) e
theorem SameX.upd {H : Hp} {x : Addr} {o : HO} : SameX [x] H (upd H x o) := fun b u n e => by
  rw [upd_ne (fun z => n (List.mem_singleton.mpr z))]
  exact e
theorem SameX.free {S : List Addr} {H H' : Hp} (s : SameX S H H') {l : Addr} (n : l ∉ S) (h : H' l = none) : H l = none := by
  cases e : H l with
  | none => rfl
  | some o => rw [s l o n e] at h; cases h
/-- what the program has of the class of boxes -/
structure Fr (K : PySem.W.Frag) (a : Ad) : Prop where
  c : Cls K a.Frames
  held : NoAttr K a.Frames "held"
  start : NoAttr K a.Frames "start"
  behind : NoAttr K a.Frames "behind"
  size : NoAttr K a.Frames "size"
  place : NoAttr K a.Frames "place"
  why : NoAttr K a.Frames "why"
  mks : PySem.W.makesIn K a.Frames = true
  kp : PySem.W.keepIn K (.ref a.Frames) = true
/-- a refusal as a box holds it -/
def Rf (o : O5) (pl : Int) (why : Str) : Prop := match o with
  | .chk => why = "check"
  | .wire p y => why = y ∧ pl = p ∧ (y = "number" ∨ y = "length") ∧ ∃ n : Nat, p = (n : Int) ∧ n ≤ 400
  | .row _ => False
theorem Rf.ne {o : O5} {pl : Int} {why : Str} (h : Rf o pl why) : why ≠ "" := by
  cases o with
  | chk => rw [show why = "check" from h]; decide +kernel
  | wire p y =>
    obtain ⟨rfl, _, h, _⟩ := h
    rcases h with rfl | rfl <;> decide +kernel
  | row r => exact h.elim
def refX (bw bc : Addr) (H : Hp) (E : XK) : O5 → Prop
  | .wire p y => wireX bw H p y E
  | .chk => ∀ H', Same H H' → E (.ref bc) none H'
  | .row _ => False
theorem refX.mono {bw bc : Addr} {H H1 : Hp} {E : XK} {o : O5} (k : refX bw bc H E o) (s : Same H H1) : refX bw bc H1 E o := by
  cases o with
  | wire p y => exact wireX.mono k s
  | chk => exact fun H' s' => k H' (s.trans s')
  | row r => exact k
def sp_refuse (C : Addr) : Sp := fun vs H Q _ => ∃ (x dx L : Addr) (st be sz pl pl' : Int) (why why' : Str), vs = [.ref x, .int pl', .str why'] ∧ H x = some (.ins C dx (BxF L st be sz pl why)) ∧ Q .non (upd H x (.ins C dx (BxF L st be sz pl' why')))
def sp_over : Sp := fun vs H Q _ => ∃ (p : Addr) (h : List Nat), vs = [.ref p] ∧ H p = some (.lst (natV h)) ∧ 1 ≤ h.length ∧ Q (.bl (decide (h.getD (h.length - 1) 0 < 128 ∨ 36 < h.length))) H
def sp_right (C bw bc : Addr) : Sp := fun vs H Q E => ∃ (x dx L : Addr) (st be sz pl : Int) (why : Str), vs = [.ref x] ∧ H x = some (.ins C dx (BxF L st be sz pl why)) ∧ ((why = "" ∧ Q .non H) ∨ ∃ o, Rf o pl why ∧ refX bw bc H E o)
def sp_finit (C : Addr) : Sp := fun vs H Q _ => ∃ (x dx : Addr), vs = [.ref x] ∧ H x = some (.ins C dx []) ∧ ∀ L H', H L = none → SameX [x] H H' → H' x = some (.ins C dx (BxF L 0 0 0 0 "")) → H' L = some (.lst []) → Q .non H'
section
variable {P : Program} {w : World} {K : PySem.W.Frag} {mg : Str → Option Value} {base : Heap} {a : Ad}
theorem ok_refuse (T : Tx K mg a) (R : Fr K a) {CX : CXT} : FnOk P w K mg base CX 1 a.f_Frames_refuse a.d_Frames_refuse ["self", "place", "why"] (sp_refuse a.Frames) := by
  refine T.d_Frames_refuse.F.ok sc_Frames_refuse (fun vs H Q E h => ?_) (fun cdv A outer s H vs Q E hr h => ?_)
  · obtain ⟨x, dx, L, st, be, sz, pl, pl', why, why', rfl, _⟩ := h
    rfl
  · obtain ⟨x, dx, L, st, be, sz, pl, pl', why, why', rfl, hx, q⟩ := h
    refine ⟨_, pss_cons (ps_fld (pv 0) (pv 1) rfl) (pss_one (ps_fld (pv 0) (pv 2) rfl)), ?_⟩
    refine ⟨_, rfl, _, rfl, x, _, dx, _, rfl, hx, R.c, R.place, few6, ?_⟩
    rw [pf_place]
    refine ⟨_, rfl, _, rfl, x, _, dx, _, rfl, upd_same, R.c, R.why, few6, ?_⟩
    rw [pf_why, upd_upd]
    exact q
theorem ok_over (T : Tx K mg a) : FnOk P w K mg base CX0 1 a.f_is_number_over a.d_is_number_over ["held"] sp_over := by
  obtain ⟨_, C36⟩ := T.c_LAST_PLACE
  refine T.d_is_number_over.F.ok sc_is_number_over (fun vs H Q E h => ?_) (fun cdv A outer s H vs Q E hr h => ?_)
  · obtain ⟨p, h, rfl, _⟩ := h
    rfl
  · obtain ⟨p, h, rfl, hp, h1, q⟩ := h
    refine ⟨_, pss_one (ps_ret (pe_or (pe_cmpR op_lt (pe_ix ix_list (pv 0) (pe_un un_neg pe_int) (fun _ _ => rfl)) pe_int (nomark _)) (pe_one (pe_cmpR op_gt (pe_callB call_len_seq (by rfl) T.len bt_len (pa_cons (pv 0) pa_nil)) (pgi C36) (nomark _))))), ?_⟩
    refine ⟨_, rfl, _, rfl, p, _, _, _, rfl, rfl, SqL.of hp, natV_back (k := 1) (by decide) h1 rfl, _, _, rfl, rfl, _, rfl, ?_⟩
    by_cases c : h.getD (h.length - 1) 0 < 128
    · rw [decide_eq_true (.inl c : h.getD (h.length - 1) 0 < 128 ∨ 36 < h.length)] at q
      rw [show decide (((h.getD (h.length - 1) 0 : Nat) : Int) < 128) = true from decide_eq_true (by omega)]
      exact iteT q
    · rw [show decide (((h.getD (h.length - 1) 0 : Nat) : Int) < 128) = false from decide_eq_false (by omega)]
      refine iteF ⟨_, rfl, p, _, rfl, .inl (SqL.of hp), _, _, rfl, rfl, ?_⟩
      show Q (.bl (decide ((36 : Int) < ((natV h).length : Int)))) H
      rw [natV_len, show decide ((36 : Int) < ((h.length : Nat) : Int)) = decide (h.getD (h.length - 1) 0 < 128 ∨ 36 < h.length) from by rw [decide_eq_decide]; omega]
      exact q
theorem ok_right (T : Tx K mg a) (R : Fr K a) : FnOk P w K mg base (XC P w true) 3 a.f_Frames_need_right a.d_Frames_need_right ["self"] (sp_right a.Frames a.BadWire a.BadCheck) := by
  have GI : FnOk P w K mg base CX0 1 a.f_BadWire_init a.d_BadWire_init ["self", "place", "why"] (sp_BadWire_init a.BadWire) := ok_BadWire_init T
  refine T.d_Frames_need_right.F.okX sc_Frames_need_right (fun vs H Q E h => ?_) (fun cdv A outer s H vs Q E hr h => ?_)
  · obtain ⟨x, dx, L, st, be, sz, pl, why, rfl, _⟩ := h
    rfl
  · obtain ⟨x, dx, L, st, be, sz, pl, why, rfl, hx, h⟩ := h
    refine ⟨_, pss_cons (ps_if (pt_cmpR op_eq (pe_fld (pv 0) rfl) pe_str (nomark _))
        (pss_one (ps_raise rfl rfl T.m_BadCheck T.e_BadCheck PySem.F.excBase_ValueError (by decide +kernel) raises_fn (pa_cons pe_str pa_nil)))
        pss_nil)
      (pss_one (ps_if (pt_cmpR op_ne (pe_fld (pv 0) rfl) pe_str (nomark _))
        (pss_one (ps_raiseI rfl rfl T.m_BadWire T.k_BadWire GI (hr.mono (by decide)) T.d_BadWire_init.b raised_fnD (pa_cons (pe_fld (pv 0) rfl) (pa_cons (pe_fld (pv 0) rfl) pa_nil))))
        pss_nil)), ?_⟩
    refine ⟨_, rfl, x, _, dx, _, _, rfl, hx, R.c, R.why, lk_wh, rfl, _, rfl, ?_⟩
    rcases h with ⟨rfl, q⟩ | ⟨o, ho, q⟩
    · refine iteD (fun z => absurd (V.str.inj z) (by decide +kernel)) ?_
      refine ⟨_, rfl, x, _, dx, _, _, rfl, hx, R.c, R.why, lk_wh, rfl, _, rfl, ?_⟩
      rw [decide_eq_true rfl]
      exact iteF q
    · cases o with
      | row r => exact ho.elim
      | chk =>
        obtain rfl : why = "check" := ho
        exact iteP rfl ⟨by show 1 ≤ sizeLine; decide, (show ∀ H', Same H H' → E (.ref a.BadCheck) none H' from q) _ (Same.refl H)⟩
      | wire p y =>
        obtain ⟨rfl, rfl, hy, n, rfl, hn⟩ := ho
        have ne1 : ¬ V.str why = V.str "check" := fun z => by
          have := V.str.inj z
          rcases hy with rfl | rfl <;> exact absurd this (by decide +kernel)
        have ne2 : ¬ V.str why = V.str "" := fun z => by
          have := V.str.inj z
          rcases hy with rfl | rfl <;> exact absurd this (by decide +kernel)
        have hl : why.length ≤ 100 := by rcases hy with rfl | rfl <;> decide +kernel
        refine iteD ne1 ?_
        refine ⟨_, rfl, x, _, dx, _, _, rfl, hx, R.c, R.why, lk_wh, rfl, _, rfl, ?_⟩
        rw [decide_eq_false ne2]
        refine iteT ⟨_, rfl, x, _, dx, _, _, rfl, hx, R.c, R.place, lk_pl, _, rfl, x, _, dx, _, _, rfl, hx, R.c, R.why, lk_wh, by show 2 ≤ sizeLine; decide, wire_raise hn hl q⟩
theorem ok_finit (T : Tx K mg a) (R : Fr K a) : FnOk P w K mg base CX0 1 a.f_Frames_init a.d_Frames_init ["self"] (sp_finit a.Frames) := by
  refine T.d_Frames_init.F.ok sc_Frames_init (fun vs H Q E h => ?_) (fun cdv A outer s H vs Q E hr h => ?_)
  · obtain ⟨x, dx, rfl, _⟩ := h
    rfl
  · obtain ⟨x, dx, rfl, hx, q⟩ := h
    refine ⟨_, pss_cons (ps_fld (pv 0) (pe_lst pa_nil) rfl) (pss_cons (ps_fld (pv 0) pe_int rfl) (pss_cons (ps_fld (pv 0) pe_int rfl) (pss_cons (ps_fld (pv 0) pe_int rfl) (pss_cons (ps_fld (pv 0) pe_int rfl) (pss_one (ps_fld (pv 0) pe_str rfl)))))), ?_⟩
    refine ⟨by show 0 ≤ sizeLine; decide, fun L hL => ?_⟩
    have hxL : x ≠ L := fun z => by rw [z, hL] at hx; cases hx
    refine ⟨_, rfl, x, _, dx, _, rfl, keepH hx hL, R.c, R.held, by decide, ?_⟩
    refine ⟨_, rfl, x, _, dx, _, rfl, upd_same, R.c, R.start, Nat.lt_of_lt_of_le (few_put (by decide : ([] : List (Str × V)).length < 990)) (by decide), ?_⟩
    rw [upd_upd]
    refine ⟨_, rfl, x, _, dx, _, rfl, upd_same, R.c, R.behind, Nat.lt_of_lt_of_le (few_put (few_put (by decide : ([] : List (Str × V)).length < 990))) (by decide), ?_⟩
    rw [upd_upd]
    refine ⟨_, rfl, x, _, dx, _, rfl, upd_same, R.c, R.size, Nat.lt_of_lt_of_le (few_put (few_put (few_put (by decide : ([] : List (Str × V)).length < 990)))) (by decide), ?_⟩
    rw [upd_upd]
    refine ⟨_, rfl, x, _, dx, _, rfl, upd_same, R.c, R.place, Nat.lt_of_lt_of_le (few_put (few_put (few_put (few_put (by decide : ([] : List (Str × V)).length < 990))))) (by decide), ?_⟩
    rw [upd_upd]
    refine ⟨_, rfl, x, _, dx, _, rfl, upd_same, R.c, R.why, Nat.lt_of_lt_of_le (few_put (few_put (few_put (few_put (few_put (by decide : ([] : List (Str × V)).length < 990)))))) (by decide), ?_⟩
    rw [upd_upd, pf_new]
    refine q L _ hL (fun b o n e => ?_) upd_same ?_
    · rw [upd_ne (fun z => n (List.mem_singleton.mpr z))]
      exact keepH e hL
    · rw [upd_ne (Ne.symm hxL)]
      exact upd_same
end
end K6

namespace K6
open PySem L2
seal L2.PE L2.PS L2.PSs L2.PA L2.PT L2.PW L2.PG L2.PGs L2.PI L2.PO
def sp_fend (C bw bc : Addr) : Sp := fun vs H Q E => ∃ (x dx L : Addr) (st be sz pl : Int) (why : Str), vs = [.ref x] ∧ H x = some (.ins C dx (BxF L st be sz pl why)) ∧
  ((why = "" ∧ ∃ (p : Nat) (h : List Nat), st = (p : Int) ∧ H L = some (.lst (natV h)) ∧ p + h.length ≤ 400 ∧ if h = [] then Q .non H else wireX bw H ((p + h.length : Nat) : Int) "cut" E) ∨ ∃ o, Rf o pl why ∧ refX bw bc H E o)
def lookO (C : Addr) (H : Hp) (Q : VK) (x dx L : Addr) (st be sz pl : Int) (came : Nat) : Out → Prop
  | .wire q y => ∀ H', SameX [x] H H' → H' x = some (.ins C dx (BxF L st be sz (st + q) y)) → Q .non H'
  | .num n _ => if 30000 < n then ∀ H', SameX [x] H H' → H' x = some (.ins C dx (BxF L st be sz st "length")) → Q .non H' else ∀ H', SameX [x] H H' → H' x = some (.ins C dx (BxF L st came ((came : Int) + n + 2) pl "")) → Q .non H'
def sp_look (C : Addr) : Sp := fun vs H Q _ => ∃ (x dx L : Addr) (st be sz pl : Int) (h : List Nat), vs = [.ref x] ∧ H x = some (.ins C dx (BxF L st be sz pl "")) ∧ H L = some (.lst (natV h)) ∧ (∀ b ∈ h, b < 256) ∧ 1 ≤ h.length ∧ h.length ≤ 400 ∧
  (¬ (h.getD (h.length - 1) 0 < 128 ∨ 36 < h.length) → Q .non H) ∧ ((h.getD (h.length - 1) 0 < 128 ∨ 36 < h.length) → lookO C H Q x dx L st be sz pl h.length (rd (intsN h) 0 h.length 0 0 1))
def sp_finish (C : Addr) : Sp := fun vs H Q _ => ∃ (x dx L R : Addr) (st sz pl : Int) (be : Nat) (h : List Nat) (rs : List V), vs = [.ref x, .ref R] ∧ H x = some (.ins C dx (BxF L st be sz pl "")) ∧ H L = some (.lst (natV h)) ∧ (∀ b ∈ h, b < 256) ∧ 3 ≤ h.length ∧ h.length ≤ 400 ∧ be + 2 ≤ h.length ∧ H R = some (.lst rs) ∧ rs.length ≤ 1000 ∧
  (¬ crcOk h → ∀ H', SameX [x] H H' → H' x = some (.ins C dx (BxF L st be sz st "check")) → Q .non H') ∧
  (crcOk h → ∀ r L' H', H r = none → H L' = none → r ≠ L' → SameX [x, R] H H' → H' x = some (.ins C dx (BxF L' (st + sz) be 0 pl "")) → H' L' = some (.lst []) → H' r = some (.lst (natV ((h.take (h.length - 2)).drop be))) → H' R = some (.lst (rs ++ [.ref r])) → Q .non H')
theorem at0 {α : Type} {x : α} {xs : List α} : atI (x :: xs) 0 = some x := by
  have h := atI_nat (xs := x :: xs) (j := 0) (v := x) rfl
  exact h
theorem at1 {α : Type} {x y : α} {xs : List α} : atI (x :: y :: xs) 1 = some y := by
  have h := atI_nat (xs := x :: y :: xs) (j := 1) (v := y) rfl
  exact h
theorem lst_ne {H : Hp} {x y C dx : Addr} {fs : List (Str × V)} {xs : List V} (h : H x = some (.ins C dx fs)) (h' : H y = some (.lst xs)) : x ≠ y := ne_of h h' (by intro z; cases z)
section
variable {P : Program} {w : World} {K : PySem.W.Frag} {mg : Str → Option Value} {base : Heap} {a : Ad}
theorem ok_fend (T : Tx K mg a) (R : Fr K a) : FnOk P w K mg base (XC P w true) 4 a.f_Frames_end a.d_Frames_end ["self"] (sp_fend a.Frames a.BadWire a.BadCheck) := by
  have GR : FnOk P w K mg base (XC P w true) 3 a.f_Frames_need_right a.d_Frames_need_right ["self"] (sp_right a.Frames a.BadWire a.BadCheck) := ok_right T R
  have GI : FnOk P w K mg base CX0 1 a.f_BadWire_init a.d_BadWire_init ["self", "place", "why"] (sp_BadWire_init a.BadWire) := ok_BadWire_init T
  refine T.d_Frames_end.F.okX sc_Frames_end (fun vs H Q E h => ?_) (fun cdv A outer s H vs Q E hr h => ?_)
  · obtain ⟨x, dx, L, st, be, sz, pl, why, rfl, _⟩ := h
    rfl
  · obtain ⟨x, dx, L, st, be, sz, pl, why, rfl, hx, q⟩ := h
    refine ⟨_, pss_cons (ps_expr (pe_meth0 (pv 0) R.c ⟨T.d_Frames_need_right.m, T.d_Frames_need_right.i, T.d_Frames_need_right.F.kp⟩ GR hr T.d_Frames_need_right.b .nil (pass_fn (fun z => z))))
      (pss_one (ps_if (pt_cmpR op_gt (pe_callB call_len_seq (by rfl) T.len bt_len (pa_cons (pe_fld (pv 0) rfl) pa_nil)) pe_int (nomark _))
        (pss_one (ps_raiseI rfl rfl T.m_BadWire T.k_BadWire GI (hr.mono (by decide)) T.d_BadWire_init.b raised_fnD (pa_cons (pe_op op_add (pe_fld (pv 0) rfl) (pe_callB call_len_seq (by rfl) T.len bt_len (pa_cons (pe_fld (pv 0) rfl) pa_nil))) (pa_cons pe_str pa_nil))))
        pss_nil)), ?_⟩
    refine ⟨_, rfl, x, dx, _, rfl, hx, no_right, x, dx, L, st, be, sz, pl, why, rfl, hx, ?_⟩
    rcases q with ⟨rfl, st, h, rfl, hL, h4, q⟩ | q
    · refine .inl ⟨rfl, _, rfl, x, _, dx, _, _, rfl, hx, R.c, R.held, lk_held, L, _, rfl, .inl (SqL.of hL), _, _, rfl, rfl, _, rfl, ?_⟩
      show if decide (((natV h).length : Int) > 0) = true then _ else _
      rw [natV_len]
      by_cases c : h = []
      · rw [if_pos c] at q
        subst c
        exact iteF q
      · rw [if_neg c] at q
        have hp : 0 < h.length := List.length_pos_iff.mpr c
        refine iteP (by omega) ⟨_, rfl, x, _, dx, _, _, rfl, hx, R.c, R.start, lk_start, _, rfl, x, _, dx, _, _, rfl, hx, R.c, R.held, lk_held, L, _, rfl, .inl (SqL.of hL), _, _, rfl, rfl, by show 2 ≤ sizeLine; decide, ?_⟩
        have e : (st : Int) + ((natV h).length : Int) = ((st + h.length : Nat) : Int) := by rw [natV_len]; omega
        have e2 : (fun (i j : Int) => V.int (i + j)) (st : Int) ((natV h).length : Int) = V.int ((st + h.length : Nat) : Int) := congrArg V.int e
        rw [e2]
        exact wire_raise h4 (by decide +kernel) q
    · exact .inr q
set_option maxHeartbeats 1000000 in
theorem ok_look (T : Tx K mg a) (R : Fr K a) : FnOk P w K mg base CX0 5 a.f_Frames_look_at_length a.d_Frames_look_at_length ["self"] (sp_look a.Frames) := by
  have GO : FnOk P w K mg base CX0 1 a.f_is_number_over a.d_is_number_over ["held"] sp_over := ok_over T
  have GA : FnOk P w K mg base (XC P w true) 3 a.f_number_at a.d_number_at ["row", "at", "end"] (sp_number_at K a.BadWire) := ok_number_at T
  have GS : FnOk P w K mg base CXS 1 a.f_Frames_refuse a.d_Frames_refuse ["self", "place", "why"] (sp_refuse a.Frames) := ok_refuse T R
  have G0 : FnOk P w K mg base CX0 1 a.f_Frames_refuse a.d_Frames_refuse ["self", "place", "why"] (sp_refuse a.Frames) := ok_refuse T R
  obtain ⟨_, CM⟩ := T.c_MOST_BYTES
  obtain ⟨_, C2⟩ := T.c_CHECK_BYTES
  refine T.d_Frames_look_at_length.F.ok sc_Frames_look_at_length (fun vs H Q E h => ?_) (fun cdv A outer s H vs Q E hr h => ?_)
  · obtain ⟨x, dx, L, st, be, sz, pl, h, rfl, _⟩ := h
    rfl
  · obtain ⟨x, dx, L, st, be, sz, pl, h, rfl, hx, hL, hb, h1, h4, qn, qo⟩ := h
    refine ⟨_, pss_cons (ps_set (i := 1) sc_Frames_look_at_length.nd rfl (Or.inl rfl) (pe_callB call_len_seq (by rfl) T.len bt_len (pa_cons (pe_fld (pv 0) rfl) pa_nil)))
      (pss_cons (ps_if (pt_not (pt_val (pe_call GO (hr.mono (by decide)) rfl T.d_is_number_over.m T.d_is_number_over.F.kp T.d_is_number_over.b .nil pass0 (pa_cons (pe_fld (pv 0) rfl) pa_nil))))
        (pss_one ps_retN)
        pss_nil)
      (pss_cons (ps_tryG rfl rfl (fun E => psx_set (i := 2) sc_Frames_look_at_length.nd rfl (Or.inl rfl) (pex_ix ix_tup (pex_call (E := E) GA (hr.mono (by decide)) rfl T.d_number_at.m T.d_number_at.F.kp T.d_number_at.b .nil (fun _ => rfl) (pa_cons (pe_fld (pv 0) rfl) (pa_cons pe_int (pa_cons (pv 1) pa_nil)))) pe_int (fun _ _ => rfl))) rfl T.m_BadWire (v0 := .ref a.BadWire) rfl
        (fun e => pss_cons (ps_expr (pe_methS (pv 0) R.c ⟨T.d_Frames_refuse.m, T.d_Frames_refuse.i, T.d_Frames_refuse.F.kp⟩ GS (Room_mark (hr.mono (by decide))) T.d_Frames_refuse.b (pa_cons (pe_op op_add (pe_fld (pv 0) rfl) (pe_xget (pv 3) rfl)) (pa_cons (pe_xget (pv 3) rfl) pa_nil)))) (pss_one ps_retN)) sc_Frames_look_at_length.nd (i := 3) rfl rfl)
      (pss_cons (ps_if (pt_cmpR op_gt (pv 2) (pgi CM) (nomark _))
        (pss_cons (ps_expr (pe_meth (pv 0) R.c ⟨T.d_Frames_refuse.m, T.d_Frames_refuse.i, T.d_Frames_refuse.F.kp⟩ G0 (hr.mono (by decide)) T.d_Frames_refuse.b .nil pass0 (pa_cons (pe_fld (pv 0) rfl) (pa_cons pe_str pa_nil)))) (pss_one ps_retN))
        pss_nil)
      (pss_cons (ps_fld (pv 0) (pv 1) rfl)
      (pss_one (ps_fld (pv 0) (pe_op op_add (pe_op op_add (pv 1) (pv 2)) (pgi C2)) rfl)))))), ?_⟩
    refine ⟨_, rfl, x, _, dx, _, _, rfl, hx, R.c, R.held, lk_held, L, _, rfl, .inl (SqL.of hL), ?_⟩
    refine ⟨_, rfl, x, _, dx, _, _, rfl, hx, R.c, R.held, lk_held, L, h, rfl, hL, h1, _, rfl, ?_⟩
    by_cases c : h.getD (h.length - 1) 0 < 128 ∨ 36 < h.length
    rotate_left
    · rw [decide_eq_false c]
      exact iteT (qn c)
    rw [decide_eq_true c]
    refine iteF ?_
    have q := qo c
    have sq : SqL K H L ((intsN h).map V.int) ∨ SqT K H L ((intsN h).map V.int) := .inl (SqL.of (by rw [← ints_V]; exact hL))
    refine ⟨_, rfl, x, _, dx, _, _, rfl, hx, R.c, R.held, lk_held, _, rfl, L, intsN h, 0, h.length, ?_, sq, ints_Bs hb, Nat.zero_le _, by rw [ints_len]; exact Nat.le_refl _, by rw [ints_len]; exact h4, ?_⟩
    · rw [natV_len]; rfl
    rw [Nat.sub_zero]
    cases e0 : rd (intsN h) 0 h.length 0 0 1 with
    | wire qq y =>
      rw [e0] at q
      intro d H1 hd s1 hd1
      refine ⟨T.x_BadWire2, fun e a0 tb he => ?_⟩
      have s2 := s1.trans (sameU (u := xHO e (xObj (.ref a.BadWire) (some d) a0 tb)) he)
      refine ⟨_, rfl, x, dx, _, rfl, s2 _ _ hx, no_refuse, ?_⟩
      refine ⟨_, rfl, x, _, dx, _, _, rfl, s2 _ _ hx, R.c, R.start, lk_start, _, rfl, e, _, d, a0, tb, _, _, rfl, upd_same, keepH hd1 he, T.z_BadWire, T.n_place, lk_place, _, _, rfl, rfl, _, rfl, e, _, d, a0, tb, _, _, rfl, upd_same, keepH hd1 he, T.z_BadWire, T.n_why, lk_why, ⟨e, _, _, a0, tb, rfl, upd_same⟩, ?_⟩
      refine ⟨x, dx, L, st, be, sz, pl, _, _, _, rfl, s2 _ _ hx, ?_⟩
      exact (show ∀ H', SameX [x] H H' → H' x = some (.ins a.Frames dx (BxF L st be sz (st + qq) y)) → Q .non H' from q) _ ((SameX.of s2).trans SameX.upd) upd_same
    | num n e =>
      rw [e0] at q
      intro t H1 ht s1 g1
      refine ⟨t, _, _, _, rfl, rfl, SqT.of g1, at0, ?_⟩
      refine ⟨_, rfl, _, _, rfl, rfl, _, rfl, ?_⟩
      have q' : if 30000 < n then ∀ H', SameX [x] H H' → H' x = some (.ins a.Frames dx (BxF L st be sz st "length")) → Q .non H' else ∀ H', SameX [x] H H' → H' x = some (.ins a.Frames dx (BxF L st h.length ((h.length : Int) + n + 2) pl "")) → Q .non H' := q
      by_cases c2 : 30000 < n
      · rw [if_pos c2] at q'
        refine iteP c2 ⟨_, rfl, x, dx, _, rfl, s1 _ _ hx, no_refuse, _, rfl, x, _, dx, _, _, rfl, s1 _ _ hx, R.c, R.start, lk_start, x, dx, L, st, be, sz, pl, _, _, _, rfl, s1 _ _ hx, ?_⟩
        exact q' _ ((SameX.of s1).trans SameX.upd) upd_same
      · rw [if_neg c2] at q'
        refine iteD c2 ⟨_, rfl, _, rfl, x, _, dx, _, rfl, s1 _ _ hx, R.c, R.behind, few6, ?_⟩
        rw [pf_behind]
        refine ⟨_, rfl, _, rfl, _, _, rfl, rfl, _, _, rfl, rfl, _, rfl, x, _, dx, _, rfl, upd_same, R.c, R.size, few6, ?_⟩
        rw [pf_size, upd_upd]
        rw [natV_len]
        exact q' _ ((SameX.of s1).trans SameX.upd) upd_same
end
end K6

namespace K6
open PySem L2
seal L2.PE L2.PS L2.PSs L2.PA L2.PT L2.PW L2.PG L2.PGs L2.PI L2.PO
section
variable {P : Program} {w : World} {K : PySem.W.Frag} {mg : Str → Option Value} {base : Heap} {a : Ad}
theorem ok_finish (T : Tx K mg a) (R : Fr K a) : FnOk P w K mg base (XC P w true) 7 a.f_Frames_finish a.d_Frames_finish ["self", "rows"] (sp_finish a.Frames) := by
  have GC : FnOk P w K mg base (XC P w true) 6 a.f_is_checked a.d_is_checked ["kept"] (sp_is_checked K) := ok_is_checked T
  have G0 : FnOk P w K mg base CX0 1 a.f_Frames_refuse a.d_Frames_refuse ["self", "place", "why"] (sp_refuse a.Frames) := ok_refuse T R
  obtain ⟨_, C2⟩ := T.c_CHECK_BYTES
  refine T.d_Frames_finish.F.okX sc_Frames_finish (fun vs H Q E h => ?_) (fun cdv A outer s H vs Q E hr h => ?_)
  · obtain ⟨x, dx, L, Rr, st, sz, pl, be, h, rs, rfl, _⟩ := h
    rfl
  · obtain ⟨x, dx, L, Rr, st, sz, pl, be, h, rs, rfl, hx, hL, hb, h3, h4, hbe, hR, hrs, qn, qo⟩ := h
    refine ⟨_, pss_cons (ps_if (pt_not (pt_val (pe_call GC hr rfl T.d_is_checked.m T.d_is_checked.F.kp T.d_is_checked.b .nil (pass_fn (fun z => z)) (pa_cons (pe_fld (pv 0) rfl) pa_nil))))
        (pss_cons (ps_expr (pe_meth (pv 0) R.c ⟨T.d_Frames_refuse.m, T.d_Frames_refuse.i, T.d_Frames_refuse.F.kp⟩ G0 (hr.mono (by decide)) T.d_Frames_refuse.b .nil pass0 (pa_cons (pe_fld (pv 0) rfl) (pa_cons pe_str pa_nil)))) (pss_one ps_retN))
        pss_nil)
      (pss_cons (ps_expr (pe_bm PySem.F.plainAttrs_list PySem.F.slot_list_append PySem.F.type_list_append mt_append (pv 1) (pa_cons (pe_slice sl_list (pe_fld (pv 0) rfl) (po_some (pe_fld (pv 0) rfl)) (po_some (pe_un un_neg (pgi C2)))) pa_nil)))
      (pss_cons (ps_fld (pv 0) (pe_op op_add (pe_fld (pv 0) rfl) (pe_fld (pv 0) rfl)) rfl)
      (pss_cons (ps_fld (pv 0) (pe_lst pa_nil) rfl)
      (pss_one (ps_fld (pv 0) pe_int rfl))))), ?_⟩
    refine ⟨_, rfl, x, _, dx, _, _, rfl, hx, R.c, R.held, lk_held, .ref L, h, rfl, ⟨L, rfl, .inl hL, Nat.le_trans h4 (by decide), hb⟩, h3, h4, fun H1 s1 => ⟨_, rfl, ?_⟩⟩
    by_cases c : crcOk h
    rotate_left
    · rw [decide_eq_false c]
      refine iteT ⟨_, rfl, x, dx, _, rfl, s1 _ _ hx, no_refuse, _, rfl, x, _, dx, _, _, rfl, s1 _ _ hx, R.c, R.start, lk_start, x, dx, L, st, _, sz, pl, _, _, _, rfl, s1 _ _ hx, ?_⟩
      exact qn c _ ((SameX.of s1).trans SameX.upd) upd_same
    rw [decide_eq_true c]
    refine iteF ?_
    have hx1 := s1 _ _ hx
    have hL1 := s1 _ _ hL
    have hR1 := s1 _ _ hR
    refine ⟨_, rfl, .inl ⟨rfl, _, SqL.of hR1⟩, _, rfl, x, _, dx, _, _, rfl, hx1, R.c, R.held, lk_held, _, rfl, x, _, dx, _, _, rfl, hx1, R.c, R.behind, lk_behind, _, rfl, _, rfl, _, rfl, L, _, rfl, SqL.of hL1, fun r hr1 => ?_⟩
    have ecut : cutV (natV h) (some (be : Int)) (some (-2)) = natV ((h.take (h.length - 2)).drop be) := cut_mid (by omega) hbe rfl
    rw [ecut]
    have rx : x ≠ r := fun z => by rw [z, hr1] at hx1; cases hx1
    have rR : Rr ≠ r := fun z => by rw [z, hr1] at hR1; cases hR1
    have xR : x ≠ Rr := lst_ne hx1 hR1
    refine ⟨Rr, _, _, rfl, rfl, keepH hR1 hr1, small1000 (Nat.le_trans hrs (by decide)), ?_⟩
    have hx3 : (upd (upd H1 r (.lst (natV ((h.take (h.length - 2)).drop be)))) Rr (.lst (rs ++ [.ref r]))) x = some (.ins a.Frames dx (BxF L st be sz pl "")) := by rw [upd_ne xR]; exact keepH hx1 hr1
    refine ⟨_, rfl, x, _, dx, _, _, rfl, hx3, R.c, R.start, lk_start, _, rfl, x, _, dx, _, _, rfl, hx3, R.c, R.size, lk_size, _, _, rfl, rfl, _, rfl, x, _, dx, _, rfl, hx3, R.c, R.start, few6, ?_⟩
    rw [pf_start]
    refine ⟨by show 0 ≤ sizeLine; decide, fun L' hL' => ?_⟩
    have Lx : L' ≠ x := fun z => by rw [z, upd_same] at hL'; cases hL'
    rw [upd_ne Lx] at hL'
    have LR : L' ≠ Rr := fun z => by rw [z, upd_same] at hL'; cases hL'
    rw [upd_ne LR] at hL'
    have Lr : L' ≠ r := fun z => by rw [z, upd_same] at hL'; cases hL'
    rw [upd_ne Lr] at hL'
    refine ⟨_, rfl, x, _, dx, _, rfl, by rw [upd_ne (Ne.symm Lx)]; exact upd_same, R.c, R.held, few6, ?_⟩
    rw [pf_held]
    refine ⟨_, rfl, x, _, dx, _, rfl, upd_same, R.c, R.size, few6, ?_⟩
    rw [pf_size, upd_upd]
    refine qo c r L' _ (s1.free hr1) (s1.free hL') (Ne.symm Lr) (fun b o n e => ?_) upd_same ?_ ?_ ?_
    · have nx : b ≠ x := fun z => n (z ▸ List.mem_cons_self ..)
      have nR : b ≠ Rr := fun z => n (z ▸ List.mem_cons_of_mem _ (List.mem_cons_self ..))
      have e1 := s1 _ _ e
      have nr : b ≠ r := fun z => by rw [z, hr1] at e1; cases e1
      have nL : b ≠ L' := fun z => by rw [z, hL'] at e1; cases e1
      rw [upd_ne nx, upd_ne nL, upd_ne nx, upd_ne nR, upd_ne nr]
      exact e1
    · rw [upd_ne Lx]; exact upd_same
    · rw [upd_ne (Ne.symm rx), upd_ne (Ne.symm Lr), upd_ne (Ne.symm rx), upd_ne (Ne.symm rR)]; exact upd_same
    · rw [upd_ne (Ne.symm xR), upd_ne (Ne.symm LR), upd_ne (Ne.symm xR)]; exact upd_same
end
end K6

namespace K6
open PySem L2
seal L2.PE L2.PS L2.PSs L2.PA L2.PT L2.PW L2.PG L2.PGs L2.PI L2.PO
theorem Ch.len {w : List Nat} (hB : ∀ b ∈ w, b < 256) {p : Nat} {l : List (List Nat × Nat)} {x : N6} (c : Ch w p l x) : p ≤ w.length → p + 3 * l.length ≤ w.length := by
  induction c with
  | stop h n => intro hp; exact hp
  | @more p r e l x h t ih =>
    intro hp
    obtain ⟨h1, h2, _⟩ := next_row hB hp h
    have := ih h2
    rw [List.length_cons]
    omega
/-- rows that were told: new lists in a new list -/
def Told (H H' : Hp) (R : Addr) (rows : List (List Nat)) (rs : List Addr) : Prop := H R = none ∧ H' R = some (.lst (rs.map V.ref)) ∧ rs.length = rows.length ∧ rs.Nodup ∧ R ∉ rs ∧ (∀ r ∈ rs, H r = none) ∧ ∀ (i : Nat) r bs, rs[i]? = some r → rows[i]? = some bs → H' r = some (.lst (natV bs))
/-- where the last of some rows ends -/
def lastE (p0 : Nat) (l : List (List Nat × Nat)) : Nat := match l.getLast? with | some q => q.2 | none => p0
theorem lastE_app (p0 : Nat) (l : List (List Nat × Nat)) (q : List Nat × Nat) : lastE p0 (l ++ [q]) = q.2 := by
  unfold lastE
  rw [List.getLast?_concat]
theorem lastE_cat (p0 : Nat) (l1 l2 : List (List Nat × Nat)) : lastE p0 (l1 ++ l2) = lastE (lastE p0 l1) l2 := by
  unfold lastE
  rw [List.getLast?_append]
  cases l2.getLast? <;> rfl
/-- a box at its place in the wire, rows told since H -/
def Cur (C : Addr) (w : List Nat) (H H' : Hp) (x dx L R : Addr) (l : List (List Nat × Nat)) (xx : N6) (pl : Int) (p0 j : Nat) : Prop :=
  SameX [x, L] H H' ∧ (∃ lo, H' L = some (.lst lo)) ∧ ∃ (rs : List Addr) (l1 l2 : List (List Nat × Nat)) (p be sz : Nat) (L' : Addr), Told H H' R (l1.map (·.1)) rs ∧ l = l1 ++ l2 ∧ (∀ q ∈ l1, q.2 ≤ p) ∧ p = lastE p0 l1 ∧ Ch w p l2 xx ∧ BI w p j be sz ∧ H' x = some (.ins C dx (BxF L' p be sz pl "")) ∧ H' L' = some (.lst (natV (seg w p j))) ∧ (L' = L ∨ H L' = none) ∧ L' ∉ rs ∧ L' ≠ R
/-- a box that refused -/
def Ref (C : Addr) (H H' : Hp) (x dx L R : Addr) (l : List (List Nat × Nat)) (xx : N6) (jm : Nat) : Prop :=
  SameX [x, L] H H' ∧ (∃ lo, H' L = some (.lst lo)) ∧ ∃ (rs : List Addr) (o : O5) (e : Nat) (L' : Addr) (st be sz pl : Int) (why : Str), Told H H' R (l.map (·.1)) rs ∧ xx = .bad o e ∧ e ≤ jm ∧ Rf o pl why ∧ H' x = some (.ins C dx (BxF L' st be sz pl why)) ∧ (L' = L ∨ H L' = none) ∧ (∃ lo, H' L' = some (.lst lo)) ∧ L' ∉ rs ∧ L' ≠ R
def sp_take (K : PySem.W.Frag) (C bw bc br : Addr) : Sp := fun vs H Q E => ∃ (x : Addr) (y : V), vs = [.ref x, y] ∧
  ((Rw K H y false ∧ ∀ H', Same H H' → E (.ref br) none H') ∨
  (∃ (dx L : Addr) (st be sz pl : Int) (why : Str) (o : O5) (bs : List Nat), Row H y bs ∧ H x = some (.ins C dx (BxF L st be sz pl why)) ∧ Rf o pl why ∧ refX bw bc H E o) ∨
  ∃ (dx L Y : Addr) (w : List Nat) (p j m be sz : Nat) (l : List (List Nat × Nat)) (xx : N6) (pl : Int), y = .ref Y ∧ H Y = some (.lst (natV (seg w j (j + m)))) ∧ Y ≠ L ∧ (∀ b ∈ w, b < 256) ∧ w.length ≤ 400 ∧ j + m ≤ w.length ∧ Ch w p l xx ∧ BI w p j be sz ∧ H x = some (.ins C dx (BxF L p be sz pl "")) ∧ H L = some (.lst (natV (seg w p j))) ∧
    (∀ R H', Cur C w H H' x dx L R l xx pl p (j + m) → Q (.ref R) H') ∧ (∀ R H', l ≠ [] → Ref C H H' x dx L R l xx (j + m) → Q (.ref R) H') ∧
    (∀ R H' o e, l = [] → Ref C H H' x dx L R l xx (j + m) → xx = .bad o e → refX bw bc H' E o))
theorem natV_snoc (h : List Nat) (b : Nat) : natV h ++ [.int (b : Int)] = natV (h ++ [b]) := by unfold natV; rw [List.map_append]; rfl
theorem seg_lt {w : List Nat} (hB : ∀ b ∈ w, b < 256) (p j : Nat) : ∀ b ∈ seg w p j, b < 256 := fun b hb => hB b (List.mem_of_mem_take (List.mem_of_mem_drop hb))
/-- the last byte of what is held -/
theorem seg_last {w : List Nat} {p j : Nat} (h1 : p ≤ j) (h2 : j < w.length) : (seg w p (j + 1)).getD ((seg w p (j + 1)).length - 1) 0 = w.getD j 0 := by
  rw [seg_len (by omega), seg_getD (by omega), show p + (j + 1 - p - 1) = j by omega]
theorem Told.keep {H H1 H2 : Hp} {R : Addr} {rows : List (List Nat)} {rs : List Addr} (t : Told H H1 R rows rs) (k : ∀ b o, (b = R ∨ b ∈ rs) → H1 b = some o → H2 b = some o) : Told H H2 R rows rs :=
  ⟨t.1, k _ _ (.inl rfl) t.2.1, t.2.2.1, t.2.2.2.1, t.2.2.2.2.1, t.2.2.2.2.2.1, fun i r bs h1 h2 => k _ _ (.inr (List.mem_of_getElem? h1)) (t.2.2.2.2.2.2 i r bs h1 h2)⟩
theorem Told.none {H H1 : Hp} {R : Addr} (h : H R = none) (e : H1 R = some (.lst [])) : Told H H1 R [] [] := ⟨h, e, rfl, List.nodup_nil, List.not_mem_nil, fun r hr => (List.not_mem_nil hr).elim, fun i r bs h1 => by simp at h1⟩
theorem Told.more {H H1 H2 : Hp} {R r : Addr} {rows : List (List Nat)} {bs : List Nat} {rs : List Addr} (t : Told H H1 R rows rs) (hr : H1 r = Option.none) (hr0 : H r = Option.none) (k : ∀ b o, b ∈ rs → H1 b = some o → H2 b = some o) (e : H2 R = some (.lst (rs.map V.ref ++ [.ref r]))) (er : H2 r = some (.lst (natV bs))) : Told H H2 R (rows ++ [bs]) (rs ++ [r]) := by
  obtain ⟨t1, t2, t3, t4, t5, t6, t7⟩ := t
  have nr : r ∉ rs := fun z => by
    obtain ⟨i, hi, e⟩ := List.getElem_of_mem z
    have := t7 i r (rows[i]'(by omega)) (by rw [List.getElem?_eq_getElem hi, e]) (List.getElem?_eq_getElem _)
    rw [hr] at this
    cases this
  refine ⟨t1, by rw [List.map_append]; exact e, by rw [List.length_append, List.length_append, t3]; rfl, ?_, ?_, ?_, ?_⟩
  · rw [List.nodup_append]
    refine ⟨t4, List.nodup_cons.mpr ⟨List.not_mem_nil, List.nodup_nil⟩, fun x hx y hy => ?_⟩
    rw [List.mem_singleton.mp hy]
    exact fun z => nr (z ▸ hx)
  · intro z
    rcases List.mem_append.mp z with z | z
    · exact t5 z
    · rw [List.mem_singleton.mp z] at t2; rw [hr] at t2; cases t2
  · intro b hb
    rcases List.mem_append.mp hb with z | z
    · exact t6 b z
    · rw [List.mem_singleton.mp z]; exact hr0
  · intro i b cs h1 h2
    by_cases hi : i < rs.length
    · rw [List.getElem?_append_left hi] at h1
      rw [List.getElem?_append_left (by omega)] at h2
      exact k _ _ (List.mem_of_getElem? h1) (t7 i b cs h1 h2)
    · rw [List.getElem?_append_right (by omega)] at h1
      rw [List.getElem?_append_right (by omega)] at h2
      have ei : i - rs.length = 0 := by
        by_cases z : i - rs.length = 0
        · exact z
        · rw [List.getElem?_eq_none (by simp; omega)] at h1; cases h1
      rw [ei] at h1
      rw [show i - rows.length = 0 by omega] at h2
      cases h1
      cases h2
      exact er
end K6

namespace K6
open PySem L2
seal L2.PE L2.PS L2.PSs L2.PA L2.PT L2.PW L2.PG L2.PGs L2.PI L2.PO
theorem SameX.put {S : List Addr} {H H' : Hp} {b : Addr} {o : HO} (s : SameX S H H') (h : b ∈ S ∨ H b = none) : SameX S H (L2.upd H' b o) := fun c u n e => by
  have nb : c ≠ b := fun z => by
    rcases h with h | h
    · exact n (z ▸ h)
    · rw [z, h] at e; cases e
  rw [upd_ne nb]
  exact s c u n e
section
variable {P : Program} {w : World} {K : PySem.W.Frag} {mg : Str → Option Value} {base : Heap} {a : Ad}
set_option maxHeartbeats 2000000 in
theorem ok_take (T : Tx K mg a) (R : Fr K a) : FnOk P w K mg base (XC P w true) 8 a.f_Frames_take a.d_Frames_take ["self", "row"] (sp_take K a.Frames a.BadWire a.BadCheck a.BadRow) := by
  have GN : FnOk P w K mg base (XC P w true) 4 a.f_need_row a.d_need_row ["row"] (sp_need_row K a.BadRow) := ok_need_row T
  have GR : FnOk P w K mg base (XC P w true) 3 a.f_Frames_need_right a.d_Frames_need_right ["self"] (sp_right a.Frames a.BadWire a.BadCheck) := ok_right T R
  have GL : FnOk P w K mg base CX0 5 a.f_Frames_look_at_length a.d_Frames_look_at_length ["self"] (sp_look a.Frames) := ok_look T R
  have GF : FnOk P w K mg base (XC P w true) 7 a.f_Frames_finish a.d_Frames_finish ["self", "rows"] (sp_finish a.Frames) := ok_finish T R
  refine T.d_Frames_take.F.okX sc_Frames_take (fun vs H Q E h => ?_) (fun cdv A outer s H vs Q E hr h => ?_)
  · obtain ⟨x, y, rfl, _⟩ := h
    rfl
  · obtain ⟨x, y, rfl, h⟩ := h
    refine ⟨_, pss_cons (ps_expr (pe_call GN (hr.mono (by decide)) rfl T.d_need_row.m T.d_need_row.F.kp T.d_need_row.b .nil (pass_fn (fun z => z)) (pa_cons (pv 1) pa_nil)))
      (pss_cons (ps_expr (pe_meth0 (pv 0) R.c ⟨T.d_Frames_need_right.m, T.d_Frames_need_right.i, T.d_Frames_need_right.F.kp⟩ GR (hr.mono (by decide)) T.d_Frames_need_right.b .nil (pass_fn (fun z => z))))
      (pss_cons (ps_set (i := 2) sc_Frames_take.nd rfl (Or.inl rfl) (pe_lst pa_nil))
      (pss_cut (ps_for PassesOwn.leaving rfl (pi_list (pv 1)) (pg_name (i := 3) sc_Frames_take.nd rfl (Or.inl rfl))
        (pss_cons (ps_expr (pe_bm PySem.F.plainAttrs_list PySem.F.slot_list_append PySem.F.type_list_append mt_append (pe_fld (pv 0) rfl) (pa_cons (pv 3) pa_nil)))
          (pss_cut (ps_if (pt_cmpR op_eq (pe_fld (pv 0) rfl) pe_int (nomark _))
            (pss_one (ps_expr (pe_meth0 (pv 0) R.c ⟨T.d_Frames_look_at_length.m, T.d_Frames_look_at_length.i, T.d_Frames_look_at_length.F.kp⟩ GL (hr.mono (by decide)) T.d_Frames_look_at_length.b .nil pass0)))
            (pss_one (ps_if (pt_cmpR op_eq (pe_callB call_len_seq (by rfl) T.len bt_len (pa_cons (pe_fld (pv 0) rfl) pa_nil)) (pe_fld (pv 0) rfl) (nomark _))
                (pss_one (ps_expr (pe_meth (pv 0) R.c ⟨T.d_Frames_finish.m, T.d_Frames_finish.i, T.d_Frames_finish.F.kp⟩ GF hr T.d_Frames_finish.b .nil (pass_fn (fun z => z)) (pa_cons (pv 2) pa_nil))))
                pss_nil)))
          (pss_one (ps_if (pt_cmpR op_ne (pe_fld (pv 0) rfl) pe_str (nomark _))
            (pss_one ps_break)
            pss_nil)))))
      (pss_cons (ps_if (pt_cmpR op_eq (pe_callB call_len_seq (by rfl) T.len bt_len (pa_cons (pv 2) pa_nil)) pe_int (nomark _))
        (pss_one (ps_expr (pe_meth0 (pv 0) R.c ⟨T.d_Frames_need_right.m, T.d_Frames_need_right.i, T.d_Frames_need_right.F.kp⟩ GR (hr.mono (by decide)) T.d_Frames_need_right.b .nil (pass_fn (fun z => z)))))
        pss_nil)
      (pss_one (ps_ret (pv 2))))))), ?_⟩
    rcases h with ⟨hy, q⟩ | ⟨dx, L, st, be, sz, pl, why, o, bs, hy, hx, ho, q⟩ | ⟨dx, L, Y, w, p, j, m, be, sz, l, xx, pl, rfl, hY, hYL, hB, hw4, hjm, hC, hBI, hx, hL, q1, q2, q3⟩
    · refine ⟨_, rfl, y, false, rfl, hy, fun H' s' => ?_⟩
      rw [if_neg Bool.false_ne_true]
      exact q _ s'
    · refine ⟨_, rfl, y, true, rfl, hy.rw, fun H1 s1 => ?_⟩
      rw [if_pos rfl]
      exact ⟨_, rfl, x, dx, _, rfl, s1 _ _ hx, no_right, x, dx, L, st, be, sz, pl, why, rfl, s1 _ _ hx, .inr ⟨o, ho, q.mono s1⟩⟩
    have hrow : Row H (.ref Y) (seg w j (j + m)) := ⟨Y, rfl, .inl hY, by rw [seg_len hjm]; omega, seg_lt hB _ _⟩
    refine ⟨_, rfl, .ref Y, true, rfl, hrow.rw, fun H1 s1 => ?_⟩
    rw [if_pos rfl]
    refine ⟨_, rfl, x, dx, _, rfl, s1 _ _ hx, no_right, x, dx, L, p, be, sz, pl, "", rfl, s1 _ _ hx, .inl ⟨rfl, ?_⟩⟩
    refine ⟨by show 0 ≤ sizeLine; decide, fun Rr hR => ?_⟩
    have s2 := s1.trans (sameU (u := .lst []) hR)
    have hxY : x ≠ Y := lst_ne hx hY
    have hxL : x ≠ L := lst_ne hx hL
    have c0 : Cur a.Frames w H (upd H1 Rr (.lst [])) x dx L Rr l xx pl p j := ⟨SameX.of s2, ⟨_, s2 _ _ hL⟩, [], [], l, p, be, sz, L, Told.none (s1.free hR) upd_same, rfl, fun q hq => (List.not_mem_nil hq).elim, rfl, hC, hBI, s2 _ _ hx, s2 _ _ hL, .inl rfl, List.not_mem_nil, fun z => by rw [← z, s1 _ _ hL] at hR; cases hR⟩
    have kY : ∀ {H' : Hp}, SameX [x, L] H H' → H' Y = some (.lst (natV (seg w j (j + m)))) := fun s => s _ _ (by simp; exact ⟨Ne.symm hxY, hYL⟩) hY
    revert c0
    generalize upd H1 Rr (.lst []) = H2
    intro c0
    refine ⟨fun σ' H' => ∃ v3, σ' = [some (.ref x), some (.ref Y), some (.ref Rr), v3] ∧ (Cur a.Frames w H H' x dx L Rr l xx pl p (j + m) ∨ Ref a.Frames H H' x dx L Rr l xx (j + m)), ?_, ?_⟩
    · refine ⟨_, rfl, Y, rfl, ⟨_, SqL.of (kY c0.1)⟩, for_list (xs := natV (seg w j (j + m))) (fun i σ' H' => ∃ v3, σ' = [some (.ref x), some (.ref Y), some (.ref Rr), v3] ∧ Cur a.Frames w H H' x dx L Rr l xx pl p (j + i)) ⟨_, rfl, c0⟩ (fun i σ' H' _ h => ?_) (fun i b σ' H3 hb h => ?_) (fun σ' H' h => ?_)⟩
      · obtain ⟨v3, _, c⟩ := h
        exact SqL.of (kY c.1)
      rotate_left
      · obtain ⟨v3, e, c⟩ := h
        rw [natV_len, seg_len hjm, show j + (j + m - j) = j + m by omega] at c
        exact ⟨v3, e, .inl c⟩
      obtain ⟨v3, rfl, s3, ⟨oL, hLo⟩, rs, l1, l2, p', be', sz', L', hT, el, hl1, hpe, hC', hBI', hx3, hL3, hLL, hLr, hLR⟩ := h
      obtain ⟨bb, hbb, rfl⟩ := natV_item hb
      have hi : i < m := by
        have : i < (seg w j (j + m)).length := (List.getElem?_eq_some_iff.mp hbb).1
        rw [seg_len hjm] at this
        omega
      have hji : j + i < w.length := by omega
      have hpj := hBI'.1
      have ebb : bb = w.getD (j + i) 0 := by
        rw [seg_at (by omega)] at hbb
        rw [List.getD_eq_getElem?_getD, hbb]; rfl
      subst ebb
      have hxL' : x ≠ L' := lst_ne hx3 hL3
      have hxR : x ≠ Rr := lst_ne hx3 hT.2.1
      have hl400 : (seg w p' (j + i)).length ≤ 400 := by rw [seg_len (by omega)]; omega
      refine ⟨_, rfl, x, _, dx, _, _, rfl, hx3, R.c, R.held, lk_held, .inl ⟨rfl, _, SqL.of hL3⟩, _, rfl, L', _, _, rfl, rfl, hL3, small1000 (by rw [natV_len]; exact Nat.le_trans hl400 (by decide)), ?_⟩
      rw [natV_snoc, ← seg_snoc hji hpj]
      have hx4 : (upd H3 L' (.lst (natV (seg w p' (j + i + 1))))) x = some (.ins a.Frames dx (BxF L' p' be' sz' pl "")) := by rw [upd_ne hxL']; exact hx3
      have hL4 : (upd H3 L' (.lst (natV (seg w p' (j + i + 1))))) L' = some (.lst (natV (seg w p' (j + i + 1)))) := upd_same
      have s4 : SameX [x, L] H (upd H3 L' (.lst (natV (seg w p' (j + i + 1))))) := s3.put (hLL.imp (fun z => by rw [z]; simp) id)
      have hT4 : Told H (upd H3 L' (.lst (natV (seg w p' (j + i + 1))))) Rr (l1.map (·.1)) rs := hT.keep fun b o hb e => by
        rw [upd_ne (fun z => by rcases hb with hb | hb; exact hLR (z.symm.trans hb); exact hLr (z ▸ hb))]
        exact e
      have hLo4 : ∃ lo, (upd H3 L' (.lst (natV (seg w p' (j + i + 1))))) L = some (.lst lo) := by
        by_cases z : L = L'
        · rw [z]; exact ⟨_, upd_same⟩
        · rw [upd_ne z]; exact ⟨oL, hLo⟩
      revert hx4 hL4 s4 hT4 hLo4
      generalize upd H3 L' (.lst (natV (seg w p' (j + i + 1)))) = H4
      intro hx4 hL4 s4 hT4 hLo4
      have lenS : (seg w p' (j + i + 1)).length = j + i + 1 - p' := seg_len (by omega)
      -- what a change of the box alone leaves
      have kT : ∀ {H5 : Hp}, SameX [x] H4 H5 → Told H H5 Rr (l1.map (·.1)) rs := fun k => hT4.keep fun b o hb e => k b o (fun z => by
        have z := List.mem_singleton.mp z
        rcases hb with hb | hb
        · exact hxR (z.symm.trans hb)
        · obtain ⟨n, hn, en⟩ := List.getElem_of_mem hb
          have := hT4.2.2.2.2.2.2 n b _ (by rw [List.getElem?_eq_getElem hn, en]) (List.getElem?_eq_getElem (by have := hT4.2.2.1; omega))
          rw [z, hx4] at this
          cases this) e
      have kS : ∀ {H5 : Hp}, SameX [x] H4 H5 → SameX [x, L] H H5 := fun k => s4.trans (k.mono fun b hb => by rw [List.mem_singleton.mp hb]; simp)
      have kL : ∀ {H5 : Hp}, SameX [x] H4 H5 → H5 L' = some (.lst (natV (seg w p' (j + i + 1)))) := fun k => k _ _ (by simp; exact Ne.symm hxL') hL4
      have kO : ∀ {H5 : Hp}, SameX [x] H4 H5 → ∃ lo, H5 L = some (.lst lo) := fun k => let ⟨o, e⟩ := hLo4; ⟨o, k _ _ (by simp; exact Ne.symm hxL) e⟩
      have refused : ∀ {H5 : Hp} {o : O5} {pl' : Int} {why : Str}, SameX [x] H4 H5 → nextF w p' = .bad o (j + i + 1) → Rf o pl' why → H5 x = some (.ins a.Frames dx (BxF L' p' be' sz' pl' why)) → Ref a.Frames H H5 x dx L Rr l xx (j + m) := fun {H5 o pl' why} k hn ho hx5 => by
        cases hC' with
        | stop h n =>
          rw [List.append_nil] at el
          subst el
          exact ⟨kS k, kO k, rs, o, j + i + 1, L', _, _, _, pl', why, kT k, h.symm.trans hn, by omega, ho, hx5, hLL, ⟨_, kL k⟩, hLr, hLR⟩
        | more h t => rw [hn] at h; cases h
      refine ⟨fun σ' H5 => σ' = [some (.ref x), some (.ref Y), some (.ref Rr), some (.int ((w.getD (j + i) 0 : Nat) : Int))] ∧ (Cur a.Frames w H H5 x dx L Rr l xx pl p (j + (i + 1)) ∨ Ref a.Frames H H5 x dx L Rr l xx (j + m)), ?_, ?_⟩
      · refine ⟨_, rfl, x, _, dx, _, _, rfl, hx4, R.c, R.size, lk_size, rfl, _, rfl, ?_⟩
        by_cases c : sz' = 0
        · subst c
          refine iteP rfl ⟨_, rfl, x, dx, _, rfl, hx4, no_look, x, dx, L', p', be', _, pl, seg w p' (j + i + 1), rfl, hx4, hL4, seg_lt hB _ _, by omega, by omega, fun ho => ?_, fun ho => ?_⟩
          · rw [seg_last hpj hji, lenS] at ho
            exact ⟨rfl, .inl ⟨s4, hLo4, rs, l1, l2, p', be', 0, L', hT4, el, hl1, hpe, hC', hBI'.on hji (by omega), hx4, hL4, hLL, hLr, hLR⟩⟩
          · rw [seg_last hpj hji, lenS] at ho
            rw [lenS]
            rcases hBI'.over hB hji (by omega) with ⟨e1, e2⟩ | ⟨n, e1, ⟨hn, e2⟩ | ⟨hn, e2⟩⟩
            · rw [e1]
              intro H5 k hx5
              refine ⟨rfl, .inr (refused k e2 ⟨rfl, ?_, .inl rfl, j + i, rfl, by omega⟩ hx5)⟩
              omega
            · rw [e1]
              show if (30000 : Int) < (n : Int) then _ else _
              rw [if_pos (by omega)]
              intro H5 k hx5
              exact ⟨rfl, .inr (refused k e2 ⟨rfl, rfl, .inr rfl, p', rfl, by omega⟩ hx5)⟩
            · rw [e1]
              show if (30000 : Int) < (n : Int) then _ else _
              rw [if_neg (by omega)]
              intro H5 k hx5
              refine ⟨rfl, .inl ⟨kS k, kO k, rs, l1, l2, p', j + i + 1 - p', j + i + 1 - p' + n + 2, L', kT k, el, hl1, hpe, hC', e2, ?_, kL k, hLL, hLr, hLR⟩⟩
              rw [hx5]
              congr 3
        · refine iteD (fun z => c (by have := V.int.inj z; omega)) ?_
          refine ⟨_, rfl, x, _, dx, _, _, rfl, hx4, R.c, R.held, lk_held, L', _, rfl, .inl (SqL.of hL4), _, rfl, x, _, dx, _, _, rfl, hx4, R.c, R.size, lk_size, rfl, _, rfl, ?_⟩
          by_cases c2 : j + i + 1 - p' = sz'
          · refine iteP (by rw [natV_len, lenS, c2]) ?_
            obtain ⟨b1, b2, hn⟩ := hBI'.fin c hji c2
            refine ⟨_, rfl, x, dx, _, rfl, hx4, no_finish, _, rfl, x, dx, L', Rr, p', sz', pl, be', seg w p' (j + i + 1), rs.map V.ref, rfl, hx4, hL4, seg_lt hB _ _, by omega, by omega, by omega, hT4.2.1, ?_, fun hc => ?_, fun hc => ?_⟩
            · rw [List.length_map, hT4.2.2.1, List.length_map]
              have e1 := Ch.len hB hC (Nat.le_trans hBI.1 hBI.2.1)
              rw [el, List.length_append] at e1
              omega
            · rw [if_neg hc] at hn
              intro H5 k hx5
              exact ⟨rfl, .inr (refused k hn rfl hx5)⟩
            · rw [if_pos hc] at hn
              intro r Ln H5 hr0 hLn0 hrL k hx5 hL5 hr5 hR5
              cases hC' with
              | stop h n => rw [hn] at h; exact absurd h.symm (n _ _)
              | @more _ _ _ lt _ h t =>
                rw [hn] at h
                cases h
                obtain ⟨oL4, eL4⟩ := hLo4
                have free : ∀ {b : Addr}, H4 b = none → H b = none := fun {b} hb => s4.free (by
                  simp only [List.mem_cons, List.not_mem_nil, or_false, not_or]
                  exact ⟨fun z => (by rw [z, hx4] at hb; cases hb), fun z => (by rw [z, eL4] at hb; cases hb)⟩) hb
                have rsx : ∀ b o, b ∈ rs → H4 b = some o → b ≠ x ∧ b ≠ Rr := fun b o hb e => by
                  obtain ⟨n, hn, en⟩ := List.getElem_of_mem hb
                  have := hT4.2.2.2.2.2.2 n b _ (by rw [List.getElem?_eq_getElem hn, en]) (List.getElem?_eq_getElem (by have := hT4.2.2.1; omega))
                  exact ⟨fun z => (by rw [z, hx4] at this; cases this), fun z => hT4.2.2.2.2.1 (z ▸ hb)⟩
                have s5 : SameX [x, L] H H5 := fun b o n e => by
                  refine k b o ?_ (s4 b o n e)
                  simp only [List.mem_cons, List.not_mem_nil, or_false, not_or]
                  exact ⟨fun z => n (z ▸ List.mem_cons_self ..), fun z => by rw [z, hT.1] at e; cases e⟩
                have hLR0 : L ≠ Rr := fun z => by rw [z, hT.1] at hL; cases hL
                have oL5 : ∃ lo, H5 L = some (.lst lo) := ⟨oL4, k _ _ (by simp; exact ⟨Ne.symm hxL, hLR0⟩) eL4⟩
                have hT5 := hT4.more hr0 (free hr0) (fun b o hb e => k b o (by simp; exact rsx b o hb e) e) hR5 hr5
                refine ⟨rfl, .inl ⟨s5, oL5, rs ++ [r], l1 ++ [(((seg w p' (j + i + 1)).take ((seg w p' (j + i + 1)).length - 2)).drop be', j + i + 1)], lt, j + i + 1, be', 0, Ln, ?_, ?_, ?_, (by rw [lastE_app]), t, (show BI w (j + i + 1) (j + i + 1) be' 0 from BI.new hji be'), ?_, ?_, .inr (free hLn0), ?_, ?_⟩⟩
                · rw [List.map_append]; exact hT5
                · rw [el, List.append_assoc]; rfl
                · intro q hq
                  rcases List.mem_append.mp hq with z | z
                  · exact Nat.le_trans (hl1 q z) (by omega)
                  · rw [List.mem_singleton.mp z]; exact Nat.le_refl _
                · rw [hx5]
                  congr 3
                  omega
                · rw [hL5, Nat.add_assoc, seg_nil]; rfl
                · intro z
                  rcases List.mem_append.mp z with z | z
                  · obtain ⟨n, hn, en⟩ := List.getElem_of_mem z
                    have := hT4.2.2.2.2.2.2 n Ln _ (by rw [List.getElem?_eq_getElem hn, en]) (List.getElem?_eq_getElem (by have := hT4.2.2.1; omega))
                    rw [hLn0] at this
                    cases this
                  · exact hrL (List.mem_singleton.mp z).symm
                · intro z
                  rw [z, hT4.2.1] at hLn0
                  cases hLn0
          · refine iteD (fun z => c2 (by rw [natV_len, lenS] at z; have := V.int.inj z; omega)) ?_
            exact ⟨rfl, .inl ⟨s4, hLo4, rs, l1, l2, p', be', sz', L', hT4, el, hl1, hpe, hC', hBI'.step c hji c2, hx4, hL4, hLL, hLr, hLR⟩⟩
      · rintro σ' H5 ⟨rfl, h⟩
        rcases h with h | h
        · obtain ⟨s5, hLo5, rs, l1, l2, p', be', sz', L', hT, el, hl1, hpe, hC', hBI', hx5, rest⟩ := h
          refine ⟨_, rfl, x, _, dx, _, _, rfl, hx5, R.c, R.why, lk_wh, rfl, _, rfl, ?_⟩
          rw [decide_eq_true rfl]
          exact iteF ⟨_, rfl, s5, hLo5, rs, l1, l2, p', be', sz', L', hT, el, hl1, hpe, hC', hBI', hx5, rest⟩
        · obtain ⟨s5, hLo5, rs, o, e, L', st, be, sz, pl', why, hT, ex, he, ho, hx5, hLL⟩ := h
          refine ⟨_, rfl, x, _, dx, _, _, rfl, hx5, R.c, R.why, lk_wh, rfl, _, rfl, ?_⟩
          rw [decide_eq_false (fun z => ho.ne (V.str.inj z))]
          exact iteT ⟨_, rfl, .inr ⟨s5, hLo5, rs, o, e, L', st, be, sz, pl', why, hT, ex, he, ho, hx5, hLL⟩⟩
    · rintro σ' H3 ⟨v3, rfl, h⟩
      rcases h with h | h
      · have hh := h
        obtain ⟨s3, hLo3, rs, l1, l2, p', be', sz', L', hT, el, hl1, hpe, hC', hBI', hx3, hL3, hLL, hLr, hLR⟩ := h
        refine ⟨_, rfl, Rr, _, rfl, .inl (SqL.of hT.2.1), rfl, _, rfl, ite2 (fun _ => ?_) (fun _ => ?_)⟩
        · exact ⟨_, rfl, x, dx, _, rfl, hx3, no_right, x, dx, L', _, _, _, pl, "", rfl, hx3, .inl ⟨rfl, _, rfl, q1 Rr _ hh⟩⟩
        · exact ⟨_, rfl, q1 Rr _ hh⟩
      · have hh := h
        obtain ⟨s3, hLo3, rs, o, e, L', st, be2, sz2, pl', why, hT, ex, he, ho, hx3, hLL⟩ := h
        refine ⟨_, rfl, Rr, _, rfl, .inl (SqL.of hT.2.1), rfl, _, rfl, ite2 (fun c => ?_) (fun c => ?_)⟩
        · have l0 : l = [] := by
            have e1 : (((rs.map V.ref).length : Nat) : Int) = 0 := V.int.inj (of_decide_eq_true c)
            rw [List.length_map, hT.2.2.1, List.length_map] at e1
            exact List.length_eq_zero_iff.mp (by omega)
          exact ⟨_, rfl, x, dx, _, rfl, hx3, no_right, x, dx, L', _, _, _, pl', why, rfl, hx3, .inr ⟨o, ho, q3 Rr _ o e l0 hh ex⟩⟩
        · refine ⟨_, rfl, q2 Rr _ (fun z => c (decide_eq_true ?_)) hh⟩
          rw [List.length_map, hT.2.2.1, z]; rfl
end
end K6

namespace K6
open PySem L2
seal L2.PE L2.PS L2.PSs L2.PA L2.PT L2.PW L2.PG L2.PGs L2.PI L2.PO
/-! ### the wire -/
def Bt (xs : List V) (n : Nat) : Prop := ∃ bs : List Nat, xs = natV bs ∧ (∀ b ∈ bs, b < 256) ∧ bs.length ≤ n
theorem Bt.len {xs : List V} {n : Nat} (h : Bt xs n) : xs.length ≤ n := by
  obtain ⟨bs, rfl, _, h⟩ := h
  rw [natV_len]; exact h
theorem Bt.mono {xs : List V} {n m : Nat} (h : Bt xs n) (k : n ≤ m) : Bt xs m := let ⟨bs, e, b, l⟩ := h; ⟨bs, e, b, Nat.le_trans l k⟩
theorem Bt.nil : Bt [] 0 := ⟨[], rfl, fun b hb => (List.not_mem_nil hb).elim, Nat.le_refl _⟩
theorem Bt.app {xs ys : List V} {n m : Nat} (h : Bt xs n) (g : Bt ys m) : Bt (xs ++ ys) (n + m) := by
  obtain ⟨bs, rfl, h1, h2⟩ := h
  obtain ⟨cs, rfl, g1, g2⟩ := g
  refine ⟨bs ++ cs, natV_cat _ _, fun b hb => ?_, by rw [List.length_append]; omega⟩
  rcases List.mem_append.mp hb with z | z
  · exact h1 b z
  · exact g1 b z
theorem Bt.cons {xs : List V} {n : Nat} {b : Int} (h0 : 0 ≤ b) (h1 : b < 256) (h : Bt xs n) : Bt (.int b :: xs) (n + 1) := by
  obtain ⟨bs, rfl, h2, h3⟩ := h
  refine ⟨b.toNat :: bs, ?_, fun c hc => ?_, Nat.succ_le_succ h3⟩
  · unfold natV
    rw [List.map_cons, Int.toNat_of_nonneg h0]
  · rcases List.mem_cons.mp hc with z | z
    · omega
    · exact h2 c z
theorem Bt.cut {xs : List V} {n : Nat} (h : Bt xs n) (lo hi : Option Int) : Bt (cutV xs lo hi) n := by
  obtain ⟨bs, rfl, h1, h2⟩ := h
  refine ⟨(bs.drop (HT.sIx (natV bs).length 0 lo)).take (HT.sIx (natV bs).length (natV bs).length hi - HT.sIx (natV bs).length 0 lo), ?_, fun b hb => h1 b (List.mem_of_mem_drop (List.mem_of_mem_take hb)), ?_⟩
  · unfold cutV natV
    rw [List.map_take, List.map_drop]
  · rw [List.length_take, List.length_drop]; omega
theorem Bt.pre {xs : List V} {n : Nat} (h : Bt xs n) {k : Nat} {j : Int} (hj : j = (k : Int)) : Bt (cutV xs none (some j)) k := by
  obtain ⟨bs, e, h1, h2⟩ := h.cut none (some j)
  refine ⟨bs, e, h1, ?_⟩
  have e1 : (cutV xs none (some j)).length = bs.length := by rw [e, natV_len]
  rw [← e1, hj]
  unfold cutV
  rw [List.length_take, HT.sIx_nat]
  show min (min k xs.length - 0) _ ≤ k
  omega
theorem Bt.suf {xs : List V} {n : Nat} (h : Bt xs n) {k : Nat} {j : Int} (hj : j = (k : Int)) : Bt (cutV xs (some j) none) (xs.length - k) := by
  obtain ⟨bs, e, h1, h2⟩ := h.cut (some j) none
  refine ⟨bs, e, h1, ?_⟩
  have e1 : (cutV xs (some j) none).length = bs.length := by rw [e, natV_len]
  rw [← e1, hj]
  unfold cutV
  rw [List.length_take, List.length_drop, HT.sIx_nat]
  omega
theorem Bt.rep {b : Int} (h0 : 0 ≤ b) (h1 : b < 256) : ∀ k : Nat, Bt (List.replicate k [V.int b]).flatten k
  | 0 => Bt.nil
  | k + 1 => by rw [List.replicate_succ, List.flatten_cons]; exact Bt.cons h0 h1 (Bt.rep h0 h1 k)
theorem Bt.at {xs : List V} {n : Nat} (h : Bt xs n) {k : Nat} (hk : k < xs.length) {j : Int} (hj : j = (k : Int)) : ∃ b : Nat, atI xs j = some (.int (b : Int)) ∧ b < 256 := by
  obtain ⟨bs, rfl, h1, _⟩ := h
  rw [natV_len] at hk
  refine ⟨bs.getD k 0, natV_at k hj hk, ?_⟩
  rw [List.getD_eq_getElem?_getD, List.getElem?_eq_getElem hk]
  exact h1 _ (List.getElem_mem hk)
theorem Wk.rng {H1 : Hp} (lo : Int) (n : Nat) : Wk (Itr lo n) H1 ((List.range n).map fun i : Nat => V.int (lo + (i : Int))) where
  go := fun H i s hi => by rw [List.length_map, List.length_range] at hi; exact hi
  stop := fun H i s hi => by rw [List.length_map, List.length_range] at hi; exact Nat.le_of_eq hi.symm
  yld := fun H i x H' s hi y => by
    rw [List.length_map, List.length_range] at hi
    exact ⟨y.1, by rw [List.getElem?_map, List.getElem?_range hi, y.2]; rfl⟩
theorem rng_at {lo : Int} {n j : Nat} {x : V} (h : ((List.range n).map fun i : Nat => V.int (lo + (i : Int)))[j]? = some x) : x = .int (lo + j) ∧ j < n := by
  rw [List.getElem?_map] at h
  by_cases hj : j < n
  · rw [List.getElem?_range hj] at h
    exact ⟨(Option.some.inj h).symm, hj⟩
  · rw [List.getElem?_eq_none (by rw [List.length_range]; omega)] at h
    cases h
theorem pos_mod (a : Int) {b : Int} (h : 0 < b) : 0 ≤ a % b ∧ a % b < b := ⟨Int.emod_nonneg _ (Int.ne_of_gt h), Int.emod_lt_of_pos _ h⟩
theorem Bt.drawn (f : Nat → Int) (n : Nat) : Bt ((List.range n).map fun j => V.int (f j % 256)) n := by
  refine ⟨(List.range n).map fun j => (f j % 256).toNat, ?_, fun b hb => ?_, by rw [List.length_map, List.length_range]; exact Nat.le_refl _⟩
  · unfold natV
    rw [List.map_map]
    refine List.map_congr_left fun j _ => ?_
    show V.int _ = V.int _
    rw [Int.toNat_of_nonneg (pos_mod _ (by decide)).1]
  · obtain ⟨j, _, rfl⟩ := List.mem_map.mp hb
    have := pos_mod (f j) (b := 256) (by decide)
    omega
theorem kept_size {bs : List Nat} (h : bs.length ≤ 200) : (keptL bs).length ≤ bs.length + 4 ∧ (bs.length ≤ 127 → (keptL bs).length ≤ bs.length + 3) := by
  have e1 := kept_len bs
  have e2 : (whole bs).length = (nrow bs.length).length + bs.length := by unfold whole; rw [List.length_append]
  by_cases c : bs.length ≤ 127
  · rw [nrow_le c] at e2
    have e3 : [bs.length].length = 1 := rfl
    omega
  · have hn : nrow bs.length = [128 + bs.length % 128, bs.length / 128] := by rw [nrow_gt c, nrow_le (by omega)]
    have e3 : (nrow bs.length).length = 2 := by rw [hn]; rfl
    omega
theorem at2 {α : Type} {x y z : α} {xs : List α} : atI (x :: y :: z :: xs) 2 = some z := by
  have h := atI_nat (xs := x :: y :: z :: xs) (j := 2) (v := z) rfl
  exact h
def sp_wire (K : PySem.W.Frag) : Sp := fun vs H Q _ => ∃ (sa : Addr) (ns : List Int), vs = [.ref sa] ∧ SqL K H sa (ns.map V.int) ∧ (∀ i ∈ ns, Builtin.Int.intBits i ≤ 1048576) ∧
  ∀ (w : List Nat) (p : Addr) (H' : Hp), (∀ b ∈ w, b < 256) → w.length ≤ 400 → H p = none → Same H H' → H' p = some (.lst (natV w)) → Q (.ref p) H'
theorem ndJM : ((["_law_j"] : List Str) ++ (["_law_more"] : List Str)).Nodup := by decide +kernel
section
variable {P : Program} {w : World} {K : PySem.W.Frag} {mg : Str → Option Value} {base : Heap} {a : Ad}
set_option maxHeartbeats 2000000 in
theorem ok_wire (T : Tx K mg a) : FnOk P w K mg base CX0 3 a.f_wire a.d_wire ["_law_script"] (sp_wire K) := by
  have GM : FnOk P w K mg base CX0 1 a.f_mixed a.d_mixed ["_law_cell", "_law_k"] sp_mixed := ok_mixed T
  have GC : FnOk P w K mg base CX0 1 a.f_cell_at a.d_cell_at ["_law_script", "_law_k"] (sp_cell_at K) := ok_cell_at T
  have GF : FnOk P w K mg base CX0 2 a.f_frame a.d_frame ["_law_row"] sp_frame := ok_frame T
  refine T.d_wire.F.ok sc_wire (fun vs H Q E h => ?_) (fun cdv A outer s H vs Q E hr h => ?_)
  · obtain ⟨sa, ns, rfl, _⟩ := h
    rfl
  · obtain ⟨sa, ns, rfl, hS, hbit, q⟩ := h
    refine ⟨_, pss_cut (ps_set (i := 1) sc_wire.nd rfl (Or.inl rfl) (pe_call GM (hr.mono (by decide)) rfl T.d_mixed.m T.d_mixed.F.kp T.d_mixed.b .nil pass0 (pa_cons (pe_call GC (hr.mono (by decide)) rfl T.d_cell_at.m T.d_cell_at.F.kp T.d_cell_at.b .nil pass0 (pa_cons (pv 0) (pa_cons pe_int pa_nil))) (pa_cons pe_int pa_nil))))
      (pss_cons (ps_set (i := 2) sc_wire.nd rfl (Or.inl rfl) (pe_lst pa_nil))
      (pss_cut (ps_for PassesOwn.never rfl (pi_range1 rfl T.range (pa_cons (pe_op op_mod (pv 1) pe_int) pa_nil)) (pg_name (i := 3) sc_wire.nd rfl (Or.inl rfl))
        (pss_cut (ps_set (i := 4) sc_wire.nd rfl (Or.inr rfl) (pe_call GM (hr.mono (by decide)) rfl T.d_mixed.m T.d_mixed.F.kp T.d_mixed.b .nil pass0 (pa_cons (pe_call GC (hr.mono (by decide)) rfl T.d_cell_at.m T.d_cell_at.F.kp T.d_cell_at.b .nil pass0 (pa_cons (pv 0) (pa_cons (pe_op op_add pe_int (pv 3)) pa_nil))) (pa_cons (pv 3) pa_nil))))
          (pss_cons (ps_set (i := 5) sc_wire.nd rfl (Or.inl rfl) (pe_op op_mod (pv 4) pe_int))
          (pss_cut (ps_if (PW.pt (pw_and (pt_cmpR op_eq (pe_op op_mod (pe_op op_fdiv (pv 1) pe_int) pe_int) pe_int (nomark _)) (pw_and1 (pt_cmpR op_eq (pv 3) (pe_op op_mod (pe_op op_fdiv (pv 1) pe_int) pe_int) (nomark _)))))
            (pss_one (ps_set (i := 5) sc_wire.nd rfl (Or.inl rfl) (pe_op op_mod (pv 4) pe_int)))
            pss_nil)
          (pss_one (ps_set (i := 2) sc_wire.nd rfl (Or.inl rfl) (pe_op op_cat (pv 2) (pe_call GF (hr.mono (by decide)) rfl T.d_frame.m T.d_frame.F.kp T.d_frame.b .nil pass0 (pa_cons (pe_comp (ts := ["_law_j"]) (xs := ["_law_more"]) (js := [4]) rfl ⟨rfl, rfl, by decide +kernel, by decide +kernel, freeIn rfl⟩ (.cons rfl (.inl rfl) rfl .nil) (by decide +kernel) (pi_range1 rfl T.range (pa_cons (pv 5) pa_nil))
          (fun C s₀ H₀ fp => pg_name (X := cxC _ _ _ C s₀ H₀ fp) (i := 0) ndJM rfl (Or.inl rfl) (Or.inr rfl))
          (fun C s₀ H₀ fp => pif_nil (X := cxC _ _ _ C s₀ H₀ fp))
          (fun C s₀ H₀ fp => pe_op (X := cxC _ _ _ C s₀ H₀ fp) op_mod (pe_call (X := cxC _ _ _ C s₀ H₀ fp) GM (hr.mono (by decide)) rfl T.d_mixed.m T.d_mixed.F.kp T.d_mixed.b .nil pass0 (pa_cons (pv 1) (pa_cons (pv 0) pa_nil))) pe_int)) pa_nil)))))))))
      (pss_cut (ps_set (i := 4) sc_wire.nd rfl (Or.inr rfl) (pe_call GM (hr.mono (by decide)) rfl T.d_mixed.m T.d_mixed.F.kp T.d_mixed.b .nil pass0 (pa_cons (pe_call GC (hr.mono (by decide)) rfl T.d_cell_at.m T.d_cell_at.F.kp T.d_cell_at.b .nil pass0 (pa_cons (pv 0) (pa_cons pe_int pa_nil))) (pa_cons pe_int pa_nil))))
      (pss_cons (ps_set (i := 6) sc_wire.nd rfl (Or.inl rfl) (pe_op op_mod (pe_op op_fdiv (pv 4) pe_int) (pe_op op_add (pe_callB call_len_seq (by rfl) T.len bt_len (pa_cons (pv 2) pa_nil)) pe_int)))
      (pss_cons (ps_set (i := 7) sc_wire.nd rfl (Or.inl rfl) (pe_op op_mod (pv 4) pe_int))
      (pss_cons (ps_set (i := 8) sc_wire.nd rfl (Or.inl rfl) (pe_op op_mod (pe_op op_fdiv (pv 4) pe_int) pe_int))
      (pss_cons (ps_if (pt_cmpR op_eq (pv 7) pe_int (nomark _))
        (pss_one (ps_ret (pe_op op_cat (pe_slice sl_list (pv 2) po_none (po_some (pv 6))) (pe_slice sl_list (pv 2) (po_some (pe_op op_add (pv 6) pe_int)) po_none))))
        pss_nil)
      (pss_cons (ps_if (pt_cmpR op_eq (pv 7) pe_int (nomark _))
        (pss_one (ps_ret (pe_op op_cat (pe_op op_cat (pe_slice sl_list (pv 2) po_none (po_some (pv 6))) (pe_lst (pa_cons (pv 8) pa_nil))) (pe_slice sl_list (pv 2) (po_some (pv 6)) po_none))))
        pss_nil)
      (pss_cut (ps_if (PW.pt (pw_and (pt_cmpR op_eq (pv 7) pe_int (nomark _)) (pw_and1 (pt_cmpR op_lt (pv 6) (pe_callB call_len_seq (by rfl) T.len bt_len (pa_cons (pv 2) pa_nil)) (nomark _)))))
        (pss_cons (ps_set (i := 8) sc_wire.nd rfl (Or.inl rfl) (pe_op op_xor (pe_ix ix_list (pv 2) (pv 6) (fun _ _ => rfl)) (pe_op op_shl pe_int (pe_op op_mod (pv 8) pe_int))))
          (pss_one (ps_ret (pe_op op_cat (pe_op op_cat (pe_slice sl_list (pv 2) po_none (po_some (pv 6))) (pe_lst (pa_cons (pv 8) pa_nil))) (pe_slice sl_list (pv 2) (po_some (pe_op op_add (pv 6) pe_int)) po_none)))))
        pss_nil)
      (pss_cons (ps_if (pt_cmpR op_eq (pv 7) pe_int (nomark _))
        (pss_one (ps_ret (pe_op op_cat (pv 2) (pe_ix ix_list (pe_lst (pa_cons (pe_lst (pa_cons pe_int (pa_cons pe_int (pa_cons pe_int pa_nil)))) (pa_cons (pe_lst (pa_cons pe_int (pa_cons pe_int (pa_cons pe_int (pa_cons pe_int pa_nil))))) (pa_cons (pe_lst (pa_cons pe_int (pa_cons pe_int (pa_cons pe_int pa_nil)))) pa_nil)))) (pe_op op_mod (pv 8) pe_int) (fun _ _ => rfl)))))
        pss_nil)
      (pss_cons (ps_if (pt_cmpR op_eq (pv 7) pe_int (nomark _))
        (pss_one (ps_ret (pe_op op_cat (pv 2) (pe_ix ix_list (pe_lst (pa_cons (pe_lst (pa_cons pe_int (pa_cons pe_int pa_nil))) (pa_cons (pe_op op_cat (pe_op op_rep (pe_lst (pa_cons pe_int pa_nil)) pe_int) (pe_lst (pa_cons pe_int pa_nil))) (pa_cons (pe_op op_rep (pe_lst (pa_cons pe_int pa_nil)) (pe_op op_add pe_int (pe_op op_mod (pv 8) pe_int))) pa_nil)))) (pe_op op_mod (pv 8) pe_int) (fun _ _ => rfl)))))
        pss_nil)
      (pss_cons (ps_if (pt_cmpR op_eq (pv 7) pe_int (nomark _))
        (pss_one (ps_ret (pe_slice sl_list (pv 2) po_none (po_some (pv 6)))))
        pss_nil)
      (pss_one (ps_ret (pv 2))))))))))))))), ?_⟩
    have hfin : ∀ (p : Addr) (H' : Hp) (xs : List V) (n : Nat), Bt xs n → n ≤ 400 → H p = none → Same H H' → H' p = some (.lst xs) → Q (.ref p) H' := fun p H' xs n hB hn hp s' e => by
      obtain ⟨bs, rfl, h1, h2⟩ := hB
      exact q bs p H' h1 (Nat.le_trans h2 hn) hp s' e
    refine ⟨fun σ' H' => ∃ c : Int, 0 ≤ c ∧ c < 2147483647 ∧ σ' = [some (.ref sa), some (.int c), none, none, none, none, none, none, none] ∧ H = H', ?_, ?_⟩
    · refine ⟨_, rfl, sa, ns, _, rfl, hS, by decide, _, _, rfl, cell_bits hbit _, by decide, by decide, _, mixed_nn _ _, mixed_lt _ _, rfl, rfl⟩
    rintro σ' H' ⟨c, c0, c1, rfl, rfl⟩
    refine ⟨by show 0 ≤ sizeLine; decide, fun l0 hl0 => ?_⟩
    have z7 := pos_mod c (b := 7) (by decide)
    refine ⟨fun σ' H' => ∃ (l : Addr) (xs : List V) (x3 x4 x5 : Option V), σ' = [some (.ref sa), some (.int c), some (.ref l), x3, x4, x5, none, none, none] ∧ H l = none ∧ Same H H' ∧ H' l = some (.lst xs) ∧ Bt xs 278, ?_, ?_⟩
    · refine ⟨_, rfl, _, _, rfl, rfl, (by show (0 : Int) < 7; decide), c % 7, rfl, by omega, by omega, for_range (n := (c % 7).toNat) (fun i σ' H' => ∃ (l : Addr) (xs : List V) (x3 x4 x5 : Option V), σ' = [some (.ref sa), some (.int c), some (.ref l), x3, x4, x5, none, none, none] ∧ H l = none ∧ Same H H' ∧ H' l = some (.lst xs) ∧ Bt xs (13 * i + if c / 35 % 6 < i then 200 else 0)) ⟨l0, [], _, _, _, rfl, hl0, sameU hl0, upd_same, Bt.nil.mono (Nat.zero_le _)⟩ (fun i σ' H2 hi h => ?_) (fun σ' H2 h => ?_)⟩
      rotate_left
      · obtain ⟨l, xs, x3, x4, x5, rfl, h1, h2, h3, h4⟩ := h
        refine ⟨l, xs, x3, x4, x5, rfl, h1, h2, h3, h4.mono ?_⟩
        split <;> omega
      obtain ⟨l, xs, x3, x4, x5, rfl, hl, s2, hl2, hB⟩ := h
      refine ⟨fun σ' H' => ∃ mo : Int, 0 ≤ mo ∧ mo < 2147483647 ∧ σ' = [some (.ref sa), some (.int c), some (.ref l), some (.int (0 + (i : Int))), some (.int mo), x5, none, none, none] ∧ H2 = H', ?_, ?_⟩
      · refine ⟨_, rfl, _, rfl, _, _, rfl, rfl, sa, ns, _, rfl, s2.seq hS, by omega, _, rfl, _, _, rfl, cell_bits hbit _, by omega, by omega, _, mixed_nn _ _, mixed_lt _ _, rfl, rfl⟩
      rintro σ' H' ⟨mo, m0, m1, rfl, rfl⟩
      have z11 := pos_mod mo (b := 11) (by decide)
      have z201 := pos_mod mo (b := 201) (by decide)
      refine ⟨_, rfl, _, _, rfl, rfl, (by show (0 : Int) < 11; decide), ?_⟩
      refine ⟨fun σ' H' => ∃ sz : Nat, σ' = [some (.ref sa), some (.int c), some (.ref l), some (.int (0 + (i : Int))), some (.int mo), some (.int (sz : Int)), none, none, none] ∧ H2 = H' ∧ (sz ≤ 10 ∨ (sz ≤ 200 ∧ c / 35 % 6 = (i : Int))), ?_, ?_⟩
      · refine ⟨_, rfl, _, _, rfl, rfl, ⟨by decide, by decide⟩, _, _, rfl, rfl, (by show (0 : Int) < 5; decide), rfl, _, rfl, ite2 (fun _ => ?_) (fun _ => ?_)⟩
        · refine ⟨_, rfl, _, rfl, _, _, rfl, rfl, ⟨by decide, by decide⟩, _, _, rfl, rfl, (by show (0 : Int) < 6; decide), rfl, _, rfl, ite2 (fun h6 => ?_) (fun _ => ?_)⟩
          · have e6 : (0 + (i : Int)) = c / 35 % 6 := V.int.inj (of_decide_eq_true h6)
            refine ⟨_, rfl, _, _, rfl, rfl, (by show (0 : Int) < 201; decide), (mo % 201).toNat, ?_, rfl, .inr ⟨by omega, by omega⟩⟩
            rw [Int.toNat_of_nonneg z201.1]; rfl
          · refine ⟨(mo % 11).toNat, ?_, rfl, .inl (by omega)⟩
            rw [Int.toNat_of_nonneg z11.1]; rfl
        · refine ⟨(mo % 11).toNat, ?_, rfl, .inl (by omega)⟩
          rw [Int.toNat_of_nonneg z11.1]; rfl
      rintro σ' H' ⟨sz, rfl, rfl, hsz⟩
      have sz200 : sz ≤ 200 := by omega
      refine ⟨_, rfl, _, rfl, (sz : Int), rfl, by omega, by omega, ?_⟩
      rw [Int.toNat_natCast]
      refine comp_growI (Wk.rng 0 sz) (by rw [List.length_map, List.length_range]; omega) (fun j => .int (mixed mo (0 + (j : Int)) % 256)) (fun j x hx H3 R s3 hR => ?_) (fun D H3 hD s3 e3 => ?_)
      · obtain ⟨rfl, hj⟩ := rng_at hx
        exact ⟨Sub.set rfl, _, rfl, _, rfl, mo, _, rfl, bits_small m0 m1, by omega, by omega, _, _, rfl, rfl, (by show (0 : Int) < 256; decide), hR H3 fun _ _ e => e⟩
      · rw [List.length_map, List.length_range] at e3
        obtain ⟨bs, eb, b1, b2⟩ := Bt.drawn (fun j => mixed mo (0 + (j : Int))) sz
        rw [eb] at e3
        refine ⟨D, bs, rfl, e3, b1, by omega, fun D2 H4 hD2 s4 e4 => ?_⟩
        have hk := kept_size (bs := bs) (by omega)
        have hBk : Bt (natV (keptL bs)) (bs.length + 4) := ⟨_, rfl, kept_lt b1, hk.1⟩
        have s34 := s3.trans s4
        refine ⟨l, D2, _, _, rfl, rfl, s34 _ _ hl2, e4, ?_, fun p hp => ?_⟩
        · have l1 := hB.len
          have l2 := hBk.len
          refine small (Nat.le_trans (Nat.add_le_add l1 l2) ?_)
          split <;> omega
        · refine ⟨p, _, _, _, _, rfl, (s2.trans s34).free hp, (s2.trans s34).trans (sameU hp), upd_same, ?_⟩
          by_cases c6 : sz ≤ 10
          · have hBk2 : Bt (natV (keptL bs)) 13 := ⟨_, rfl, kept_lt b1, Nat.le_trans (hk.2 (by omega)) (by omega)⟩
            refine (hB.app hBk2).mono ?_
            split <;> split <;> omega
          · refine (hB.app hBk).mono ?_
            rw [if_neg (by omega), if_pos (by omega)]
            omega
    rintro σ' H2 ⟨l, xs, x3, x4, x5, rfl, hl, s2, hl2, hB⟩
    have hxs := hB.len
    refine ⟨fun σ' H' => ∃ mo : Int, 0 ≤ mo ∧ mo < 2147483647 ∧ σ' = [some (.ref sa), some (.int c), some (.ref l), x3, some (.int mo), x5, none, none, none] ∧ H2 = H', ?_, ?_⟩
    · refine ⟨_, rfl, sa, ns, _, rfl, s2.seq hS, by decide, _, _, rfl, cell_bits hbit _, by decide, by decide, _, mixed_nn _ _, mixed_lt _ _, rfl, rfl⟩
    rintro σ' H' ⟨mo, m0, m1, rfl, rfl⟩
    have hp1 : (0 : Int) < (xs.length : Int) + 1 := by omega
    have zA := pos_mod (mo / 14) hp1
    have zB := pos_mod (mo / 5000) (b := 256) (by decide)
    obtain ⟨k, ek⟩ : ∃ k : Nat, mo / 14 % ((xs.length : Int) + 1) = (k : Int) := ⟨_, (Int.toNat_of_nonneg zA.1).symm⟩
    refine ⟨_, rfl, _, _, rfl, rfl, ⟨by decide, by decide⟩, _, rfl, l, _, rfl, .inl (SqL.of hl2), _, _, rfl, rfl, _, _, rfl, rfl, hp1, ?_⟩
    refine ⟨_, rfl, _, _, rfl, rfl, (by show (0 : Int) < 14; decide), ?_⟩
    refine ⟨_, rfl, _, _, rfl, rfl, ⟨by decide, by decide⟩, _, _, rfl, rfl, (by show (0 : Int) < 256; decide), ?_⟩
    have hk : k ≤ xs.length := by omega
    have cat : ∀ {n m : Nat} {ys zs : List V}, Bt ys n → Bt zs m → n + m ≤ 400 → ys.length + zs.length ≤ sizeLine := fun {n m ys zs} h1 h2 h3 => small (Nat.le_trans (Nat.add_le_add h1.len h2.len) (Nat.le_trans h3 (by decide)))
    have e1 : mo / 14 % ((xs.length : Int) + 1) + 1 = ((k + 1 : Nat) : Int) := by omega
    refine ⟨_, rfl, rfl, _, rfl, ite2 (fun _ => ?_) (fun _ => ?_)⟩
    · refine ⟨_, rfl, _, rfl, _, rfl, l, _, rfl, SqL.of hl2, fun p1 hp1 => ?_⟩
      have t1 := sameU (u := .lst (cutV xs none (some (mo / 14 % ((xs.length : Int) + 1))))) hp1
      refine ⟨_, rfl, _, rfl, _, _, rfl, rfl, _, rfl, l, _, rfl, SqL.of (t1 _ _ hl2), fun p2 hp2 => ?_⟩
      have b1 := hB.pre ek
      have b2 := hB.suf e1
      refine ⟨p1, p2, _, _, rfl, rfl, keepH upd_same hp2, upd_same, cat b1 b2 (by omega), fun p3 hp3 => ?_⟩
      have t2 := t1.trans (sameU (u := .lst (cutV xs (some (mo / 14 % ((xs.length : Int) + 1) + 1)) none)) hp2)
      exact hfin p3 _ _ _ (b1.app b2) (by omega) ((s2.trans t2).free hp3) ((s2.trans t2).trans (sameU hp3)) upd_same
    refine ⟨_, rfl, rfl, _, rfl, ite2 (fun _ => ?_) (fun _ => ?_)⟩
    · refine ⟨_, rfl, _, rfl, _, rfl, l, _, rfl, SqL.of hl2, fun p1 hp1 => ?_⟩
      have t1 := sameU (u := .lst (cutV xs none (some (mo / 14 % ((xs.length : Int) + 1))))) hp1
      refine ⟨_, rfl, by show 1 ≤ sizeLine; decide, fun p2 hp2 => ?_⟩
      have b1 := hB.pre ek
      have b2 : Bt [.int (mo / 5000 % 256)] 1 := Bt.cons zB.1 zB.2 Bt.nil
      have t2 := t1.trans (sameU (u := .lst [.int (mo / 5000 % 256)]) hp2)
      refine ⟨p1, p2, _, _, rfl, rfl, keepH upd_same hp2, upd_same, cat b1 b2 (by omega), fun p3 hp3 => ?_⟩
      have t3 := t2.trans (sameU (u := .lst (cutV xs none (some (mo / 14 % ((xs.length : Int) + 1))) ++ [.int (mo / 5000 % 256)])) hp3)
      refine ⟨_, rfl, _, rfl, _, rfl, l, _, rfl, SqL.of (t3 _ _ hl2), fun p4 hp4 => ?_⟩
      have b3 := hB.suf ek
      refine ⟨p3, p4, _, _, rfl, rfl, keepH upd_same hp4, upd_same, cat (b1.app b2) b3 (by omega), fun p5 hp5 => ?_⟩
      have t4 := t3.trans (sameU (u := .lst (cutV xs (some (mo / 14 % ((xs.length : Int) + 1))) none)) hp4)
      exact hfin p5 _ _ _ ((b1.app b2).app b3) (by omega) ((s2.trans t4).free hp5) ((s2.trans t4).trans (sameU hp5)) upd_same
    refine ⟨fun σ' H' => σ' = [some (.ref sa), some (.int c), some (.ref l), x3, some (.int mo), x5, some (.int (mo / 14 % ((xs.length : Int) + 1))), some (.int (mo % 14)), some (.int (mo / 5000 % 256))] ∧ H2 = H', ?_, ?_⟩
    · refine ⟨_, rfl, rfl, _, rfl, ite2 (fun _ => ?_) (fun _ => ⟨rfl, rfl⟩)⟩
      refine ⟨_, rfl, _, rfl, l, _, rfl, .inl (SqL.of hl2), _, _, rfl, rfl, _, rfl, ite2 (fun hlt => ?_) (fun _ => ⟨rfl, rfl⟩)⟩
      have hlt : mo / 14 % ((xs.length : Int) + 1) < (xs.length : Int) := of_decide_eq_true hlt
      obtain ⟨b, hb, hb2⟩ := hB.at (k := k) (by omega) ek
      have z8 := pos_mod (mo / 5000 % 256) (b := 8) (by decide)
      refine ⟨_, rfl, _, rfl, l, _, _, _, rfl, rfl, SqL.of hl2, hb, _, rfl, _, _, rfl, rfl, (by show (0 : Int) < 8; decide), _, _, rfl, rfl, ⟨by omega, by omega, by decide⟩, _, _, rfl, rfl, ?_⟩
      have ex : Builtin.bitXor ((b : Nat) : Int) (1 * 2 ^ (mo / 5000 % 256 % 8).toNat) = ((b ^^^ 2 ^ (mo / 5000 % 256 % 8).toNat : Nat) : Int) := by
        rw [Int.one_mul, show (2 : Int) ^ (mo / 5000 % 256 % 8).toNat = ((2 ^ (mo / 5000 % 256 % 8).toNat : Nat) : Int) by norm_cast, bxor]
      have tl := (turn_lt hb2 (show (mo / 5000 % 256 % 8).toNat < 8 by omega)).1
      have b2 : Bt [.int (Builtin.bitXor ((b : Nat) : Int) (1 * 2 ^ (mo / 5000 % 256 % 8).toNat))] 1 := Bt.cons (by rw [ex]; omega) (by rw [ex]; omega) Bt.nil
      refine ⟨_, rfl, _, rfl, _, rfl, l, _, rfl, SqL.of hl2, fun p1 hp1 => ?_⟩
      have t1 := sameU (u := .lst (cutV xs none (some (mo / 14 % ((xs.length : Int) + 1))))) hp1
      refine ⟨_, rfl, by show 1 ≤ sizeLine; decide, fun p2 hp2 => ?_⟩
      have b1 := hB.pre ek
      have t2 := t1.trans (sameU (u := .lst [.int (Builtin.bitXor ((b : Nat) : Int) (1 * 2 ^ (mo / 5000 % 256 % 8).toNat))]) hp2)
      refine ⟨p1, p2, _, _, rfl, rfl, keepH upd_same hp2, upd_same, cat b1 b2 (by omega), fun p3 hp3 => ?_⟩
      have t3 := t2.trans (sameU (u := .lst (cutV xs none (some (mo / 14 % ((xs.length : Int) + 1))) ++ [.int (Builtin.bitXor ((b : Nat) : Int) (1 * 2 ^ (mo / 5000 % 256 % 8).toNat))])) hp3)
      refine ⟨_, rfl, _, rfl, _, _, rfl, rfl, _, rfl, l, _, rfl, SqL.of (t3 _ _ hl2), fun p4 hp4 => ?_⟩
      have b3 := hB.suf e1
      refine ⟨p3, p4, _, _, rfl, rfl, keepH upd_same hp4, upd_same, cat (b1.app b2) b3 (by omega), fun p5 hp5 => ?_⟩
      have t4 := t3.trans (sameU (u := .lst (cutV xs (some (mo / 14 % ((xs.length : Int) + 1) + 1)) none)) hp4)
      exact hfin p5 _ _ _ ((b1.app b2).app b3) (by omega) ((s2.trans t4).free hp5) ((s2.trans t4).trans (sameU hp5)) upd_same
    rintro σ' H' ⟨rfl, rfl⟩
    have z3 := pos_mod (mo / 5000 % 256) (b := 3) (by decide)
    have z10 := pos_mod (mo / 5000 % 256) (b := 10) (by decide)
    -- wire + one of three
    have pick : ∀ (H3 : Hp) (L r1 r2 r3 : Addr) (x1 x2 x3 : List V), Same H2 H3 → H3 L = some (.lst [.ref r1, .ref r2, .ref r3]) → H3 r1 = some (.lst x1) → H3 r2 = some (.lst x2) → H3 r3 = some (.lst x3) → Bt x1 40 → Bt x2 40 → Bt x3 40 →
        ∃ (p : Addr) (ys : List V), atI [V.ref r1, .ref r2, .ref r3] (mo / 5000 % 256 % 3) = some (.ref p) ∧ H3 p = some (.lst ys) ∧ Bt ys 40 := fun H3 L r1 r2 r3 y1 y2 y3 t hL h1 h2 h3 g1 g2 g3 => by
      rcases (show mo / 5000 % 256 % 3 = 0 ∨ mo / 5000 % 256 % 3 = 1 ∨ mo / 5000 % 256 % 3 = 2 by omega) with e | e | e
      · rw [e]; exact ⟨r1, y1, at0, h1, g1⟩
      · rw [e]; exact ⟨r2, y2, at1, h2, g2⟩
      · rw [e]; exact ⟨r3, y3, at2, h3, g3⟩
    refine ⟨_, rfl, rfl, _, rfl, ite2 (fun _ => ?_) (fun _ => ?_)⟩
    · refine ⟨_, rfl, by show 3 ≤ sizeLine; decide, fun r1 h1 => ⟨by show 4 ≤ sizeLine; decide, fun r2 h2 => ⟨by show 3 ≤ sizeLine; decide, fun r3 h3 => ⟨by show 3 ≤ sizeLine; decide, fun L hL => ?_⟩⟩⟩⟩
      have t1 := sameU (u := .lst [.int 177, .int 234, .int 1]) h1
      have t2 := sameU (u := .lst [.int 255, .int 255, .int 255, .int 9]) h2
      have t3 := sameU (u := .lst [.int 176, .int 234, .int 1]) h3
      have t4 := sameU (u := .lst [.ref r1, .ref r2, .ref r3]) hL
      have tt := ((t1.trans t2).trans t3).trans t4
      obtain ⟨p, ys, ep, hp, bp⟩ := pick _ L r1 r2 r3 _ _ _ tt upd_same (t4 _ _ (t3 _ _ (t2 _ _ upd_same))) (t4 _ _ (t3 _ _ upd_same)) (t4 _ _ upd_same) ((Bt.cons (by decide) (by decide) (Bt.cons (by decide) (by decide) (Bt.cons (by decide) (by decide) Bt.nil))).mono (by decide)) ((Bt.cons (by decide) (by decide) (Bt.cons (by decide) (by decide) (Bt.cons (by decide) (by decide) (Bt.cons (by decide) (by decide) Bt.nil)))).mono (by decide)) ((Bt.cons (by decide) (by decide) (Bt.cons (by decide) (by decide) (Bt.cons (by decide) (by decide) Bt.nil))).mono (by decide))
      refine ⟨_, rfl, _, _, rfl, rfl, (by show (0 : Int) < 3; decide), L, _, _, _, rfl, rfl, SqL.of upd_same, ep, l, p, _, _, rfl, rfl, tt _ _ hl2, hp, cat hB bp (by decide), fun p5 hp5 => ?_⟩
      exact hfin p5 _ _ _ (hB.app bp) (by decide) ((s2.trans tt).free hp5) ((s2.trans tt).trans (sameU hp5)) upd_same
    refine ⟨_, rfl, rfl, _, rfl, ite2 (fun _ => ?_) (fun _ => ?_)⟩
    · refine ⟨_, rfl, by show 2 ≤ sizeLine; decide, fun r1 h1 => ⟨by show 1 ≤ sizeLine; decide, fun q1 hq1 => ?_⟩⟩
      have t1 := sameU (u := .lst [.int 128, .int 0]) h1
      have t2 := sameU (u := .lst [.int 255]) hq1
      refine ⟨q1, 36, _, rfl, rfl, upd_same, by decide, by decide, by show 1 * 36 ≤ sizeLine; decide, fun q2 hq2 => ⟨by show 1 ≤ sizeLine; decide, fun q3 hq3 => ?_⟩⟩
      have t3 := sameU (u := .lst (List.replicate (36 : Int).toNat [V.int 255]).flatten) hq2
      have t4 := sameU (u := .lst [.int 16]) hq3
      have b1 : Bt (List.replicate (36 : Int).toNat [V.int 255]).flatten 36 := Bt.rep (by decide) (by decide) 36
      have b2 : Bt [.int 16] 1 := Bt.cons (by decide) (by decide) Bt.nil
      refine ⟨q2, q3, _, _, rfl, rfl, t4 _ _ upd_same, upd_same, cat b1 b2 (by decide), fun r2 h2 => ⟨by show 1 ≤ sizeLine; decide, fun q4 hq4 => ?_⟩⟩
      have t5 := sameU (u := .lst ((List.replicate (36 : Int).toNat [V.int 255]).flatten ++ [.int 16])) h2
      have t6 := sameU (u := .lst [.int 200]) hq4
      have b4 : Bt (List.replicate (30 + mo / 5000 % 256 % 10).toNat [V.int 200]).flatten (30 + mo / 5000 % 256 % 10).toNat := Bt.rep (by decide) (by decide) _
      refine ⟨_, rfl, _, _, rfl, rfl, (by show (0 : Int) < 10; decide), _, _, rfl, rfl, q4, _, _, rfl, rfl, upd_same, by omega, by omega, ?_, fun r3 h3 => ⟨by show 3 ≤ sizeLine; decide, fun L hL => ?_⟩⟩
      · show 1 * (30 + mo / 5000 % 256 % 10).toNat ≤ sizeLine
        exact small (by omega)
      have t7 := sameU (u := .lst (List.replicate (30 + mo / 5000 % 256 % 10).toNat [V.int 200]).flatten) h3
      have t8 := sameU (u := .lst [.ref r1, .ref r2, .ref r3]) hL
      have tt := ((((((t1.trans t2).trans t3).trans t4).trans t5).trans t6).trans t7).trans t8
      obtain ⟨p, ys, ep, hp, bp⟩ := pick _ L r1 r2 r3 _ _ _ tt upd_same (t8 _ _ (t7 _ _ (t6 _ _ (t5 _ _ (t4 _ _ (t3 _ _ (t2 _ _ upd_same))))))) (t8 _ _ (t7 _ _ (t6 _ _ upd_same))) (t8 _ _ upd_same) ((Bt.cons (by decide) (by decide) (Bt.cons (by decide) (by decide) Bt.nil)).mono (by decide)) ((b1.app b2).mono (by decide)) (b4.mono (by omega))
      refine ⟨_, rfl, _, _, rfl, rfl, (by show (0 : Int) < 3; decide), L, _, _, _, rfl, rfl, SqL.of upd_same, ep, l, p, _, _, rfl, rfl, tt _ _ hl2, hp, cat hB bp (by decide), fun p5 hp5 => ?_⟩
      exact hfin p5 _ _ _ (hB.app bp) (by decide) ((s2.trans tt).free hp5) ((s2.trans tt).trans (sameU hp5)) upd_same
    refine ⟨_, rfl, rfl, _, rfl, ite2 (fun _ => ?_) (fun _ => ?_)⟩
    · refine ⟨_, rfl, _, rfl, _, rfl, l, _, rfl, SqL.of hl2, fun p1 hp1 => ?_⟩
      exact hfin p1 _ _ _ (hB.pre ek) (by omega) (s2.free hp1) (s2.trans (sameU hp1)) upd_same
    exact ⟨_, rfl, hfin l _ _ _ hB (by decide) hl s2 hl2⟩
end
end K6

namespace K6
open PySem L2
seal L2.PE L2.PS L2.PSs L2.PA L2.PT L2.PW L2.PG L2.PGs L2.PI L2.PO
theorem cut_seg {w : List Nat} {a b : Nat} (hb : b ≤ w.length) {ai bi : Int} (ha : ai = (a : Int)) (hbi : bi = (b : Int)) : cutV (natV w) (some ai) (some bi) = natV (seg w a b) := by
  subst ha hbi
  unfold cutV
  rw [natV_len, HT.sIx_nat, HT.sIx_nat]
  unfold natV seg
  rw [← List.map_drop, ← List.map_take, List.drop_take]
  by_cases h : a ≤ w.length
  · rw [Nat.min_eq_left hb, Nat.min_eq_left h]
  · rw [Nat.min_eq_left hb, Nat.min_eq_right (by omega), show b - w.length = 0 by omega, show b - a = 0 by omega]
    simp
theorem crc_seg {w : List Nat} {p E : Nat} (h1 : p + 2 ≤ E) (h2 : E ≤ w.length) : crcOk (seg w p E) ↔ crcL (seg w p (E - 2)) = 256 * w.getD (E - 2) 0 + w.getD (E - 1) 0 := by
  have hl := seg_len (w := w) (a := p) (b := E) h2
  have e1 : (seg w p E).take ((seg w p E).length - 2) = seg w p (E - 2) := by
    rw [hl]
    unfold seg
    rw [List.take_drop, List.take_take, show min (p + (E - p - 2)) E = E - 2 by omega]
  unfold crcOk
  rw [e1, hl, seg_getD (by omega), seg_getD (by omega), show p + (E - p - 2) = E - 2 by omega, show p + (E - p - 1) = E - 1 by omega]
/-- what the law's own walk tells of a place -/
def NxV (H : Hp) (x : N6) (v : V) : Prop := match x with
  | .none => v = .non
  | .bad o e => ∃ t R, v = .ref t ∧ H t = some (.tup [.ref R, .int (e : Int)]) ∧ H R = some (.lst (oV o))
  | .row r e => ∃ t R, v = .ref t ∧ H t = some (.tup [.ref R, .int (e : Int), .bl true]) ∧ H R = some (.lst (natV r))
theorem NxV.same {H H' : Hp} {x : N6} {v : V} (s : Same H H') (h : NxV H x v) : NxV H' x v := by
  cases x with
  | none => exact h
  | bad o e => obtain ⟨t, R, h1, h2, h3⟩ := h; exact ⟨t, R, h1, s _ _ h2, s _ _ h3⟩
  | row r e => obtain ⟨t, R, h1, h2, h3⟩ := h; exact ⟨t, R, h1, s _ _ h2, s _ _ h3⟩
/-- what is new -/
def fr (H H' : Hp) : Hp := fun b => match H b with | some _ => none | none => H' b
theorem fr_at {H H' : Hp} {b : Addr} {o : HO} (h : H b = none) (e : H' b = some o) : fr H H' b = some o := by
  unfold fr
  rw [h]
  exact e
theorem fr_some {H H' : Hp} {b : Addr} {o : HO} (e : fr H H' b = some o) : H b = none ∧ H' b = some o := by
  unfold fr at e
  cases z : H b with
  | some u => rw [z] at e; cases e
  | none => rw [z] at e; exact ⟨rfl, e⟩
def sp_next : Sp := fun vs H Q _ => ∃ (W : Addr) (w : List Nat) (p : Nat), vs = [.ref W, .int (p : Int)] ∧ H W = some (.lst (natV w)) ∧ (∀ b ∈ w, b < 256) ∧ w.length ≤ 400 ∧ p ≤ w.length ∧ ∀ v H', Same H H' → NxV (fr H H') (nextF w p) v → Q v H'
section
variable {P : Program} {w : World} {K : PySem.W.Frag} {mg : Str → Option Value} {base : Heap} {a : Ad}
set_option maxHeartbeats 2000000 in
theorem ok_next (T : Tx K mg a) : FnOk P w K mg base CX0 2 a.f_next a.d_next ["_law_wire_here", "_law_at_here"] sp_next := by
  have GK : FnOk P w K mg base CX0 1 a.f_l_check a.d_l_check ["_law_row"] sp_l_check := ok_l_check T
  refine T.d_next.F.ok sc_next (fun vs H Q E h => ?_) (fun cdv A outer s H vs Q E hr h => ?_)
  · obtain ⟨W, w, p, rfl, _⟩ := h
    rfl
  · obtain ⟨W, w, p, rfl, hW, hb, h4, hp, q⟩ := h
    refine ⟨_, pss_cons (ps_set (i := 2) sc_next.nd rfl (Or.inl rfl) pe_int)
      (pss_cons (ps_set (i := 3) sc_next.nd rfl (Or.inl rfl) pe_int)
      (pss_cons (ps_for PassesOwn.never rfl (pi_range2 rfl T.range (pa_cons (pv 1) (pa_cons (pe_callB call_len_seq (by rfl) T.len bt_len (pa_cons (pv 0) pa_nil)) pa_nil))) (pg_name (i := 4) sc_next.nd rfl (Or.inl rfl))
        (pss_cons (ps_set (i := 5) sc_next.nd rfl (Or.inl rfl) (pe_ix ix_list (pv 0) (pv 4) (fun _ _ => rfl)))
          (pss_cons (ps_if (PW.pt (pw_or (PW.pt (pw_and (pt_cmpR op_eq (pe_op op_sub (pv 4) (pv 1)) pe_int (nomark _)) (pw_and1 (pt_cmpR op_gt (pv 5) pe_int (nomark _))))) (pw_or1 (PW.pt (pw_and (pt_cmpR op_eq (pv 5) pe_int (nomark _)) (pw_and1 (pt_cmpR op_gt (pv 4) (pv 1) (nomark _))))))))
            (pss_one (ps_ret (pe_tup (pa_cons (pe_lst (pa_cons pe_str (pa_cons (pv 4) (pa_cons pe_str (pa_cons pe_bl pa_nil))))) (pa_cons (pe_op op_add (pv 4) pe_int) pa_nil)))))
            pss_nil)
          (pss_cons (ps_set (i := 2) sc_next.nd rfl (Or.inl rfl) (pe_op op_add (pv 2) (pe_op op_mul (pe_op op_mod (pv 5) pe_int) (pv 3))))
          (pss_cons (ps_set (i := 3) sc_next.nd rfl (Or.inl rfl) (pe_op op_mul (pv 3) pe_int))
          (pss_one (ps_if (pt_cmpR op_lt (pv 5) pe_int (nomark _))
            (pss_cons (ps_if (pt_cmpR op_gt (pv 2) pe_int (nomark _))
                (pss_one (ps_ret (pe_tup (pa_cons (pe_lst (pa_cons pe_str (pa_cons (pv 1) (pa_cons pe_str (pa_cons pe_bl pa_nil))))) (pa_cons (pe_op op_add (pv 4) pe_int) pa_nil)))))
                pss_nil)
              (pss_cons (ps_set (i := 6) sc_next.nd rfl (Or.inl rfl) (pe_op op_add (pe_op op_add (pe_op op_add (pv 4) pe_int) (pv 2)) pe_int))
              (pss_cons (ps_if (pt_cmpR op_gt (pv 6) (pe_callB call_len_seq (by rfl) T.len bt_len (pa_cons (pv 0) pa_nil)) (nomark _))
                (pss_one (ps_ret pe_non))
                pss_nil)
              (pss_cons (ps_set (i := 7) sc_next.nd rfl (Or.inl rfl) (pe_op op_add (pe_op op_mul pe_int (pe_ix ix_list (pv 0) (pe_op op_sub (pv 6) pe_int) (fun _ _ => rfl))) (pe_ix ix_list (pv 0) (pe_op op_sub (pv 6) pe_int) (fun _ _ => rfl))))
              (pss_cons (ps_if (pt_cmpR op_ne (pe_call GK (hr.mono (by decide)) rfl T.d_l_check.m T.d_l_check.F.kp T.d_l_check.b .nil pass0 (pa_cons (pe_slice sl_list (pv 0) (po_some (pv 1)) (po_some (pe_op op_sub (pv 6) pe_int))) pa_nil)) (pv 7) (nomark _))
                (pss_one (ps_ret (pe_tup (pa_cons (pe_lst (pa_cons pe_str pa_nil)) (pa_cons (pv 6) pa_nil)))))
                pss_nil)
              (pss_one (ps_ret (pe_tup (pa_cons (pe_slice sl_list (pv 0) (po_some (pe_op op_add (pv 4) pe_int)) (po_some (pe_op op_sub (pv 6) pe_int))) (pa_cons (pv 6) (pa_cons pe_bl pa_nil)))))))))))
            pss_nil)))))))
      (pss_one (ps_ret pe_non)))), ?_⟩
    refine ⟨_, rfl, _, rfl, W, _, rfl, .inl (SqL.of hW), (p : Int), ((natV w).length : Int), rfl, ⟨by omega, by omega, by omega, by rw [natV_len]; omega⟩, ?_⟩
    rw [show (((natV w).length : Int) - (p : Int)).toNat = w.length - p by rw [natV_len]; omega]
    refine for_range (n := w.length - p) (fun i σ H' => H = H' ∧ ∃ (nu po : Int) (v4 v5 : Option V), 0 ≤ nu ∧ 0 ≤ po ∧ σ = [some (.ref W), some (.int (p : Int)), some (.int nu), some (.int po), v4, v5, none, none] ∧ rd (intsN w) p (w.length - p - i) (p + i) nu po = rd (intsN w) p (w.length - p) p 0 1) ⟨rfl, 0, 1, none, none, by decide, by decide, rfl, rfl⟩ ?_ ?_
    · rintro i σ H1 hi ⟨rfl, nu, po, v4, v5, hnu, hpo, rfl, e⟩
      have hpi : p + i < w.length := by omega
      have pe : (p : Int) + (i : Int) = ((p + i : Nat) : Int) := by omega
      have hbe : (intsN w).getD (p + i) 0 = ((w.getD (p + i) 0 : Nat) : Int) := ints_at w _
      have hb256 : w.getD (p + i) 0 < 256 := by
        rw [List.getD_eq_getElem?_getD, List.getElem?_eq_getElem hpi]
        exact hb _ (List.getElem_mem hpi)
      refine ⟨_, rfl, _, rfl, W, _, _, _, rfl, rfl, SqL.of hW, natV_at (p + i) pe hpi, ?_⟩
      generalize w.getD (p + i) 0 = b at hbe hb256
      have ef : w.length - p - i = (w.length - p - (i + 1)) + 1 := by omega
      rw [ef] at e
      have i36 : V.int ((p : Int) + (i : Int) - (p : Int)) = V.int 36 ↔ i = 36 := ⟨fun z => by injection z with z; omega, fun z => by rw [z]; congr 1; omega⟩
      have b0 : V.int (b : Int) = V.int 0 ↔ b = 0 := ⟨fun z => by injection z with z; omega, fun z => by rw [z]; rfl⟩
      have bad : ((intsN w).getD (p + i) 0 = 0 ∧ p < p + i) ∨ (15 < (intsN w).getD (p + i) 0 ∧ p + i = p + 36) → ∀ l, H l = none → ∀ t, (upd H l (.lst [.str "wire", .int ((p : Int) + (i : Int)), .str "number", .bl false])) t = none → Q (.ref t) (upd (upd H l (.lst [.str "wire", .int ((p : Int) + (i : Int)), .str "number", .bl false])) t (.tup [.ref l, .int ((p : Int) + (i : Int) + 1)])) := fun hc l hl t ht => by
        rw [rd_bad hc] at e
        have en : nextF w p = .bad (.wire ((p + i : Nat) : Int) "number") (p + i + 1) := next_bad e.symm
        rw [pe]
        refine q _ _ ((sameU hl).trans (sameU (by rw [← pe]; exact ht))) ?_
        rw [en]
        have ht' : (upd H l (.lst [.str "wire", .int ((p + i : Nat) : Int), .str "number", .bl false])) t = none := by rw [← pe]; exact ht
        exact ⟨t, l, rfl, fr_at (Same.free (sameU hl) ht') upd_same, fr_at hl (keepH upd_same ht')⟩
      by_cases k1 : i = 36 ∧ 15 < b
      · exact ⟨_, rfl, _, rfl, _, _, rfl, rfl, rfl, _, rfl, iteP (i36.mpr k1.1) ⟨_, rfl, _, _, rfl, rfl, _, rfl, iteP (by omega) (iteT ⟨_, rfl, by show 4 ≤ sizeLine; decide, fun l hl => ⟨_, rfl, _, _, rfl, rfl, by show 2 ≤ sizeLine; decide, bad (.inr (by rw [hbe]; omega)) l hl⟩⟩)⟩⟩
      by_cases k2 : b = 0 ∧ 0 < i
      · have hcd := bad (.inl (by rw [hbe]; omega))
        have tl : ∀ l, H l = none → _ := fun l hl => hcd l hl
        refine ⟨_, rfl, _, rfl, _, _, rfl, rfl, rfl, _, rfl, ite2 (fun z => ⟨_, rfl, _, _, rfl, rfl, _, rfl, iteD (fun y => k1 ⟨i36.mp (of_decide_eq_true z), by omega⟩) ?_⟩) (fun _ => iteF ?_)⟩
        · exact ⟨_, rfl, rfl, _, rfl, iteP (b0.mpr k2.1) ⟨_, rfl, _, rfl, _, _, rfl, rfl, _, rfl, iteP (by omega) ⟨_, rfl, by show 4 ≤ sizeLine; decide, fun l hl => ⟨_, rfl, _, _, rfl, rfl, by show 2 ≤ sizeLine; decide, hcd l hl⟩⟩⟩⟩
        · exact ⟨_, rfl, rfl, _, rfl, iteP (b0.mpr k2.1) ⟨_, rfl, _, rfl, _, _, rfl, rfl, _, rfl, iteP (by omega) ⟨_, rfl, by show 4 ≤ sizeLine; decide, fun l hl => ⟨_, rfl, _, _, rfl, rfl, by show 2 ≤ sizeLine; decide, hcd l hl⟩⟩⟩⟩
      have nb : ¬ (((intsN w).getD (p + i) 0 = 0 ∧ p < p + i) ∨ (15 < (intsN w).getD (p + i) 0 ∧ p + i = p + 36)) := by rw [hbe]; omega
      refine (fun rest => ⟨_, rfl, _, rfl, _, _, rfl, rfl, rfl, _, rfl, ite2 (fun z => ⟨_, rfl, _, _, rfl, rfl, _, rfl, iteD (fun y => k1 ⟨i36.mp (of_decide_eq_true z), by omega⟩) ⟨_, rfl, rfl, _, rfl, ite2 (fun z => ⟨_, rfl, _, rfl, _, _, rfl, rfl, _, rfl, iteD (fun y => k2 ⟨b0.mp (of_decide_eq_true z), by omega⟩) rest⟩) (fun _ => iteF rest)⟩⟩) (fun _ => iteF ⟨_, rfl, rfl, _, rfl, ite2 (fun z => ⟨_, rfl, _, rfl, _, _, rfl, rfl, _, rfl, iteD (fun y => k2 ⟨b0.mp (of_decide_eq_true z), by omega⟩) rest⟩) (fun _ => iteF rest)⟩)⟩) ?_
      refine ⟨_, rfl, _, rfl, _, _, rfl, rfl, (by show (0 : Int) < 128; decide), _, rfl, _, _, rfl, rfl, .inl ⟨by omega, by omega⟩, _, _, rfl, rfl, ?_⟩
      refine ⟨_, rfl, _, _, rfl, rfl, .inr ⟨by decide, by decide⟩, ?_⟩
      have hm0 : 0 ≤ (b : Int) % 128 := Int.emod_nonneg _ (by decide)
      refine ⟨_, rfl, _, _, rfl, rfl, _, rfl, ite2 (fun z => ?_) (fun z => ?_)⟩
      rotate_left
      · have hge : ¬ (b : Int) < 128 := of_decide_eq_false (nf z)
        have em : (b : Int) % 128 = (b : Int) - 128 := by omega
        rw [rd_on nb (by rw [hbe]; exact hge), hbe] at e
        refine ⟨rfl, _, _, _, _, Int.add_nonneg hnu (Int.mul_nonneg hm0 hpo), Int.mul_nonneg hpo (by decide), rfl, ?_⟩
        rw [em]
        exact e
      have hlt : (b : Int) < 128 := of_decide_eq_true z
      have em : (b : Int) % 128 = (b : Int) := by omega
      rw [rd_end nb (by rw [hbe]; exact hlt), hbe] at e
      have hpos : 0 ≤ nu + (b : Int) * po := Int.add_nonneg hnu (Int.mul_nonneg (by omega) hpo)
      obtain ⟨n, en⟩ : ∃ n : Nat, nu + (b : Int) * po = (n : Int) := ⟨_, (Int.toNat_of_nonneg hpos).symm⟩
      rw [en] at e
      have enx : nextF w p = fin6 w p n (p + i + 1) := next_num (by rw [← e]; congr 1)
      rw [enx] at q
      unfold fin6 at q
      have elen : (fun (x y : Int) => V.int (x + y)) nu ((b : Int) % 128 * po) = V.int (n : Int) := by show V.int (nu + (b : Int) % 128 * po) = _; rw [em, en]
      refine ⟨_, rfl, (n : Int), 30000, elen, rfl, _, rfl, ?_⟩
      by_cases c30 : 30000 < n
      · rw [if_pos c30] at q
        refine iteP (by omega) ⟨_, rfl, by show 4 ≤ sizeLine; decide, fun l hl => ⟨_, rfl, _, _, rfl, rfl, by show 2 ≤ sizeLine; decide, fun t ht => ?_⟩⟩
        exact q _ _ ((sameU hl).trans (sameU ht)) ⟨t, l, rfl, fr_at (Same.free (sameU hl) ht) upd_same, fr_at hl (keepH upd_same ht)⟩
      rw [if_neg c30] at q
      refine iteD (by omega) ⟨_, rfl, _, _, rfl, rfl, _, rfl, _, (n : Int), rfl, elen, _, _, rfl, rfl, ?_⟩
      have eE : (p : Int) + (i : Int) + 1 + (n : Int) + 2 = ((p + i + 1 + n + 2 : Nat) : Int) := by omega
      generalize hE : p + i + 1 + n + 2 = E at q eE
      have eE' : (fun (x y : Int) => V.int (x + y)) ((p : Int) + (i : Int) + 1 + (n : Int)) 2 = V.int (E : Int) := congrArg V.int eE
      refine ⟨_, rfl, _, rfl, W, _, rfl, .inl (SqL.of hW), (E : Int), _, eE', rfl, _, rfl, ?_⟩
      show if decide ((E : Int) > ((natV w).length : Int)) = true then _ else _
      rw [natV_len]
      by_cases cE : w.length < E
      · rw [if_pos cE] at q
        exact iteP (by omega) (q .non H (Same.refl H) rfl)
      rw [if_neg cE] at q
      have g2 : w.getD (E - 2) 0 < 256 := by
        rw [List.getD_eq_getElem?_getD, List.getElem?_eq_getElem (by omega)]
        exact hb _ (List.getElem_mem (by omega))
      refine iteD (by omega) ⟨_, rfl, _, rfl, (E : Int), _, eE', rfl, W, _, _, _, rfl, rfl, SqL.of hW, natV_at (E - 2) (by omega) (by omega), _, _, rfl, rfl, .inl ⟨by decide, by decide⟩, _, rfl, _, rfl, (E : Int), _, eE', rfl, W, _, _, _, rfl, rfl, SqL.of hW, natV_at (E - 1) (by omega) (by omega), _, _, rfl, rfl, ?_⟩
      refine ⟨_, rfl, _, rfl, _, rfl, _, rfl, (E : Int), _, eE', rfl, _, rfl, W, _, rfl, SqL.of hW, fun l hl => ?_⟩
      rw [cut_seg (w := w) (a := p) (b := E - 2) (by omega) rfl (by omega)]
      have s1 := sameU (u := .lst (natV (seg w p (E - 2)))) hl
      refine ⟨l, seg w p (E - 2), rfl, upd_same, seg_lt hb _ _, _, rfl, rfl, _, rfl, ?_⟩
      show if (!decide (V.int ((crcL (seg w p (E - 2)) : Nat) : Int) = V.int (256 * ((w.getD (E - 2) 0 : Nat) : Int) + ((w.getD (E - 1) 0 : Nat) : Int)))) = true then _ else _
      have cs := crc_seg (w := w) (p := p) (E := E) (by omega) (by omega)
      by_cases cc : crcOk (seg w p E)
      · rw [if_pos cc] at q
        rw [decide_eq_true (by have := cs.mp cc; congr 1; omega)]
        refine iteF ⟨_, rfl, _, rfl, _, _, rfl, rfl, _, rfl, _, rfl, (E : Int), _, eE', rfl, _, rfl, W, _, rfl, SqL.of (s1 _ _ hW), fun r hr => ?_⟩
        rw [cut_seg (w := w) (a := p + i + 1) (b := E - 2) (by omega) (by omega) (by omega)]
        have s2 := sameU (u := .lst (natV (seg w (p + i + 1) (E - 2)))) hr
        refine ⟨_, rfl, by show 3 ≤ sizeLine; decide, fun t ht => ?_⟩
        refine q _ _ ((s1.trans s2).trans (sameU ht)) ⟨t, r, rfl, ?_, ?_⟩
        · refine fr_at ((s1.trans s2).free ht) ?_
          rw [upd_same]
          show some (HO.tup [V.ref r, (fun (x y : Int) => V.int (x + y)) ((p : Int) + (i : Int) + 1 + (n : Int)) 2, V.bl true]) = _
          rw [eE']
        · refine fr_at (s1.free hr) (keepH ?_ ht)
          rw [upd_same, show p + i + 1 + n = E - 2 by omega]
      · rw [if_neg cc] at q
        rw [decide_eq_false (fun z => cc (cs.mpr (by have := V.int.inj z; omega)))]
        refine iteT ⟨by show 1 ≤ sizeLine; decide, fun r hr => ⟨_, rfl, by show 2 ≤ sizeLine; decide, fun t ht => ?_⟩⟩
        refine q _ _ ((s1.trans (sameU hr)).trans (sameU ht)) ⟨t, r, rfl, ?_, fr_at (s1.free hr) (keepH upd_same ht)⟩
        refine fr_at ((s1.trans (sameU hr)).free ht) ?_
        rw [upd_same]
        show some (HO.tup [V.ref r, (fun (x y : Int) => V.int (x + y)) ((p : Int) + (i : Int) + 1 + (n : Int)) 2]) = _
        rw [eE']
    · rintro σ H1 ⟨rfl, nu, po, v4, v5, _, _, rfl, e⟩
      rw [Nat.sub_self, rd] at e
      refine q .non H (Same.refl H) ?_
      unfold nextF
      rw [← e]
      show NxV (fr H H) (if _ then _ else _) _
      rw [if_pos ⟨by omega, rfl⟩]
      rfl
end
end K6

namespace K6
open PySem L2
seal L2.PE L2.PS L2.PSs L2.PA L2.PT L2.PW L2.PG L2.PGs L2.PI L2.PO
/-- all but what stands in S -/
def rm (S : List Addr) (H : Hp) : Hp := fun b => if b ∈ S then none else H b
theorem rm_in {S : List Addr} {H : Hp} : Same (rm S H) H := fun b o e => by
  unfold rm at e
  split at e
  · cases e
  · exact e
theorem rm_at {S : List Addr} {H : Hp} {b : Addr} {o : HO} (n : b ∉ S) (e : H b = some o) : rm S H b = some o := by
  unfold rm
  rw [if_neg n]
  exact e
theorem rm_some {S : List Addr} {H : Hp} {b : Addr} {o : HO} (e : rm S H b = some o) : b ∉ S ∧ H b = some o := by
  unfold rm at e
  split at e
  · cases e
  · rename_i n
    exact ⟨n, e⟩
theorem rm_same {S : List Addr} {H H' : Hp} (s : Same H H') : Same (rm S H) (rm S H') := fun b o e => rm_at (rm_some e).1 (s _ _ (rm_some e).2)
theorem rm_put {S : List Addr} {H : Hp} {b : Addr} {o : HO} (h : b ∈ S) : Same (rm S H) (rm S (upd H b o)) := fun c u e => by
  obtain ⟨n, e⟩ := rm_some e
  refine rm_at n ?_
  have nb : c ≠ b := fun z => n (by rw [z]; exact h)
  rw [upd_ne nb]
  exact e
/-- the rows that the law's own walk found -/
def FdV (H : Hp) (vs : List V) (l : List (List Nat × Nat)) : Prop := vs.length = l.length ∧ ∀ (i : Nat) v q, vs[i]? = some v → l[i]? = some q → ∃ t R, v = .ref t ∧ H t = some (.tup [.ref R, .int (q.2 : Int)]) ∧ H R = some (.lst (natV q.1))
theorem FdV.same {H H' : Hp} {vs : List V} {l : List (List Nat × Nat)} (s : Same H H') (h : FdV H vs l) : FdV H' vs l := ⟨h.1, fun i v q h1 h2 => let ⟨t, R, a, b, c⟩ := h.2 i v q h1 h2; ⟨t, R, a, s _ _ b, s _ _ c⟩⟩
theorem FdV.nil {H : Hp} : FdV H [] [] := ⟨rfl, fun i v q h => by simp at h⟩
theorem FdV.more {H : Hp} {vs : List V} {l : List (List Nat × Nat)} {t R : Addr} {r : List Nat} {e : Nat} (h : FdV H vs l) (ht : H t = some (.tup [.ref R, .int (e : Int)])) (hR : H R = some (.lst (natV r))) : FdV H (vs ++ [.ref t]) (l ++ [(r, e)]) := by
  obtain ⟨h1, h2⟩ := h
  refine ⟨by rw [List.length_append, List.length_append, h1]; rfl, fun i v q a b => ?_⟩
  by_cases hi : i < vs.length
  · rw [List.getElem?_append_left hi] at a
    rw [List.getElem?_append_left (by omega)] at b
    exact h2 i v q a b
  · rw [List.getElem?_append_right (by omega)] at a
    rw [List.getElem?_append_right (by omega)] at b
    have ei : i - vs.length = 0 := by
      by_cases z : i - vs.length = 0
      · exact z
      · rw [List.getElem?_eq_none (by simp; omega)] at a; cases a
    rw [ei] at a
    rw [show i - l.length = 0 by omega] at b
    cases a
    cases b
    exact ⟨t, R, rfl, ht, hR⟩
def sp_due6 : Sp := fun vs H Q _ => ∃ (W : Addr) (w : List Nat), vs = [.ref W] ∧ H W = some (.lst (natV w)) ∧ (∀ b ∈ w, b < 256) ∧ w.length ≤ 400 ∧
  ∀ (t F : Addr) (v : V) (fs : List V) (l : List (List Nat × Nat)) (xx : N6) (H' : Hp), Same H H' → H' t = some (.tup [.ref F, v]) → H' F = some (.lst fs) → FdV H' fs l → Ch w 0 l xx → NxV H' xx v → Q (.ref t) H'
section
variable {P : Program} {w : World} {K : PySem.W.Frag} {mg : Str → Option Value} {base : Heap} {a : Ad}
set_option maxHeartbeats 1000000 in
theorem ok_due (T : Tx K mg a) : FnOk P w K mg base CX0 3 a.f_due a.d_due ["_law_wire_here"] sp_due6 := by
  have GN : FnOk P w K mg base CX0 2 a.f_next a.d_next ["_law_wire_here", "_law_at_here"] sp_next := ok_next T
  refine T.d_due.F.ok sc_due (fun vs H Q E h => ?_) (fun cdv A outer s H vs Q E hr h => ?_)
  · obtain ⟨W, w, rfl, _⟩ := h
    rfl
  · obtain ⟨W, w, rfl, hW, hb, h4, q⟩ := h
    refine ⟨_, pss_cons (ps_set (i := 1) sc_due.nd rfl (Or.inl rfl) (pe_lst pa_nil))
      (pss_cons (ps_set (i := 2) sc_due.nd rfl (Or.inl rfl) pe_int)
      (pss_cons (ps_set (i := 3) sc_due.nd rfl (Or.inl rfl) (pe_call GN (hr.mono (by decide)) rfl T.d_next.m T.d_next.F.kp T.d_next.b .nil pass0 (pa_cons (pv 0) (pa_cons pe_int pa_nil))))
      (pss_cons (ps_while PassesOwn.never (PW.pt (pw_and (pt_cmpR op_notN (pv 3) pe_non (nomark _)) (pw_and1 (pt_cmpR op_eq (pe_callB call_len_seq (by rfl) T.len bt_len (pa_cons (pv 3) pa_nil)) pe_int (nomark _)))))
        (pss_cons (ps_expr (pe_bm PySem.F.plainAttrs_list PySem.F.slot_list_append PySem.F.type_list_append mt_append (pv 1) (pa_cons (pe_tup (pa_cons (pe_ix ix_tup (pv 3) pe_int (fun _ _ => rfl)) (pa_cons (pe_ix ix_tup (pv 3) pe_int (fun _ _ => rfl)) pa_nil))) pa_nil)))
          (pss_cons (ps_set (i := 2) sc_due.nd rfl (Or.inl rfl) (pe_ix ix_tup (pv 3) pe_int (fun _ _ => rfl)))
          (pss_one (ps_set (i := 3) sc_due.nd rfl (Or.inl rfl) (pe_call GN (hr.mono (by decide)) rfl T.d_next.m T.d_next.F.kp T.d_next.b .nil pass0 (pa_cons (pv 0) (pa_cons (pv 2) pa_nil))))))))
      (pss_one (ps_ret (pe_tup (pa_cons (pv 1) (pa_cons (pv 3) pa_nil)))))))), ?_⟩
    refine ⟨by show 0 ≤ sizeLine; decide, fun F hF => ?_⟩
    have s1 := sameU (u := .lst []) hF
    refine ⟨_, rfl, W, w, 0, rfl, s1 _ _ hW, hb, h4, Nat.zero_le _, fun v H2 s2 hv => ?_⟩
    refine while_by (fun σ H' => Same H H' ∧ ∃ (p : Nat) (v : V) (fs : List V) (l1 : List (List Nat × Nat)), σ = [some (.ref W), some (.ref F), some (.int (p : Int)), some v] ∧ p ≤ w.length ∧ l1.length ≤ p ∧ H' F = some (.lst fs) ∧ FdV (rm [F] H') fs l1 ∧ NxV (rm [F] H') (nextF w p) v ∧ ∀ l2 xx, Ch w p l2 xx → Ch w 0 (l1 ++ l2) xx)
      (fun σ _ => match σ with | [_, _, some (.int p), _] => w.length - p.toNat | _ => 0) ?_ ?_ ?_
    · refine ⟨s1.trans s2, 0, v, [], [], rfl, Nat.zero_le _, Nat.zero_le _, s2 _ _ upd_same, FdV.nil, hv.same fun b o e => ?_, fun l2 xx c => c⟩
      obtain ⟨e1, e2⟩ := fr_some e
      exact rm_at (fun z => by rw [List.mem_singleton.mp z, upd_same] at e1; cases e1) e2
    · rintro σ H3 ⟨s3, p, v, fs, l1, rfl, hp, hl1, hF3, hfd, hnx, hch⟩
      have fin : ∀ H4, Same H3 H4 → (∀ r e, nextF w p ≠ .row r e) → ∀ t, H4 t = none → Q (.ref t) (upd H4 t (.tup [.ref F, v])) := fun H4 s4 hn t ht => by
        have s5 := s4.trans (sameU (u := .tup [.ref F, v]) ht)
        have c := hch [] _ (.stop rfl hn)
        rw [List.append_nil] at c
        exact q t F v fs l1 _ _ (s3.trans s5) upd_same (s5 _ _ hF3) ((hfd.same rm_in).same s5) c ((hnx.same rm_in).same s5)
      cases en : nextF w p with
      | none =>
        rw [en] at hnx
        obtain rfl : v = .non := hnx
        refine ⟨_, rfl, rfl, _, rfl, ?_⟩
        rw [decide_eq_true rfl]
        exact iteF ⟨_, rfl, _, rfl, by show 2 ≤ sizeLine; decide, fun t ht => fin H3 (Same.refl _) (by rw [en]; intro r e z; cases z) t ht⟩
      | bad o e =>
        rw [en] at hnx
        obtain ⟨t0, R0, rfl, ht0, hR0⟩ := hnx
        refine ⟨_, rfl, rfl, _, rfl, ?_⟩
        rw [decide_eq_false (by intro z; cases z)]
        refine iteT ⟨_, rfl, t0, _, rfl, .inr (SqT.of (rm_in _ _ ht0)), rfl, _, rfl, iteF ?_⟩
        exact ⟨_, rfl, _, rfl, by show 2 ≤ sizeLine; decide, fun t ht => fin H3 (Same.refl _) (by rw [en]; intro r e z; cases z) t ht⟩
      | row r e =>
        rw [en] at hnx
        obtain ⟨t0, R0, rfl, ht0, hR0⟩ := hnx
        obtain ⟨k1, k2, _⟩ := next_row hb hp en
        have ht3 := rm_in _ _ ht0
        refine ⟨_, rfl, rfl, _, rfl, ?_⟩
        rw [decide_eq_false (by intro z; cases z)]
        refine iteT ⟨_, rfl, t0, _, rfl, .inr (SqT.of ht3), rfl, _, rfl, iteT ?_⟩
        refine ⟨_, rfl, .inl ⟨rfl, _, SqL.of hF3⟩, _, rfl, t0, _, _, _, rfl, rfl, SqT.of ht3, at0, _, rfl, t0, _, _, _, rfl, rfl, SqT.of ht3, at1, by show 2 ≤ sizeLine; decide, fun u hu => ?_⟩
        have s4 := sameU (u := .tup [.ref R0, .int (e : Int)]) hu
        have uF : u ≠ F := fun z => by rw [z, hF3] at hu; cases hu
        refine ⟨F, _, _, rfl, rfl, s4 _ _ hF3, small1000 (by rw [hfd.1]; omega), ?_⟩
        have sR : Same (rm [F] H3) (rm [F] (upd (upd H3 u (.tup [.ref R0, .int (e : Int)])) F (.lst (fs ++ [.ref u])))) := (rm_same s4).trans (rm_put (by simp))
        have hF5 : (upd (upd H3 u (.tup [.ref R0, .int (e : Int)])) F (.lst (fs ++ [.ref u]))) F = some (.lst (fs ++ [.ref u])) := upd_same
        have hu5 : rm [F] (upd (upd H3 u (.tup [.ref R0, .int (e : Int)])) F (.lst (fs ++ [.ref u]))) u = some (.tup [.ref R0, .int (e : Int)]) := rm_at (by simpa using uF) (by rw [upd_ne uF]; exact upd_same)
        have s5 : Same H (upd (upd H3 u (.tup [.ref R0, .int (e : Int)])) F (.lst (fs ++ [.ref u]))) := (s3.trans s4).put hF
        revert sR hF5 hu5 s5
        generalize upd (upd H3 u (.tup [.ref R0, .int (e : Int)])) F (.lst (fs ++ [.ref u])) = H5
        intro sR hF5 hu5 s5
        have ht5 := rm_in _ _ (sR _ _ ht0)
        refine ⟨_, rfl, t0, _, _, _, rfl, rfl, SqT.of ht5, at1, ?_⟩
        refine ⟨_, rfl, _, rfl, W, w, e, rfl, s5 _ _ hW, hb, h4, k2, fun v' H6 s6 hv' => ?_⟩
        refine ⟨⟨s5.trans s6, e, v', fs ++ [.ref u], l1 ++ [(r, e)], rfl, k2, by rw [List.length_append]; show l1.length + 1 ≤ e; omega, s6 _ _ hF5, ((hfd.same sR).more hu5 (sR _ _ hR0)).same (rm_same s6), ?_, fun l2 xx c => ?_⟩, ?_⟩
        · refine hv'.same fun b o e => ?_
          obtain ⟨e1, e2⟩ := fr_some e
          exact rm_at (fun z => by rw [List.mem_singleton.mp z, hF5] at e1; cases e1) e2
        · rw [List.append_assoc]
          exact hch _ _ (.more en c)
        · show w.length - (e : Int).toNat < w.length - (p : Int).toNat
          rw [Int.toNat_natCast, Int.toNat_natCast]
          omega
    · rintro σ H Q Q' hQ ⟨x, e, e0, c, e2, q⟩
      refine ⟨x, e, e0, c, e2, ?_⟩
      cases c with
      | false => exact iteF (hQ _ _ (by rw [if_neg Bool.false_ne_true] at q; exact q))
      | true =>
        rw [if_pos rfl] at q
        obtain ⟨y, e3, p, ys, e4, e5, e6, b, e7, q⟩ := q
        exact iteT ⟨y, e3, p, ys, e4, e5, e6, b, e7, hQ _ _ q⟩
end
end K6

namespace K6
open PySem L2
seal L2.PE L2.PS L2.PSs L2.PA L2.PT L2.PW L2.PG L2.PGs L2.PI L2.PO
theorem flat3 : [V.str "wire", .str "check", .str "row"].all flatV = true := by decide +kernel
theorem in_wire : inV (.str "wire") [.str "wire", .str "check", .str "row"] = true := by decide +kernel
theorem in_check : inV (.str "check") [.str "wire", .str "check", .str "row"] = true := by decide +kernel
theorem in_row : inV (.str "row") [.str "wire", .str "check", .str "row"] = true := by decide +kernel
def sp_told (K : PySem.W.Frag) (C : Addr) : Sp := fun vs H Q _ => ∃ (x dx L : Addr) (st be sz pl : Int) (why : Str) (y : V), vs = [.ref x, y] ∧ H x = some (.ins C dx (BxF L st be sz pl why)) ∧
  ((y ≠ .non ∧ Rw K H y false ∧ toldO H Q [.str "row"]) ∨
  (y ≠ .non ∧ ∃ (o : O5) (bs : List Nat), Row H y bs ∧ Rf o pl why ∧ toldO H Q (oV o)) ∨
  (∃ (Y : Addr) (w : List Nat) (p j m be' sz' : Nat) (l : List (List Nat × Nat)) (xx : N6), y = .ref Y ∧ H Y = some (.lst (natV (seg w j (j + m)))) ∧ Y ≠ L ∧ (∀ b ∈ w, b < 256) ∧ w.length ≤ 400 ∧ j + m ≤ w.length ∧ Ch w p l xx ∧ BI w p j be' sz' ∧ st = (p : Int) ∧ be = (be' : Int) ∧ sz = (sz' : Int) ∧ why = "" ∧ H L = some (.lst (natV (seg w p j))) ∧
    (∀ R D H', Cur C w H H' x dx L R l xx pl p (j + m) → H' D = none → Q (.ref D) (upd H' D (.lst [.ref R]))) ∧ (∀ R D H', l ≠ [] → Ref C H H' x dx L R l xx (j + m) → H' D = none → Q (.ref D) (upd H' D (.lst [.ref R]))) ∧
    (∀ R H' o e, l = [] → Ref C H H' x dx L R l xx (j + m) → xx = .bad o e → toldO H' Q (oV o))) ∨
  (y = .non ∧ ∃ (p : Nat) (h : List Nat), st = (p : Int) ∧ why = "" ∧ H L = some (.lst (natV h)) ∧ p + h.length ≤ 400 ∧ if h = [] then (∀ D, H D = none → Q (.ref D) (upd H D (.lst [.non]))) else toldO H Q [.str "wire", .int ((p + h.length : Nat) : Int), .str "cut", .bl false]) ∨
  (y = .non ∧ ∃ o, Rf o pl why ∧ toldO H Q (oV o)))
section
variable {P : Program} {w : World} {K : PySem.W.Frag} {mg : Str → Option Value} {base : Heap} {a : Ad}
set_option maxHeartbeats 1000000 in
theorem ok_told (T : Tx K mg a) (R : Fr K a) : FnOk P w K mg base CX0 9 a.f_told a.d_told ["_law_box", "_law_piece_here"] (sp_told K a.Frames) := by
  have GT : FnOk P w K mg base (XC P w true) 8 a.f_Frames_take a.d_Frames_take ["self", "row"] (sp_take K a.Frames a.BadWire a.BadCheck a.BadRow) := ok_take T R
  have GE : FnOk P w K mg base (XC P w true) 4 a.f_Frames_end a.d_Frames_end ["self"] (sp_fend a.Frames a.BadWire a.BadCheck) := ok_fend T R
  have GW : FnOk P w K mg base CXS 1 a.f_word a.d_word ["_law_e"] (spW a) := ok_wordA T
  have GA : FnOk P w K mg base CXS 2 a.f_at a.d_at ["_law_e"] (sp_atA a) := ok_at T
  refine T.d_told.F.ok sc_told (fun vs H Q E h => ?_) (fun cdv A outer s H vs Q E hr h => ?_)
  · obtain ⟨x, dx, L, st, be, sz, pl, why, y, rfl, _⟩ := h
    rfl
  · obtain ⟨x, dx, L, st, be, sz, pl, why, y, rfl, hx, h⟩ := h
    refine ⟨_, pss_one (ps_tryG rfl rfl (fun E => psx_ret (pex_ifExp (pt_cmpR op_notN (pv 1) pe_non (nomark _)) (pex_lst1 (pex_meth (pv 0) R.c ⟨T.d_Frames_take.m, T.d_Frames_take.i, T.d_Frames_take.F.kp⟩ GT hr T.d_Frames_take.b (fun _ => rfl) (pa_cons (pv 1) pa_nil))) (pex_lst1 (pex_meth0 (pv 0) R.c ⟨T.d_Frames_end.m, T.d_Frames_end.i, T.d_Frames_end.F.kp⟩ GE (hr.mono (by decide)) T.d_Frames_end.b (fun _ => rfl))))) rfl T.m_FormError (v0 := .ref a.FormError) rfl
      (fun e => pss_one (ps_ret (pe_ifExp (pt_cmpR op_in_seq (pe_callS GW (Room_mark (hr.mono (by decide))) rfl T.d_word.m T.d_word.F.kp T.d_word.b (pa_cons (pv 2) pa_nil)) (pe_tup (pa_cons pe_str (pa_cons pe_str (pa_cons pe_str pa_nil)))) rfl) (pe_callS GA (Room_mark (hr.mono (by decide))) rfl T.d_at.m T.d_at.F.kp T.d_at.b (pa_cons (pv 2) pa_nil)) (pe_lst (pa_cons pe_str pa_nil))))) sc_told.nd (i := 2) rfl rfl), ?_⟩
    generalize hE : xTry _ _ _ _ _ _ = E1
    have hw : ∀ {H0 : Hp} {p : Int} {y : Str}, toldO H0 Q [.str "wire", .int p, .str y, .bl false] → wireX a.BadWire H0 p y E1 := fun {H0 p y} q => by
      subst hE
      intro d H1 hd s1 hd'
      refine ⟨T.x_BadWire, fun e a0 tb he => ?_⟩
      refine ⟨_, rfl, ⟨e, _, _, a0, tb, rfl, upd_same⟩, .inl ⟨e, some d, a0, tb, rfl, upd_same, .inr ⟨d, _, rfl, keepH hd' he⟩, fun H2 s2 => ?_⟩⟩
      refine ⟨by show 3 ≤ sizeLine; decide, fun t ht => ⟨t, _, rfl, .inr (SqT.of upd_same), rfl, flat3, _, rfl, ?_⟩⟩
      show if (inV (.str "wire") [.str "wire", .str "check", .str "row"]) = true then _ else _
      rw [in_wire]
      have s3 := s2.trans (sameU (u := .tup [.str "wire", .str "check", .str "row"]) ht)
      refine iteT ⟨_, rfl, ⟨e, _, _, a0, tb, rfl, s3 _ _ upd_same⟩, .inl ⟨e, d, a0, tb, p, y, rfl, s3 _ _ upd_same, s3 _ _ (keepH hd' he), ?_⟩⟩
      exact toldO.mono q ((s1.trans (sameU he)).trans s3)
    have hc : ∀ {H0 : Hp}, toldO H0 Q [.str "check"] → ∀ H', Same H0 H' → E1 (.ref a.BadCheck) none H' := fun {H0} q H1 s1 => by
      subst hE
      refine ⟨T.x_BadCheck, fun e a0 tb he => ?_⟩
      refine ⟨_, rfl, ⟨e, _, _, a0, tb, rfl, upd_same⟩, .inr (.inr ⟨e, none, a0, tb, rfl, upd_same, .inl rfl, fun H2 s2 => ?_⟩)⟩
      refine ⟨by show 3 ≤ sizeLine; decide, fun t ht => ⟨t, _, rfl, .inr (SqT.of upd_same), rfl, flat3, _, rfl, ?_⟩⟩
      show if (inV (.str "check") [.str "wire", .str "check", .str "row"]) = true then _ else _
      rw [in_check]
      have s3 := s2.trans (sameU (u := .tup [.str "wire", .str "check", .str "row"]) ht)
      refine iteT ⟨_, rfl, ⟨e, _, _, a0, tb, rfl, s3 _ _ upd_same⟩, .inr ⟨e, a.BadCheck, "check", a0, tb, rfl, .inr ⟨rfl, rfl⟩, s3 _ _ upd_same, ?_⟩⟩
      exact toldO.mono q ((s1.trans (sameU he)).trans s3)
    have hrw : ∀ {H0 : Hp}, toldO H0 Q [.str "row"] → ∀ H', Same H0 H' → E1 (.ref a.BadRow) none H' := fun {H0} q H1 s1 => by
      subst hE
      refine ⟨T.x_BadRow, fun e a0 tb he => ?_⟩
      refine ⟨_, rfl, ⟨e, _, _, a0, tb, rfl, upd_same⟩, .inr (.inl ⟨e, none, a0, tb, rfl, upd_same, .inl rfl, fun H2 s2 => ?_⟩)⟩
      refine ⟨by show 3 ≤ sizeLine; decide, fun t ht => ⟨t, _, rfl, .inr (SqT.of upd_same), rfl, flat3, _, rfl, ?_⟩⟩
      show if (inV (.str "row") [.str "wire", .str "check", .str "row"]) = true then _ else _
      rw [in_row]
      have s3 := s2.trans (sameU (u := .tup [.str "wire", .str "check", .str "row"]) ht)
      refine iteT ⟨_, rfl, ⟨e, _, _, a0, tb, rfl, s3 _ _ upd_same⟩, .inr ⟨e, a.BadRow, "row", a0, tb, rfl, .inl ⟨rfl, rfl⟩, s3 _ _ upd_same, ?_⟩⟩
      exact toldO.mono q ((s1.trans (sameU he)).trans s3)
    have hx' : ∀ {H0 : Hp} {o : O5} {pl : Int} {why : Str}, Rf o pl why → toldO H0 Q (oV o) → refX a.BadWire a.BadCheck H0 E1 o := fun {H0 o pl why} ho q => by
      cases o with
      | wire p y => exact hw q
      | chk => exact hc q
      | row r => exact ho.elim
    clear hE
    rcases h with ⟨hy, hr', q⟩ | ⟨hy, o, bs, hrow, ho, q⟩ | ⟨Y, w, p, j, m, be', sz', l, xx, rfl, hY, hYL, hB, h4, hjm, hC, hBI, rfl, rfl, rfl, rfl, hL, q1, q2, q3⟩ | ⟨rfl, p, h, rfl, rfl, hL, h4, q⟩ | ⟨rfl, o, ho, q⟩
    · refine ⟨_, rfl, rfl, _, rfl, ?_⟩
      rw [decide_eq_false hy]
      exact iteT ⟨_, rfl, x, dx, _, rfl, hx, no_take, _, rfl, x, y, rfl, .inl ⟨hr', hrw q⟩⟩
    · refine ⟨_, rfl, rfl, _, rfl, ?_⟩
      rw [decide_eq_false hy]
      exact iteT ⟨_, rfl, x, dx, _, rfl, hx, no_take, _, rfl, x, y, rfl, .inr (.inl ⟨dx, L, st, be, sz, pl, why, o, bs, hrow, hx, ho, hx' ho q⟩)⟩
    · refine ⟨_, rfl, rfl, _, rfl, ?_⟩
      rw [decide_eq_false (by intro z; cases z)]
      refine iteT ⟨_, rfl, x, dx, _, rfl, hx, no_take, _, rfl, x, .ref Y, rfl, .inr (.inr ⟨dx, L, Y, w, p, j, m, be', sz', l, xx, pl, rfl, hY, hYL, hB, h4, hjm, hC, hBI, hx, hL, fun R H' c => ⟨by show 1 ≤ sizeLine; decide, fun D hD => q1 R D H' c hD⟩, fun R H' hl c => ⟨by show 1 ≤ sizeLine; decide, fun D hD => q2 R D H' hl c hD⟩, fun R H' o e hl c ex => ?_⟩)⟩
      have hh := c
      obtain ⟨_, _, rs, o', e', L', st', be2, sz2, pl', why', _, ex', _, ho, _⟩ := c
      rw [ex] at ex'
      cases ex'
      exact hx' ho (q3 R H' o e hl hh ex)
    · refine ⟨_, rfl, rfl, _, rfl, ?_⟩
      rw [decide_eq_true rfl]
      refine iteF ⟨_, rfl, x, dx, _, rfl, hx, no_end, x, dx, L, p, be, sz, pl, "", rfl, hx, .inl ⟨rfl, p, h, rfl, hL, h4, ?_⟩⟩
      by_cases c : h = []
      · rw [if_pos c] at q ⊢
        exact ⟨by show 1 ≤ sizeLine; decide, q⟩
      · rw [if_neg c] at q ⊢
        exact hw q
    · refine ⟨_, rfl, rfl, _, rfl, ?_⟩
      rw [decide_eq_true rfl]
      refine iteF ⟨_, rfl, x, dx, _, rfl, hx, no_end, x, dx, L, st, be, sz, pl, why, rfl, hx, .inr ⟨o, ho, hx' ho q⟩⟩
end
end K6

namespace K6
open PySem L2
seal L2.PE L2.PS L2.PSs L2.PA L2.PT L2.PW L2.PG L2.PGs L2.PI L2.PO
/-! ### the law's own state of a box -/
def StD (j : Int) (kn : Bool) : List (Key × V) := [(.inr "at", .int j), (.inr "known", .bl kn)]
theorem st_at {j : Int} {kn : Bool} : valV (StD j kn) (.inr "at") = some (.int j) := by kernel_rfl
theorem st_known {j : Int} {kn : Bool} : valV (StD j kn) (.inr "known") = some (.bl kn) := by kernel_rfl
theorem st_put {j j' : Int} {kn : Bool} : putK (StD j kn) (.inr "at") (.int j') = StD j' kn := by kernel_rfl
theorem st_putk {j : Int} {kn kn' : Bool} : putK (StD j kn) (.inr "known") (.bl kn') = StD j kn' := by kernel_rfl
theorem st_two {j : Int} {kn : Bool} : (StD j kn).length < sizeLine := small1000 (by show 2 ≤ 100000; decide)
theorem g_at {H : Hp} {S : Addr} {j : Int} {kn : Bool} (h : H S = some (.dK (StD j kn))) : DGet H S (.str "at") (some (.int j)) := by
  have := DGet.k (k := Sum.inr "at") h
  rw [st_at] at this
  exact this
theorem g_known {H : Hp} {S : Addr} {j : Int} {kn : Bool} (h : H S = some (.dK (StD j kn))) : DGet H S (.str "known") (some (.bl kn)) := by
  have := DGet.k (k := Sum.inr "known") h
  rw [st_known] at this
  exact this
theorem p_at {H : Hp} {S : Addr} {j j' : Int} {kn : Bool} (h : H S = some (.dK (StD j kn))) : DPut H S (.str "at") (.int j') (upd H S (.dK (StD j' kn))) := by
  have := DPut.k (k := Sum.inr "at") (v := .int j') h st_two
  rw [st_put] at this
  exact this
theorem p_known {H : Hp} {S : Addr} {j : Int} {kn kn' : Bool} (h : H S = some (.dK (StD j kn))) : DPut H S (.str "known") (.bl kn') (upd H S (.dK (StD j kn'))) := by
  have := DPut.k (k := Sum.inr "known") (v := .bl kn') h st_two
  rw [st_putk] at this
  exact this
theorem cut_segM {w : List Nat} {a b : Nat} {ai bi : Int} (ha : ai = (a : Int)) (hbi : bi = (b : Int)) : cutV (natV w) (some ai) (some bi) = natV (seg w a (min b w.length)) := by
  have := cut_seg (w := w) (a := a) (b := min b w.length) (Nat.min_le_right _ _) ha rfl
  rw [← this]
  subst hbi
  unfold cutV
  rw [natV_len, HT.sIx_nat, HT.sIx_nat, Nat.min_assoc, Nat.min_self]
def sp_piece : Sp := fun vs H Q _ => ∃ (W S : Addr) (w : List Nat) (j : Nat) (kn : Bool) (c : Int), vs = [.ref W, .ref S, .int c] ∧ H W = some (.lst (natV w)) ∧ w.length ≤ 400 ∧ H S = some (.dK (StD (j : Int) kn)) ∧ j ≤ w.length ∧ 0 ≤ c ∧
  ∀ (Y : Addr) (m : Nat) (H' : Hp), j + m ≤ w.length → (c = 3 * (w.length : Int) + 2 → j + m = w.length) → H Y = none → SameX [S] H H' → H' S = some (.dK (StD ((j + m : Nat) : Int) kn)) → H' Y = some (.lst (natV (seg w j (j + m)))) → Q (.ref Y) H'
section
variable {P : Program} {w : World} {K : PySem.W.Frag} {mg : Str → Option Value} {base : Heap} {a : Ad}
theorem ok_piece (T : Tx K mg a) : FnOk P w K mg base CX0 1 a.f_piece a.d_piece ["_law_wire_here", "_law_state", "_law_cell"] sp_piece := by
  refine T.d_piece.F.ok sc_piece (fun vs H Q E h => ?_) (fun cdv A outer s H vs Q E hr h => ?_)
  · obtain ⟨W, S, w, j, kn, c, rfl, _⟩ := h
    rfl
  · obtain ⟨W, S, w, j, kn, c, rfl, hW, h4, hS, hj, hc, q⟩ := h
    have hu1 : _ + 1 < cLine := hu_of hr
    refine ⟨_, pss_cut (ps_set (i := 3) sc_piece.nd rfl (Or.inl rfl) (pe_ix ix_list (pe_lst (pa_cons (pe_op op_mod (pe_op op_fdiv (pv 2) pe_int) pe_int) (pa_cons (pe_op op_mod (pe_op op_fdiv (pv 2) pe_int) pe_int) (pa_cons (pe_op op_mod (pe_op op_fdiv (pv 2) pe_int) (pe_op op_add (pe_callB call_len_seq (by rfl) T.len bt_len (pa_cons (pv 0) pa_nil)) pe_int)) pa_nil)))) (pe_op op_mod (pv 2) pe_int) (fun _ _ => rfl)))
      (pss_cons (ps_set (i := 4) sc_piece.nd rfl (Or.inl rfl) (pe_slice sl_list (pv 0) (po_some (pe_dget hu1 (pv 1) pe_str (fun _ _ => rfl))) (po_some (pe_op op_add (pe_dget hu1 (pv 1) pe_str (fun _ _ => rfl)) (pv 3)))))
      (pss_cons (ps_dput hu1 (pv 1) pe_str (pe_op op_add (pe_dget hu1 (pv 1) pe_str (fun _ _ => rfl)) (pe_callB call_len_seq (by rfl) T.len bt_len (pa_cons (pv 4) pa_nil))) rfl)
      (pss_one (ps_ret (pv 4))))), ?_⟩
    refine ⟨fun σ' H' => ∃ sz : Nat, σ' = [some (.ref W), some (.ref S), some (.int c), some (.int (sz : Int)), none] ∧ Same H H' ∧ (c = 3 * (w.length : Int) + 2 → sz = w.length), ?_, ?_⟩
    · have hp1 : (0 : Int) < ((natV w).length : Int) + 1 := by omega
      have z1 := pos_mod (c / 3) (b := 10) (by decide)
      have z2 := pos_mod (c / 3) (b := 3) (by decide)
      have z3 := pos_mod (c / 3) hp1
      have zc := pos_mod c (b := 3) (by decide)
      refine ⟨_, rfl, _, _, rfl, rfl, ⟨by decide, by decide⟩, _, _, rfl, rfl, (by show (0 : Int) < 10; decide), _, rfl, _, _, rfl, rfl, ⟨by decide, by decide⟩, _, _, rfl, rfl, (by show (0 : Int) < 3; decide), _, rfl, _, _, rfl, rfl, ⟨by decide, by decide⟩, _, rfl, W, _, rfl, .inl (SqL.of hW), _, _, rfl, rfl, _, _, rfl, rfl, hp1, by show 3 ≤ sizeLine; decide, fun l hl => ?_⟩
      have pick : ∃ sz : Nat, atI [V.int (c / 3 % 10), .int (c / 3 % 3), .int (c / 3 % (((natV w).length : Int) + 1))] (c % 3) = some (.int (sz : Int)) ∧ (c = 3 * (w.length : Int) + 2 → sz = w.length) := by
        rcases (show c % 3 = 0 ∨ c % 3 = 1 ∨ c % 3 = 2 by omega) with e | e | e
        · rw [e]; exact ⟨(c / 3 % 10).toNat, by rw [Int.toNat_of_nonneg z1.1]; exact at0, fun z => by omega⟩
        · rw [e]; exact ⟨(c / 3 % 3).toNat, by rw [Int.toNat_of_nonneg z2.1]; exact at1, fun z => by omega⟩
        · rw [e]
          refine ⟨(c / 3 % (((natV w).length : Int) + 1)).toNat, by rw [Int.toNat_of_nonneg z3.1]; exact at2, fun z => ?_⟩
          have e3 : c / 3 = (w.length : Int) := by omega
          rw [e3, natV_len, Int.emod_eq_of_lt (by omega) (by omega)]
          omega
      obtain ⟨sz, e1, e2⟩ := pick
      exact ⟨_, rfl, _, _, rfl, rfl, (by show (0 : Int) < 3; decide), l, _, _, _, rfl, rfl, SqL.of upd_same, e1, sz, rfl, sameU hl, e2⟩
    rintro σ' H1 ⟨sz, rfl, s1, hsz⟩
    have hS1 := s1 _ _ hS
    have hW1 := s1 _ _ hW
    refine ⟨_, rfl, _, rfl, S, _, rfl, g_at hS1, _, rfl, _, rfl, S, _, rfl, g_at hS1, _, rfl, _, _, rfl, rfl, _, rfl, W, _, rfl, SqL.of hW1, fun Y hY => ?_⟩
    rw [cut_segM (w := w) (a := j) (b := j + sz) rfl (by omega)]
    have ey : (upd H1 Y (.lst (natV (seg w j (min (j + sz) w.length))))) Y = some (.lst (natV (seg w j (min (j + sz) w.length)))) := upd_same
    have s2 := s1.trans (sameU (u := .lst (natV (seg w j (min (j + sz) w.length)))) hY)
    have hS2 := keepH (u := .lst (natV (seg w j (min (j + sz) w.length)))) hS1 hY
    have hYS : Y ≠ S := fun z => by rw [z, hS1] at hY; cases hY
    refine ⟨_, rfl, S, _, rfl, g_at hS2, _, rfl, Y, _, rfl, .inl (SqL.of ey), _, _, rfl, rfl, _, rfl, S, _, rfl, p_at hS2, _, rfl, ?_⟩
    have hl := seg_len (w := w) (a := j) (b := min (j + sz) w.length) (Nat.min_le_right _ _)
    have em : j + (min (j + sz) w.length - j) = min (j + sz) w.length := by omega
    refine q Y (min (j + sz) w.length - j) _ (by omega) (fun z => by have := hsz z; omega) (s1.free hY) ((SameX.of s2).put (.inl (by simp))) ?_ ?_
    · rw [upd_same, natV_len, hl]
      congr 3
    · rw [upd_ne hYS, em]
      exact upd_same
end
end K6

namespace K6
open PySem L2
seal L2.PE L2.PS L2.PSs L2.PA L2.PT L2.PW L2.PG L2.PGs L2.PI L2.PO
/-! ### rows as data -/
noncomputable def rowD (bs : List Nat) : PyData := .list ((intsN bs).map PyData.int)
theorem lay_row (bs : List Nat) : (rowD bs).canLay0 = true := SeqAt.canLay_of_shaped (shaped_ints (intsN bs))
theorem dep_ints : ∀ ns : List Int, PyData.depthAll (ns.map PyData.int) ≤ 1
  | [] => by decide
  | y :: r => by
    rw [List.map_cons, PyData.depthAll]
    have := dep_ints r
    simp only [PyData.depth]
    omega
theorem dep_row (bs : List Nat) : (rowD bs).depth ≤ 2 := by
  have := dep_ints (intsN bs)
  unfold rowD
  simp only [PyData.depth]
  omega
theorem lay_all : ∀ ds : List PyData, (∀ d ∈ ds, d.canLay0 = true) → PyData.canLayAll0 ds = true
  | [], _ => rfl
  | d :: r, h => by
    rw [PyData.canLayAll0, Bool.and_eq_true]
    exact ⟨h d (List.mem_cons_self ..), lay_all r fun z hz => h z (List.mem_cons_of_mem _ hz)⟩
theorem dep_all {n : Nat} : ∀ ds : List PyData, (∀ d ∈ ds, d.depth ≤ n) → PyData.depthAll ds ≤ n
  | [], _ => Nat.zero_le _
  | d :: r, h => by
    rw [PyData.depthAll]
    have h1 := h d (List.mem_cons_self ..)
    have h2 := dep_all r fun z hz => h z (List.mem_cons_of_mem _ hz)
    omega
theorem lay_list {ds : List PyData} (h : ∀ d ∈ ds, d.canLay0 = true) : (PyData.list ds).canLay0 = true := by
  rw [PyData.canLay0]
  exact lay_all ds h
theorem dep_list {n : Nat} {ds : List PyData} (h : ∀ d ∈ ds, d.depth ≤ n) : (PyData.list ds).depth ≤ n + 1 := by
  have := dep_all ds h
  simp only [PyData.depth]
  omega
theorem shp {d : PyData} (h1 : d.canLay0 = true) (h2 : d.depth ≤ 64) : SeqAt.shaped d = true := by
  unfold SeqAt.shaped
  rw [h1, decide_eq_true h2]
  rfl
theorem dat_row {K : PySem.W.Frag} {H : Hp} {r : Addr} {bs : List Nat} (h : H r = some (.lst (natV bs))) : DatV K H (.ref r) (rowD bs) := .lst (SqL.of (by rw [← ints_V]; exact h)) (datVs_ints _)
theorem dats_rows {K : PySem.W.Frag} {H : Hp} : ∀ (rs : List Addr) (rows : List (List Nat)), rs.length = rows.length → (∀ (i : Nat) r bs, rs[i]? = some r → rows[i]? = some bs → H r = some (.lst (natV bs))) → DatVs K H (rs.map V.ref) (rows.map rowD)
  | [], [], _, _ => .nil
  | r :: rs, bs :: rows, h, k => .cons (dat_row (k 0 r bs rfl rfl)) (dats_rows rs rows (Nat.succ.inj h) fun i r bs h1 h2 => k (i + 1) r bs (by simpa using h1) (by simpa using h2))
/-- what is due of a refusal, as data -/
theorem oV_dat {K : PySem.W.Frag} {o : O5} {pl : Int} {why : Str} (ho : Rf o pl why) : ∃ pd, (∀ H r, H r = some (.lst (oV o)) → DatV K H (.ref r) pd) ∧ SeqAt.shaped pd = true ∧ PyData.eqv pd pd = true := by
  cases o with
  | row r => exact ho.elim
  | chk => exact ⟨.list [.str "check"], fun H r h => .lst (SqL.of h) (.cons (.str _) .nil), shaped_w1 (by decide +kernel), by decide +kernel⟩
  | wire p y =>
    obtain ⟨_, _, hy, _⟩ := ho
    have h0 : PyData.canLay0 (.str y) = true := by rcases hy with rfl | rfl <;> decide +kernel
    have hl : (PyData.list [.str "wire", .int p, .str y, .bool false]).canLay0 = true := lay_list fun d hd => by
      simp only [List.mem_cons, List.not_mem_nil, or_false] at hd
      rcases hd with rfl | rfl | rfl | rfl
      · decide +kernel
      · rfl
      · exact h0
      · rfl
    refine ⟨.list [.str "wire", .int p, .str y, .bool false], fun H r h => .lst (SqL.of h) (.cons (.str _) (.cons (.int _) (.cons (.str _) (.cons (.bl _) .nil)))), shp hl (by simp [PyData.depth, PyData.depthAll]), SeqAt.eqv_refl _ hl⟩
/-! ### the rows found, by places -/
theorem FdV.ex {H : Hp} : ∀ {vs : List V} {l : List (List Nat × Nat)}, FdV H vs l → ∃ ts Rs : List Addr, vs = ts.map V.ref ∧ ts.length = l.length ∧ Rs.length = l.length ∧ ∀ (i : Nat) t R q, ts[i]? = some t → Rs[i]? = some R → l[i]? = some q → H t = some (.tup [.ref R, .int (q.2 : Int)]) ∧ H R = some (.lst (natV q.1))
  | [], [], h => ⟨[], [], rfl, rfl, rfl, fun i t R q h => by simp at h⟩
  | [], _ :: _, h => by cases h.1
  | _ :: _, [], h => by cases h.1
  | v :: vs, q :: l, h => by
    obtain ⟨t, R, rfl, h1, h2⟩ := h.2 0 v q rfl rfl
    obtain ⟨ts, Rs, e, a, b, c⟩ := FdV.ex (vs := vs) (l := l) ⟨Nat.succ.inj h.1, fun i v q h1 h2 => h.2 (i + 1) v q (by simpa using h1) (by simpa using h2)⟩
    refine ⟨t :: ts, R :: Rs, by rw [e]; rfl, by rw [List.length_cons, a]; rfl, by rw [List.length_cons, b]; rfl, fun i t' R' q' g1 g2 g3 => ?_⟩
    cases i with
    | zero => cases g1; cases g2; cases g3; exact ⟨h1, h2⟩
    | succ i => exact c i t' R' q' (by simpa using g1) (by simpa using g2) (by simpa using g3)
theorem range_pre {n k : Nat} (hk : k ≤ n) (p : Nat → Bool) (h1 : ∀ i, i < k → p i = true) (h2 : ∀ i, k ≤ i → i < n → p i = false) : (List.range n).filter p = List.range k := by
  obtain ⟨m, rfl⟩ : ∃ m, n = k + m := ⟨n - k, by omega⟩
  induction m with
  | zero => exact List.filter_eq_self.mpr fun i hi => h1 i (List.mem_range.mp hi)
  | succ m ih =>
    rw [← Nat.add_assoc, List.range_succ, List.filter_append, ih (by omega) fun i a b => h2 i a (by omega), List.filter_cons_of_neg (by rw [h2 (k + m) (by omega) (by omega)]; exact Bool.false_ne_true)]
    simp
/-- how far each row found reaches -/
def enD (l : List (List Nat × Nat)) (i : Nat) : Nat := (l.getD i ([], 0)).2
theorem en_pre {pre l' : List (List Nat × Nat)} {i : Nat} (h : i < pre.length) : ∃ q ∈ pre, enD (pre ++ l') i = q.2 := by
  refine ⟨pre[i], List.getElem_mem h, ?_⟩
  unfold enD
  rw [List.getD_eq_getElem?_getD, List.getElem?_append_left h, List.getElem?_eq_getElem h]
  rfl
theorem en_suf {pre l' : List (List Nat × Nat)} {i : Nat} (h : pre.length ≤ i) (h2 : i < (pre ++ l').length) : ∃ q ∈ l', enD (pre ++ l') i = q.2 := by
  rw [List.length_append] at h2
  have h3 : i - pre.length < l'.length := by omega
  refine ⟨l'[i - pre.length], List.getElem_mem h3, ?_⟩
  unfold enD
  rw [List.getD_eq_getElem?_getD, List.getElem?_append_right h, List.getElem?_eq_getElem h3]
  rfl
/-- a box as the law's own state has it -/
def BoxS (C : Addr) (w : List Nat) (l : List (List Nat × Nat)) (xx : N6) (H : Hp) (x dx L : Addr) (j : Nat) (kn : Bool) : Prop :=
  (∃ lo, H L = some (.lst lo)) ∧
  ((kn = false ∧ ∃ (pre l' : List (List Nat × Nat)) (p be sz : Nat) (pl : Int), l = pre ++ l' ∧ (∀ q ∈ pre, q.2 ≤ j) ∧ p = lastE 0 pre ∧ Ch w p l' xx ∧ BI w p j be sz ∧ H x = some (.ins C dx (BxF L p be sz pl "")) ∧ H L = some (.lst (natV (seg w p j)))) ∨
  (kn = true ∧ ∃ (o : O5) (e : Nat) (st be sz pl : Int) (why : Str), xx = .bad o e ∧ e ≤ j ∧ Rf o pl why ∧ H x = some (.ins C dx (BxF L st be sz pl why))))
def wrongB (xx : N6) (j : Nat) : Bool := match xx with
  | .bad _ e => decide (e ≤ j)
  | _ => false
/-- a pair that is held: what was told, and what it ought to be -/
def PairOk (K : PySem.W.Frag) (H : Hp) (u : Addr) : Prop := ∃ (D B : Addr) (d : PyData), H u = some (.tup [.ref D, .ref B]) ∧ DatV K H (.ref D) (.list [d]) ∧ DatV K H (.ref B) d ∧ SeqAt.shaped (.list [d]) = true ∧ PyData.eqv (.list [d]) (.list [d]) = true
theorem PairOk.same {K : PySem.W.Frag} {H H' : Hp} {u : Addr} (s : Same H H') (h : PairOk K H u) : PairOk K H' u := by
  obtain ⟨D, B, d, h1, h2, h3, h4⟩ := h
  exact ⟨D, B, d, s _ _ h1, datV_same s h2, datV_same s h3, h4⟩
def sp_asked (K : PySem.W.Frag) (C : Addr) : Sp := fun vs H Q _ => ∃ (x dx L W DU F S HL : Addr) (vw : V) (w : List Nat) (fs hs : List V) (l : List (List Nat × Nat)) (xx : N6) (j : Nat) (kn : Bool) (c : Int), vs = [.ref x, .ref W, .ref DU, .ref S, .int c, .ref HL] ∧
  rm [x, L, S, HL] H W = some (.lst (natV w)) ∧ (∀ b ∈ w, b < 256) ∧ w.length ≤ 400 ∧ rm [x, L, S, HL] H DU = some (.tup [.ref F, vw]) ∧ rm [x, L, S, HL] H F = some (.lst fs) ∧ FdV (rm [x, L, S, HL] H) fs l ∧ NxV (rm [x, L, S, HL] H) xx vw ∧ Ch w 0 l xx ∧
  H S = some (.dK (StD (j : Int) kn)) ∧ j ≤ w.length ∧ BoxS C w l xx H x dx L j kn ∧ H HL = some (.lst hs) ∧ hs.length ≤ 2000 ∧ L ≠ HL ∧ 0 ≤ c ∧
  ∀ (L' : Addr) (m : Nat) (hs' : List V) (H' : Hp), j + m ≤ w.length → (c = 3 * (w.length : Int) + 2 → j + m = w.length) → SameX [x, L, S, HL] H H' → (L' = L ∨ H L' = none) → H' S = some (.dK (StD ((j + m : Nat) : Int) (wrongB xx (j + m)))) → BoxS C w l xx H' x dx L' (j + m) (wrongB xx (j + m)) → H' HL = some (.lst hs') →
    (hs' = hs ∨ ∃ u, hs' = hs ++ [.ref u] ∧ PairOk K (rm [L'] (fr H H')) u) → Q (.bl true) H'
theorem SameX.st {M : List Addr} {H H' : Hp} (s : SameX M H H') : Same (rm M H) H' := fun b o e => s b o (rm_some e).1 (rm_some e).2
end K6

namespace K6
open PySem L2
seal L2.PE L2.PS L2.PSs L2.PA L2.PT L2.PW L2.PG L2.PGs L2.PI L2.PO
/-- rows told of the part l1 of the rows found -/
structure Gave (H H' : Hp) (D R Y L' : Addr) (rs : List Addr) (l l1 : List (List Nat × Nat)) (j m : Nat) : Prop where
  sp : ∃ pre l2, l = (pre ++ l1) ++ l2 ∧ (∀ q ∈ pre, q.2 ≤ j) ∧ (∀ q ∈ l1, j < q.2 ∧ q.2 ≤ j + m) ∧ ∀ q ∈ l2, j + m < q.2
  hD : H' D = some (.lst [.ref R])
  t : Told H H' R (l1.map (·.1)) rs
  nD : D ≠ R ∧ D ∉ rs
  nL : L' ≠ R ∧ L' ∉ rs
  nY : Y ≠ R ∧ Y ∉ rs
/-- behind the asking of the box -/
structure Mid (C : Addr) (w : List Nat) (l : List (List Nat × Nat)) (xx : N6) (H H' : Hp) (x dx L S HL Y D L' : Addr) (j m : Nat) (kn : Bool) (hs : List V) : Prop where
  sx : SameX [x, L, S, HL] H H'
  LL : L' = L ∨ H L' = none
  Y0 : H Y = none
  Y1 : ∃ ys, H' Y = some (.lst ys)
  D0 : H D = none
  box : BoxS C w l xx H' x dx L' (j + m) (wrongB xx (j + m))
  hl : H' HL = some (.lst hs)
  LY : L' ≠ Y
  LD : L' ≠ D
  YD : Y ≠ D
  LH : L' ≠ HL
  Lo : ∃ lo, H' L = some (.lst lo)
  out : (∃ (o : O5) (e : Nat) (pl : Int) (why : Str), xx = .bad o e ∧ e ≤ j + m ∧ Rf o pl why ∧ H' D = some (.lst (oV o)) ∧ (kn = true ∨ (kn = false ∧ ∃ pre l2, l = pre ++ l2 ∧ (∀ q ∈ pre, q.2 ≤ j) ∧ ∀ q ∈ l2, j + m < q.2))) ∨
    (kn = false ∧ ∃ (R : Addr) (rs : List Addr) (l1 : List (List Nat × Nat)), Gave H H' D R Y L' rs l l1 j m ∧ (l1 = [] → wrongB xx (j + m) = false))
theorem BoxS.same {C : Addr} {w : List Nat} {l : List (List Nat × Nat)} {xx : N6} {H H' : Hp} {x dx L : Addr} {j : Nat} {kn : Bool} (s : Same H H') (h : BoxS C w l xx H x dx L j kn) : BoxS C w l xx H' x dx L j kn := by
  obtain ⟨⟨lo, h0⟩, h⟩ := h
  refine ⟨⟨lo, s _ _ h0⟩, ?_⟩
  rcases h with ⟨e, pre, l', p, be, sz, pl, a, b, lp, c, d, f, g⟩ | ⟨e, o, e', st, be, sz, pl, why, a, b, c, d⟩
  · exact .inl ⟨e, pre, l', p, be, sz, pl, a, b, lp, c, d, s _ _ f, s _ _ g⟩
  · exact .inr ⟨e, o, e', st, be, sz, pl, why, a, b, c, s _ _ d⟩
theorem Gave.same {H H' H2 : Hp} {D R Y L' : Addr} {rs : List Addr} {l l1 : List (List Nat × Nat)} {j m : Nat} (s : Same H' H2) (g : Gave H H' D R Y L' rs l l1 j m) : Gave H H2 D R Y L' rs l l1 j m :=
  ⟨g.sp, s _ _ g.hD, g.t.keep fun b o _ e => s _ _ e, g.nD, g.nL, g.nY⟩
theorem Mid.same {C : Addr} {w : List Nat} {l : List (List Nat × Nat)} {xx : N6} {H H' H2 : Hp} {x dx L S HL Y D L' : Addr} {j m : Nat} {kn : Bool} {hs : List V} (s : Same H' H2) (h : Mid C w l xx H H' x dx L S HL Y D L' j m kn hs) : Mid C w l xx H H2 x dx L S HL Y D L' j m kn hs where
  sx := h.sx.trans (SameX.of s)
  LL := h.LL
  Y0 := h.Y0
  Y1 := let ⟨ys, e⟩ := h.Y1; ⟨ys, s _ _ e⟩
  D0 := h.D0
  box := h.box.same s
  hl := s _ _ h.hl
  LY := h.LY
  LD := h.LD
  YD := h.YD
  LH := h.LH
  Lo := let ⟨lo, e⟩ := h.Lo; ⟨lo, s _ _ e⟩
  out := by
    rcases h.out with ⟨o, e, pl, why, a, b, c, d, f⟩ | ⟨e, R, rs, l1, g, k⟩
    · exact .inl ⟨o, e, pl, why, a, b, c, s _ _ d, f⟩
    · exact .inr ⟨e, R, rs, l1, g.same s, k⟩
theorem oddL {K : PySem.W.Frag} {mg : Str → Option Value} {a : Ad} (T : Tx K mg a) {H : Hp} {r1 r2 r3 : Addr} (h1 : H r1 = some (.lst [.int 256])) (h2 : H r2 = some (.lst [.bl true])) (h3 : H r3 = some (.lst [.str "0"])) : ∀ y ∈ [V.int 5, .ref r1, .str "a", .ref r2, .ref r3], y ≠ .non ∧ Rw K H y false := by
  intro y hy
  simp only [List.mem_cons, List.not_mem_nil, or_false] at hy
  rcases hy with rfl | rfl | rfl | rfl | rfl
  · exact ⟨(by intro z; cases z), .inr ⟨rfl, .type "int", .int _, T.q_int_list, T.q_int_tuple, fun _ _ => .int _⟩⟩
  · exact ⟨(by intro z; cases z), .inl ⟨r1, _, rfl, .inl h1, by decide, fun v hv => by rw [List.mem_singleton.mp hv]; exact .int _, by decide⟩⟩
  · exact ⟨(by intro z; cases z), .inr ⟨rfl, .type "str", .str _, T.q_str_list, T.q_str_tuple, fun _ _ => .str _⟩⟩
  · exact ⟨(by intro z; cases z), .inl ⟨r2, _, rfl, .inl h2, by decide, fun v hv => by rw [List.mem_singleton.mp hv]; exact .bl _, by decide⟩⟩
  · exact ⟨(by intro z; cases z), .inl ⟨r3, _, rfl, .inl h3, by decide, fun v hv => by rw [List.mem_singleton.mp hv]; exact .str _, by decide +kernel⟩⟩
theorem wrong_false {xx : N6} {j : Nat} (h : ∀ o e, xx = .bad o e → j < e) : wrongB xx j = false := by
  cases xx with
  | bad o e => exact decide_eq_false (by have := h o e rfl; omega)
  | _ => rfl
theorem wrong_true {xx : N6} {j : Nat} {o : O5} {e : Nat} (h : xx = .bad o e) (he : e ≤ j) : wrongB xx j = true := by
  subst h
  exact decide_eq_true he
end K6

namespace K6
open PySem L2
seal L2.PE L2.PS L2.PSs L2.PA L2.PT L2.PW L2.PG L2.PGs L2.PI L2.PO
theorem Ch.lt {w : List Nat} (hB : ∀ b ∈ w, b < 256) {p : Nat} {l : List (List Nat × Nat)} {x : N6} {o : O5} {e : Nat} (c : Ch w p l x) (hx : x = .bad o e) : p ≤ w.length → ∀ q ∈ l, q.2 < e := by
  induction c with
  | stop h n => intro _ q hq; cases hq
  | @more p r e1 l x h t ih =>
    intro hp q hq
    obtain ⟨_, h2, _⟩ := next_row hB hp h
    rcases List.mem_cons.mp hq with rfl | hq
    · exact (t.und hB h2 (BI.und hB (BI.new h2 0))).2 o e hx
    · exact ih hx h2 q hq
theorem Ch.nr {w : List Nat} {p : Nat} {l : List (List Nat × Nat)} {x : N6} (c : Ch w p l x) : ∀ r e, x ≠ .row r e := by
  induction c with
  | stop h n => exact n
  | more h t ih => exact ih
theorem cut_drop {xs : List V} {k : Nat} {ki : Int} (h : ki = (k : Int)) : cutV xs (some ki) none = xs.drop k := by
  subst h
  unfold cutV
  rw [HT.sIx_nat]
  show (xs.drop (min k xs.length)).take (xs.length - min k xs.length) = _
  by_cases c : k ≤ xs.length
  · rw [Nat.min_eq_left c, List.take_of_length_le (by rw [List.length_drop]; exact Nat.le_refl _)]
  · rw [Nat.min_eq_right (by omega), Nat.sub_self, List.take_zero, List.drop_eq_nil_of_le (by omega)]
section
variable {J : It} {H1 : Hp} {xs : List V} {σ0 : L2.St} {g : TG} {te : TE} {Q : VK}
/-- a comprehension whose parts are new and keep a promise, place by place -/
theorem comp_fr (W : Wk J H1 xs) (hz : xs.length ≤ 1000) (Pd : Nat → Hp → V → Prop) (hsame : ∀ i H H' v, Same H H' → Pd i H v → Pd i H' v)
    (hs : ∀ (j : Nat) (x : V), xs[j]? = some x → ∀ (H : Hp) (R : VK), Same H1 H → (∀ y H', Same H H' → Pd j (fr H H') y → R y H') → g x σ0 H fun σ2 H2 => Sub σ0 σ2 ∧ te σ2 H2 R)
    (hd : ∀ D H' ys, H1 D = none → Same H1 H' → H' D = some (.lst ys) → ys.length = xs.length → (∀ (i : Nat) y, ys[i]? = some y → Pd i (rm [D] (fr H1 H')) y) → Q (.ref D) H') : CompW J H1 σ0 g tTrue te Q := by
  intro D hD
  refine ⟨fun i m ys H => m = xs.length - i ∧ i ≤ xs.length ∧ Same H1 H ∧ H D = some (.lst ys) ∧ ys.length = i ∧ ∀ (j : Nat) y, ys[j]? = some y → Pd j (rm [D] (fr H1 H)) y, ⟨xs.length, by simp, Nat.zero_le _, sameU hD, upd_same, rfl, fun j y e => by simp at e⟩, ?_⟩
  rintro i m ys H ⟨rfl, hi, sm, hDy, hl, hp⟩
  refine ⟨hDy, ?_⟩
  by_cases hlt : i < xs.length
  · refine .inr ⟨W.go H i sm hlt, fun x H' y => ?_⟩
    obtain ⟨e, hx⟩ := W.yld H i x H' sm hlt y
    subst e
    refine hs i x hx H' _ sm fun y H4 s4 hy => ?_
    refine ⟨s4 _ _ hDy, small1000 (by omega), xs.length - (i + 1), by omega, rfl, hlt, (sm.trans s4).put hD, upd_same, by rw [List.length_append, hl]; rfl, fun j z hj => ?_⟩
    have up : Same (rm [D] (fr H1 H4)) (rm [D] (fr H1 (upd H4 D (.lst (ys ++ [y]))))) := fun b o e => by
      obtain ⟨n, e⟩ := rm_some e
      obtain ⟨e1, e2⟩ := fr_some e
      refine rm_at n (fr_at e1 ?_)
      rw [upd_ne (fun z => n (List.mem_singleton.mpr z))]
      exact e2
    refine hsame _ _ _ _ up ?_
    by_cases hji : j < i
    · rw [List.getElem?_append_left (by omega)] at hj
      refine hsame _ _ _ _ (fun b o e => ?_) (hp j z hj)
      obtain ⟨n, e⟩ := rm_some e
      obtain ⟨e1, e2⟩ := fr_some e
      exact rm_at n (fr_at e1 (s4 _ _ e2))
    · rw [List.getElem?_append_right (by omega)] at hj
      have ej : j = i := by
        by_cases h0 : j - ys.length = 0
        · omega
        · rw [List.getElem?_eq_none (by simp; omega)] at hj; cases hj
      subst ej
      rw [hl, Nat.sub_self] at hj
      cases hj
      refine hsame _ _ _ _ (fun b o e => ?_) hy
      obtain ⟨e1, e2⟩ := fr_some e
      exact rm_at (fun z => by rw [List.mem_singleton.mp z, hDy] at e1; cases e1) (fr_at (sm.free e1) e2)
  · have e : i = xs.length := by omega
    subst e
    exact .inl ⟨W.stop H _ sm rfl, hd D H ys hD sm hDy hl hp⟩
end
theorem Mid.keep {C : Addr} {w : List Nat} {l : List (List Nat × Nat)} {xx : N6} {H H' H2 : Hp} {x dx L S HL Y D L' : Addr} {j m : Nat} {kn : Bool} {hs : List V} (h : Mid C w l xx H H' x dx L S HL Y D L' j m kn hs) (hHL : HL ≠ Y) (hLY : L ≠ Y) (sx : SameX [x, L, S, HL] H H2) (hY : ∃ ys, H2 Y = some (.lst ys))
    (k : ∀ c o, H' c = some o → c ≠ Y → (∀ kv, o ≠ .dK kv) → H2 c = some o) : Mid C w l xx H H2 x dx L S HL Y D L' j m kn hs where
  sx := sx
  LL := h.LL
  Y0 := h.Y0
  Y1 := hY
  D0 := h.D0
  box := by
    obtain ⟨⟨lo, h0⟩, b⟩ := h.box
    obtain ⟨ys, hy⟩ := h.Y1
    refine ⟨⟨lo, k _ _ h0 h.LY (by intro kv z; cases z)⟩, ?_⟩
    rcases b with ⟨e, pre, l', p, be, sz, pl, a, b, lp, c, d, f, g⟩ | ⟨e, o, e', st, be, sz, pl, why, a, b, c, d⟩
    · exact .inl ⟨e, pre, l', p, be, sz, pl, a, b, lp, c, d, k _ _ f (lst_ne f hy) (by intro kv z; cases z), k _ _ g h.LY (by intro kv z; cases z)⟩
    · exact .inr ⟨e, o, e', st, be, sz, pl, why, a, b, c, k _ _ d (lst_ne d hy) (by intro kv z; cases z)⟩
  hl := k _ _ h.hl hHL (by intro kv z; cases z)
  LY := h.LY
  LD := h.LD
  YD := h.YD
  LH := h.LH
  Lo := let ⟨lo, e⟩ := h.Lo; ⟨lo, k _ _ e hLY (by intro kv z; cases z)⟩
  out := by
    rcases h.out with ⟨o, e, pl, why, a, b, c, d, f⟩ | ⟨e, R, rs, l1, g, q⟩
    · exact .inl ⟨o, e, pl, why, a, b, c, k _ _ d (Ne.symm h.YD) (by intro kv z; cases z), f⟩
    · refine .inr ⟨e, R, rs, l1, ⟨g.sp, k _ _ g.hD (Ne.symm h.YD) (by intro kv z; cases z), ?_, g.nD, g.nL, g.nY⟩, q⟩
      obtain ⟨t1, t2, t3, t4, t5, t6, t7⟩ := g.t
      exact ⟨t1, k _ _ t2 (Ne.symm g.nY.1) (by intro kv z; cases z), t3, t4, t5, t6, fun i r bs h1 h2 => k _ _ (t7 i r bs h1 h2) (fun z => g.nY.2 (z ▸ List.mem_of_getElem? h1)) (by intro kv z; cases z)⟩
theorem BoxS.keep {C : Addr} {w : List Nat} {l : List (List Nat × Nat)} {xx : N6} {H H' : Hp} {x dx L : Addr} {j : Nat} {kn : Bool} (h : BoxS C w l xx H x dx L j kn) (k : ∀ c o, (c = x ∨ c = L) → H c = some o → H' c = some o) : BoxS C w l xx H' x dx L j kn := by
  obtain ⟨⟨lo, h0⟩, h⟩ := h
  refine ⟨⟨lo, k _ _ (.inr rfl) h0⟩, ?_⟩
  rcases h with ⟨e, pre, l', p, be, sz, pl, a, b, lp, c, d, f, g⟩ | ⟨e, o, e', st, be, sz, pl, why, a, b, c, d⟩
  · exact .inl ⟨e, pre, l', p, be, sz, pl, a, b, lp, c, d, k _ _ (.inl rfl) f, k _ _ (.inr rfl) g⟩
  · exact .inr ⟨e, o, e', st, be, sz, pl, why, a, b, c, k _ _ (.inl rfl) d⟩
theorem BoxS.ins {C : Addr} {w : List Nat} {l : List (List Nat × Nat)} {xx : N6} {H : Hp} {x dx L : Addr} {j : Nat} {kn : Bool} (h : BoxS C w l xx H x dx L j kn) : ∃ fs, H x = some (.ins C dx fs) := by
  rcases h.2 with ⟨e, pre, l', p, be, sz, pl, a, b, lp, c, d, f, g⟩ | ⟨e, o, e', st, be, sz, pl, why, a, b, c, d⟩
  · exact ⟨_, f⟩
  · exact ⟨_, d⟩
theorem dats_app {K : PySem.W.Frag} {H : Hp} : ∀ {xs ys : List V} {ds es : List PyData}, DatVs K H xs ds → DatVs K H ys es → DatVs K H (xs ++ ys) (ds ++ es)
  | [], _, [], _, _, k => k
  | _ :: _, _, _ :: _, _, .cons a b, k => .cons a (dats_app b k)
theorem dats_at {K : PySem.W.Frag} {H : Hp} : ∀ (ys : List V) (ds : List PyData), ys.length = ds.length → (∀ (i : Nat) y d, ys[i]? = some y → ds[i]? = some d → DatV K H y d) → DatVs K H ys ds
  | [], [], _, _ => .nil
  | y :: ys, d :: ds, h, k => .cons (k 0 y d rfl rfl) (dats_at ys ds (Nat.succ.inj h) fun i y d h1 h2 => k (i + 1) y d (by simpa using h1) (by simpa using h2))
/-- a told list with a 1 behind each row and a 2 behind all -/
noncomputable def heldD (rows : List (List Nat)) : PyData := .list (rows.map (fun bs => rowD (bs ++ [1])) ++ [.int 2])
theorem held_lay (rows : List (List Nat)) : (PyData.list [heldD rows]).canLay0 = true := by
  refine lay_list fun d hd => ?_
  rw [List.mem_singleton.mp hd]
  refine lay_list fun d hd => ?_
  rcases List.mem_append.mp hd with h | h
  · obtain ⟨bs, _, rfl⟩ := List.mem_map.mp h
    exact lay_row _
  · rw [List.mem_singleton.mp h]; rfl
theorem held_dep (rows : List (List Nat)) : (PyData.list [heldD rows]).depth ≤ 64 := by
  refine Nat.le_trans (dep_list (n := 3) fun d hd => ?_) (by decide)
  rw [List.mem_singleton.mp hd]
  refine dep_list (n := 2) fun d hd => ?_
  rcases List.mem_append.mp hd with h | h
  · obtain ⟨bs, _, rfl⟩ := List.mem_map.mp h
    exact dep_row _
  · rw [List.mem_singleton.mp h]; simp [PyData.depth]
theorem told_lay (rows : List (List Nat)) : (PyData.list [.list (rows.map rowD)]).canLay0 = true := by
  refine lay_list fun d hd => ?_
  rw [List.mem_singleton.mp hd]
  refine lay_list fun d hd => ?_
  obtain ⟨bs, _, rfl⟩ := List.mem_map.mp hd
  exact lay_row _
theorem told_dep (rows : List (List Nat)) : (PyData.list [.list (rows.map rowD)]).depth ≤ 64 := by
  refine Nat.le_trans (dep_list (n := 3) fun d hd => ?_) (by decide)
  rw [List.mem_singleton.mp hd]
  refine dep_list (n := 2) fun d hd => ?_
  obtain ⟨bs, _, rfl⟩ := List.mem_map.mp hd
  exact dep_row _
theorem map_ref_inj : ∀ {as bs : List Addr}, as.map V.ref = bs.map V.ref → as = bs
  | [], [], _ => rfl
  | [], _ :: _, h => by cases h
  | _ :: _, [], h => by cases h
  | a :: as, b :: bs, h => by
    rw [List.map_cons, List.map_cons] at h
    injection h with h1 h2
    rw [V.ref.inj h1, map_ref_inj h2]
theorem nodup_at : ∀ {l : List Addr}, l.Nodup → ∀ {i k : Nat} {r : Addr}, l[i]? = some r → l[k]? = some r → i = k
  | [], _, i, k, r, h, _ => by simp at h
  | a :: l, hn, 0, 0, r, _, _ => rfl
  | a :: l, hn, 0, k + 1, r, h1, h2 => by
    have e : a = r := by simpa using h1
    subst e
    exact absurd (List.mem_of_getElem? (by simpa using h2 : l[k]? = some a)) (List.nodup_cons.mp hn).1
  | a :: l, hn, i + 1, 0, r, h1, h2 => by
    have e : a = r := by simpa using h2
    subst e
    exact absurd (List.mem_of_getElem? (by simpa using h1 : l[i]? = some a)) (List.nodup_cons.mp hn).1
  | a :: l, hn, i + 1, k + 1, r, h1, h2 => congrArg Nat.succ (nodup_at (List.nodup_cons.mp hn).2 (by simpa using h1) (by simpa using h2))
end K6

namespace K6
open PySem L2
seal L2.PE L2.PS L2.PSs L2.PA L2.PT L2.PW L2.PG L2.PGs L2.PI L2.PO
theorem ix_tupK {X : Cx} (K : PySem.W.Frag) (hK : X.K = K) : IxR X (rIxT K) := by
  subst hK
  exact ix_tup
theorem ndOS : ((["_law_one"] : List Str) ++ (["_law_state"] : List Str)).Nodup := by decide +kernel
theorem ndRo : ((["_law_row"] : List Str) ++ ([] : List Str)).Nodup := by decide +kernel
theorem at_mod {α : Type} {xs : List α} {r b : Int} (hb : (xs.length : Int) = b) (hp : 0 < b) : ∃ x, atI xs (r % b) = some x ∧ xs[(r % b).toNat]? = some x := by
  have z := pos_mod r hp
  have hlt : (r % b).toNat < xs.length := by omega
  refine ⟨xs[(r % b).toNat], ?_, List.getElem?_eq_getElem hlt⟩
  have e2 := atI_nat (List.getElem?_eq_getElem hlt)
  rw [Int.toNat_of_nonneg z.1] at e2
  exact e2
section
variable {P : Program} {w : World} {K : PySem.W.Frag} {mg : Str → Option Value} {base : Heap} {a : Ad}
set_option maxHeartbeats 4000000 in
theorem ok_asked (T : Tx K mg a) (R : Fr K a) : FnOk P w K mg base CX0 11 a.f_asked a.d_asked ["_law_box", "_law_wire_here", "_law_due_here", "_law_state", "_law_cell", "_law_held"] (sp_asked K a.Frames) := by
  have GT : FnOk P w K mg base CX0 9 a.f_told a.d_told ["_law_box", "_law_piece_here"] (sp_told K a.Frames) := ok_told T R
  have GP : FnOk P w K mg base CX0 1 a.f_piece a.d_piece ["_law_wire_here", "_law_state", "_law_cell"] sp_piece := ok_piece T
  refine T.d_asked.F.ok sc_asked (fun vs H Q E h => ?_) (fun cdv A outer s H vs Q E hr h => ?_)
  · obtain ⟨x, dx, L, W, DU, F, S, HL, vw, w, fs, hs, l, xx, j, kn, c, rfl, _⟩ := h
    rfl
  · obtain ⟨x, dx, L, W, DU, F, S, HL, vw, w, fs, hs, l, xx, j, kn, c, rfl, hW, hB, h4, hDU, hF, hfd, hnx, hCh, hS, hj, hbox, hHL, hhs, hLH, hc0, q⟩ := h
    have hu := hr.units
    have hu1 : _ + 1 < cLine := hu_of hr
    refine ⟨_, pss_cons (ps_asg (pv 2) (pg_tup rfl (n := 2) (pgs_cons (pg_name (i := 6) sc_asked.nd rfl (Or.inl rfl)) (pgs_cons (pg_name (i := 7) sc_asked.nd rfl (Or.inl rfl)) pgs_nil))))
      (pss_cut (ps_if (PW.pt (pw_and (pt_cmpR op_eq (pe_op op_mod (pe_op op_fdiv (pv 4) pe_int) pe_int) pe_int (nomark _)) (pw_and1 (pt_cmpR (op_neD hu) (pe_call GT (hr.mono (by decide)) rfl T.d_told.m T.d_told.F.kp T.d_told.b .nil pass0 (pa_cons (pv 0) (pa_cons (pe_ix ix_list (pe_lst (pa_cons pe_int (pa_cons (pe_lst (pa_cons pe_int pa_nil)) (pa_cons pe_str (pa_cons (pe_lst (pa_cons pe_bl pa_nil)) (pa_cons (pe_lst (pa_cons pe_str pa_nil)) pa_nil)))))) (pe_op op_mod (pe_op op_fdiv (pv 4) pe_int) pe_int) (fun _ _ => rfl)) pa_nil))) (pe_lst (pa_cons pe_str pa_nil)) (nomark _)))))
        (pss_one (ps_ret pe_bl))
        pss_nil)
      (pss_cut (ps_set (i := 8) sc_asked.nd rfl (Or.inl rfl) (pe_callB call_len_seq (by rfl) T.len bt_len (pa_cons (pe_comp (ts := ["_law_one"]) (xs := ["_law_state"]) (js := [3]) rfl ⟨rfl, rfl, by decide +kernel, by decide +kernel, freeIn rfl⟩ (.cons rfl (.inl rfl) rfl .nil) (by decide +kernel) (pi_list (pv 6))
          (fun C s₀ H₀ fp => pg_name (X := cxC _ _ _ C s₀ H₀ fp) (i := 0) ndOS rfl (Or.inl rfl) (Or.inr rfl))
          (fun C s₀ H₀ fp => pif_one (X := cxC _ _ _ C s₀ H₀ fp) (pt_cmpR op_le (pe_ix (ix_tupK (X := cxC _ _ _ C s₀ H₀ fp) K rfl) (pv 0) pe_int (fun _ _ => rfl)) (pe_dget (X := cxC _ _ _ C s₀ H₀ fp) hu1 (pv 1) pe_str (fun _ _ => rfl)) (nomark _)))
          (fun C s₀ H₀ fp => pv (X := cxC _ _ _ C s₀ H₀ fp) 0)) pa_nil)))
      (pss_cons (ps_set (i := 9) sc_asked.nd rfl (Or.inl rfl) (pe_dget hu1 (pv 3) pe_str (fun _ _ => rfl)))
      (pss_cons (ps_set (i := 10) sc_asked.nd rfl (Or.inl rfl) (pe_call GP (hr.mono (by decide)) rfl T.d_piece.m T.d_piece.F.kp T.d_piece.b .nil pass0 (pa_cons (pv 1) (pa_cons (pv 3) (pa_cons (pv 4) pa_nil)))))
      (pss_cut (ps_set (i := 11) sc_asked.nd rfl (Or.inl rfl) (pe_call GT (hr.mono (by decide)) rfl T.d_told.m T.d_told.F.kp T.d_told.b .nil pass0 (pa_cons (pv 0) (pa_cons (pv 10) pa_nil))))
      (pss_cut (ps_set (i := 12) sc_asked.nd rfl (Or.inl rfl) (pe_slice sl_list (pe_comp (ts := ["_law_one"]) (xs := ["_law_state"]) (js := [3]) rfl ⟨rfl, rfl, by decide +kernel, by decide +kernel, freeIn rfl⟩ (.cons rfl (.inl rfl) rfl .nil) (by decide +kernel) (pi_list (pv 6))
          (fun C s₀ H₀ fp => pg_name (X := cxC _ _ _ C s₀ H₀ fp) (i := 0) ndOS rfl (Or.inl rfl) (Or.inr rfl))
          (fun C s₀ H₀ fp => pif_one (X := cxC _ _ _ C s₀ H₀ fp) (pt_cmpR op_le (pe_ix (ix_tupK (X := cxC _ _ _ C s₀ H₀ fp) K rfl) (pv 0) pe_int (fun _ _ => rfl)) (pe_dget (X := cxC _ _ _ C s₀ H₀ fp) hu1 (pv 1) pe_str (fun _ _ => rfl)) (nomark _)))
          (fun C s₀ H₀ fp => pe_ix (X := cxC _ _ _ C s₀ H₀ fp) (ix_tupK (X := cxC _ _ _ C s₀ H₀ fp) K rfl) (pv 0) pe_int (fun _ _ => rfl))) (po_some (pv 8)) po_none))
      (pss_cut (ps_set (i := 13) sc_asked.nd rfl (Or.inl rfl) (pe_and (pe_cmpR op_notN (pv 7) pe_non (nomark _)) (pe_one (pe_cmpR op_le (pe_ix ix_tup (pv 7) pe_int (fun _ _ => rfl)) (pe_dget hu1 (pv 3) pe_str (fun _ _ => rfl)) (nomark _)))))
      (pss_cons (ps_dput hu1 (pv 3) pe_str (pv 13) rfl)
      (pss_cons (ps_expr (pe_bm0 PySem.F.plainAttrs_list PySem.F.slot_list_clear PySem.F.type_list_clear mt_clear (pv 10)))
      (pss_cut (ps_if (PW.pt (pw_or (pt_val (pv 9)) (pw_or1 (PW.pt (pw_and (pt_val (pv 13)) (pw_and1 (pt_cmpR (op_eqNil hu) (pv 12) (pe_lst pa_nil) (nomark _))))))))
        (pss_one (ps_ret (pe_cmpR (op_eqD hu) (pv 11) (pe_ix ix_tup (pv 7) pe_int (fun _ _ => rfl)) (nomark _))))
        pss_nil)
      (pss_cons (ps_if (pt_cmpR (op_neD hu) (pv 11) (pe_lst (pa_cons (pv 12) pa_nil)) (nomark _))
        (pss_one (ps_ret pe_bl))
        pss_nil)
      (pss_cut (ps_for PassesOwn.never rfl (pi_list (pe_ix ix_list (pv 11) pe_int (fun _ _ => rfl))) (pg_name (i := 14) sc_asked.nd rfl (Or.inl rfl))
        (pss_one (ps_expr (pe_bm PySem.F.plainAttrs_list PySem.F.slot_list_append PySem.F.type_list_append mt_append (pv 14) (pa_cons pe_int pa_nil)))))
      (pss_cons (ps_expr (pe_bm PySem.F.plainAttrs_list PySem.F.slot_list_append PySem.F.type_list_append mt_append (pe_ix ix_list (pv 11) pe_int (fun _ _ => rfl)) (pa_cons pe_int pa_nil)))
      (pss_cons (ps_expr (pe_bm PySem.F.plainAttrs_list PySem.F.slot_list_append PySem.F.type_list_append mt_append (pv 5) (pa_cons (pe_tup (pa_cons (pv 11) (pa_cons (pe_op op_cat (pe_comp (ts := ["_law_row"]) (xs := []) (js := []) rfl ⟨rfl, rfl, by decide +kernel, by decide +kernel, freeIn rfl⟩ .nil (by decide +kernel) (pi_list (pv 12))
          (fun C s₀ H₀ fp => pg_name (X := cxC _ _ _ C s₀ H₀ fp) (i := 0) ndRo rfl (Or.inl rfl) (Or.inr rfl))
          (fun C s₀ H₀ fp => pif_nil (X := cxC _ _ _ C s₀ H₀ fp))
          (fun C s₀ H₀ fp => pe_op (X := cxC _ _ _ C s₀ H₀ fp) op_cat (pv 0) (pe_lst (pa_cons pe_int pa_nil)))) (pe_lst (pa_cons pe_int pa_nil))) pa_nil))) pa_nil)))
      (pss_one (ps_ret pe_bl)))))))))))))))), ?_⟩
    refine ⟨_, rfl, DU, _, rfl, SqT.of (rm_in _ _ hDU), rfl, _, _, rfl, _, _, rfl, rfl, ?_⟩
    have hxS : ∃ fsx, H x = some (.ins a.Frames dx fsx) ∧ ∃ (L0 : Addr) (st be sz pl : Int) (why : Str), fsx = BxF L0 st be sz pl why := by
      rcases hbox.2 with ⟨_, pre, l', p, be, sz, pl, _, _, _, _, _, hx, _⟩ | ⟨_, o, e, st, be, sz, pl, why, _, _, _, hx⟩
      · exact ⟨_, hx, _, _, _, _, _, _, rfl⟩
      · exact ⟨_, hx, _, _, _, _, _, _, rfl⟩
    -- what is no row
    refine ⟨fun σ' H' => σ' = [some (.ref x), some (.ref W), some (.ref DU), some (.ref S), some (.int c), some (.ref HL), some (.ref F), some vw, none, none, none, none, none, none, none] ∧ Same H H', ?_, ?_⟩
    · refine ⟨_, rfl, _, _, rfl, rfl, ⟨by decide, by decide⟩, _, _, rfl, rfl, (by show (0 : Int) < 11; decide), rfl, _, rfl, ite2 (fun _ => ?_) (fun _ => ⟨rfl, Same.refl H⟩)⟩
      refine ⟨_, rfl, by show 1 ≤ sizeLine; decide, fun r1 h1 => ⟨by show 1 ≤ sizeLine; decide, fun r2 h2 => ⟨by show 1 ≤ sizeLine; decide, fun r3 h3 => ⟨by show 5 ≤ sizeLine; decide, fun lo hlo => ?_⟩⟩⟩⟩
      have t1 := sameU (u := .lst [.int 256]) h1
      have t2 := sameU (u := .lst [.bl true]) h2
      have t3 := sameU (u := .lst [.str "0"]) h3
      have t4 := sameU (u := .lst [.int 5, .ref r1, .str "a", .ref r2, .ref r3]) hlo
      have tt := ((t1.trans t2).trans t3).trans t4
      obtain ⟨y, ey, gy⟩ := at_mod (xs := [V.int 5, .ref r1, .str "a", .ref r2, .ref r3]) (r := c / 990) (b := 5) rfl (by decide)
      obtain ⟨hy, hrw⟩ := oddL T (t4 _ _ (t3 _ _ (t2 _ _ upd_same))) (t4 _ _ (t3 _ _ upd_same)) (t4 _ _ upd_same) y (List.mem_of_getElem? gy)
      obtain ⟨_, hx, L0, st, be, sz, pl, why, rfl⟩ := hxS
      refine ⟨_, rfl, _, _, rfl, rfl, ⟨by decide, by decide⟩, _, _, rfl, rfl, (by show (0 : Int) < 5; decide), lo, _, _, _, rfl, rfl, SqL.of upd_same, ey, x, dx, L0, st, be, sz, pl, why, y, rfl, tt _ _ hx, .inl ⟨hy, hrw, fun D H5 hD s5 e5 => ⟨by show 1 ≤ sizeLine; decide, fun l2 hl2 => ?_⟩⟩⟩
      refine ⟨.list [.str "row"], .list [.str "row"], .lst (SqL.of (keepH e5 hl2)) (.cons (.str _) .nil), .lst (SqL.of upd_same) (.cons (.str _) .nil), shaped_w1 (by decide +kernel), shaped_w1 (by decide +kernel), _, rfl, ?_⟩
      rw [show PyData.eqv (.list [.str "row"]) (.list [.str "row"]) = true by decide +kernel]
      exact iteF ⟨rfl, (tt.trans s5).trans (sameU hl2)⟩
    rintro σ' H2 ⟨rfl, s2⟩
    obtain ⟨ts, Rs, rfl, hts, hRs, hrow⟩ := hfd.ex
    have st2 := (rm_in (S := [x, L, S, HL])).trans s2
    have lfs : (ts.map V.ref).length = l.length := by rw [List.length_map, hts]
    have l400 : l.length ≤ 400 := by have := Ch.len hB hCh (Nat.zero_le _); omega
    have tup_at : ∀ (i : Nat) (v : V), (ts.map V.ref)[i]? = some v → ∃ t Rr q, v = .ref t ∧ ts[i]? = some t ∧ Rs[i]? = some Rr ∧ l[i]? = some q ∧ enD l i = q.2 ∧ Rs.getD i 0 = Rr ∧ rm [x, L, S, HL] H t = some (.tup [.ref Rr, .int (q.2 : Int)]) := fun i v hv => by
      rw [List.getElem?_map] at hv
      obtain ⟨t, ht, rfl⟩ := Option.map_eq_some_iff.mp hv
      have hi : i < ts.length := (List.getElem?_eq_some_iff.mp ht).1
      have h1 : Rs[i]? = some (Rs[i]'(by omega)) := List.getElem?_eq_getElem _
      have h2 : l[i]? = some (l[i]'(by omega)) := List.getElem?_eq_getElem _
      exact ⟨t, _, _, rfl, ht, h1, h2, by unfold enD; rw [List.getD_eq_getElem?_getD, h2]; rfl, by rw [List.getD_eq_getElem?_getD, h1]; rfl, (hrow i t _ _ ht h1 h2).1⟩
    refine ⟨fun σ' H' => ∃ ah : Nat, σ' = [some (.ref x), some (.ref W), some (.ref DU), some (.ref S), some (.int c), some (.ref HL), some (.ref F), some vw, some (.int (ah : Int)), none, none, none, none, none, none] ∧ Same H H' ∧ ah = ((List.range l.length).filter fun i => decide (enD l i ≤ j)).length, ?_, ?_⟩
    · refine ⟨_, rfl, F, rfl, ⟨_, SqL.of (st2 _ _ hF)⟩, comp_genI (Wk.list (SqL.of (st2 _ _ hF))) (by rw [lfs]; omega) (fun i => decide (enD l i ≤ j)) (fun i => (ts.map V.ref).getD i .non) (fun i v hv H3 Rr s3 hT hF' => ?_) (fun D H3 hD s3 e3 => ?_)⟩
      · obtain ⟨t, Ra, qq, rfl, ht, hRa, hq, een, _, htup⟩ := tup_at i v hv
        refine ⟨Sub.set rfl, _, rfl, t, _, _, _, rfl, rfl, SqT.of (s3 _ _ (st2 _ _ htup)), at1, _, rfl, S, _, rfl, g_at (s3 _ _ (s2 _ _ hS)), _, _, rfl, rfl, _, rfl, ?_⟩
        by_cases cc : qq.2 ≤ j
        · rw [show decide ((qq.2 : Int) ≤ (j : Int)) = true from decide_eq_true (by omega)]
          refine iteT ⟨_, rfl, ?_⟩
          have := hT H3 (Same.refl _) (by rw [een]; exact decide_eq_true cc)
          rw [show (ts.map V.ref).getD i .non = .ref t by rw [List.getD_eq_getElem?_getD, hv]; rfl] at this
          exact this
        · rw [show decide ((qq.2 : Int) ≤ (j : Int)) = false from decide_eq_false (by omega)]
          exact iteF (hF' H3 (Same.refl _) (by rw [een]; exact decide_eq_false cc))
      · refine ⟨D, _, rfl, .inl (SqL.of e3), _, ?_, s2.trans s3, rfl⟩
        rw [List.length_map, lfs]
        rfl
    rintro σ' H3 ⟨ah, rfl, s3, hah⟩
    refine ⟨_, rfl, S, _, rfl, g_known (s3 _ _ hS), ?_⟩
    refine ⟨_, rfl, _, rfl, _, rfl, W, S, w, j, kn, c, rfl, (rm_in.trans s3) _ _ hW, h4, s3 _ _ hS, hj, hc0, fun Y m H4 hjm hcm hY sx4 hS4 hY4 => ?_⟩
    have k4 : ∀ b o, b ≠ S → H b = some o → H4 b = some o := fun b o n e => sx4 b o (by simpa using n) (s3 b o e)
    have sxM : SameX [x, L, S, HL] H H4 := fun b o n e => k4 b o (fun z => n (by rw [z]; simp)) e
    have hY0 : H Y = none := s3.free hY
    obtain ⟨lo0, hLlo⟩ := hbox.1
    have LS : L ≠ S := fun z => by rw [z, hS] at hLlo; cases hLlo
    have HS : HL ≠ S := fun z => by rw [z, hS] at hHL; cases hHL
    have YL : Y ≠ L := fun z => by rw [z, hLlo] at hY0; cases hY0
    have YS : Y ≠ S := fun z => by rw [z, hS] at hY0; cases hY0
    have YH : Y ≠ HL := fun z => by rw [z, hHL] at hY0; cases hY0
    have xS : x ≠ S := by
      obtain ⟨_, hx, _⟩ := hxS
      exact fun z => by rw [z, hS] at hx; cases hx
    have Yx : Y ≠ x := by
      obtain ⟨_, hx, _⟩ := hxS
      exact fun z => by rw [z, hx] at hY0; cases hY0
    have xH : x ≠ HL := by
      obtain ⟨_, hx, _⟩ := hxS
      exact lst_ne hx hHL
    -- what a later heap has of the law's own things
    have keepM : ∀ {H5 : Hp}, SameX [x, L] H4 H5 → SameX [x, L, S, HL] H H5 ∧ H5 S = some (.dK (StD ((j + m : Nat) : Int) kn)) ∧ H5 HL = some (.lst hs) ∧ H5 Y = some (.lst (natV (seg w j (j + m)))) := fun k =>
      ⟨sxM.trans (k.mono (by intro b hb; simp only [List.mem_cons, List.not_mem_nil, or_false] at hb ⊢; rcases hb with h | h <;> simp [h])), k _ _ (by simp; exact ⟨Ne.symm xS, Ne.symm LS⟩) hS4, k _ _ (by simp; exact ⟨Ne.symm xH, Ne.symm hLH⟩) (k4 _ _ HS hHL), k _ _ (by simp; exact ⟨Yx, YL⟩) hY4⟩
    refine ⟨fun σ' H' => ∃ Y D L' m, σ' = [some (.ref x), some (.ref W), some (.ref DU), some (.ref S), some (.int c), some (.ref HL), some (.ref F), some vw, some (.int (ah : Int)), some (.bl kn), some (.ref Y), some (.ref D), none, none, none] ∧ j + m ≤ w.length ∧ (c = 3 * (w.length : Int) + 2 → j + m = w.length) ∧ H' S = some (.dK (StD ((j + m : Nat) : Int) kn)) ∧ Mid a.Frames w l xx H H' x dx L S HL Y D L' j m kn hs, ?_, ?_⟩
    · rcases hbox.2 with ⟨rfl, pre, l', p, be, sz, pl, el, hpre, hlp, hC', hBI, hx, hL⟩ | ⟨rfl, o, e, st, be, sz, pl, why, ex, he, ho, hx⟩
      · have hx4 := k4 _ _ xS hx
        have hL4 := k4 _ _ LS hL
        have hp : p ≤ w.length := Nat.le_trans hBI.1 hBI.2.1
        obtain ⟨und1, und2⟩ := hC'.und hB hp (hBI.und hB)
        -- what is new in a later heap is new
        have fresh : ∀ {H5 : Hp}, SameX [x, L] H4 H5 → (∃ o, H5 L = some o) → (∃ o, H5 x = some o) → ∀ b, H5 b = none → H b = none := fun {H5} k ⟨o1, e1⟩ ⟨o2, e2⟩ b hb => by
          obtain ⟨k1, k2, k3, _⟩ := keepM k
          refine k1.free ?_ hb
          simp only [List.mem_cons, List.not_mem_nil, or_false, not_or]
          exact ⟨fun z => (by rw [z, e2] at hb; cases hb), fun z => (by rw [z, e1] at hb; cases hb), fun z => (by rw [z, k2] at hb; cases hb), fun z => (by rw [z, k3] at hb; cases hb)⟩
        have fresh4 : ∀ b, H4 b = none → H b = none := fresh (fun b o _ e => e) ⟨_, hL4⟩ ⟨_, hx4⟩
        have told0 : ∀ {H5 : Hp} {Rr : Addr} {rows : List (List Nat)} {rs : List Addr}, Told H4 H5 Rr rows rs → Told H H5 Rr rows rs := fun t => ⟨fresh4 _ t.1, t.2.1, t.2.2.1, t.2.2.2.1, t.2.2.2.2.1, fun r hr => fresh4 _ (t.2.2.2.2.2.1 r hr), t.2.2.2.2.2.2⟩
        have nY : ∀ {H5 : Hp} {Rr : Addr} {rows : List (List Nat)} {rs : List Addr}, Told H4 H5 Rr rows rs → Y ≠ Rr ∧ Y ∉ rs := fun t => ⟨fun z => (by have := t.1; rw [← z, hY4] at this; cases this), fun z => (by have := t.2.2.2.2.2.1 _ z; rw [hY4] at this; cases this)⟩
        have LH' : ∀ {L' : Addr}, (L' = L ∨ H4 L' = none) → L' ≠ HL := fun h z => by
          rcases h with h | h
          · exact hLH (h.symm.trans z)
          · rw [z, k4 _ _ HS hHL] at h; cases h
        have LY' : ∀ {L' : Addr}, (L' = L ∨ H4 L' = none) → L' ≠ Y := fun h z => by
          rcases h with h | h
          · exact YL (z.symm.trans h)
          · rw [z, hY4] at h; cases h
        have rsD : ∀ {H5 : Hp} {Rr D : Addr} {rows : List (List Nat)} {rs : List Addr}, Told H4 H5 Rr rows rs → H5 D = none → D ≠ Rr ∧ D ∉ rs := fun t hD => ⟨fun z => (by rw [z, t.2.1] at hD; cases hD), fun z => by
          obtain ⟨n, hn, en⟩ := List.getElem_of_mem z
          have := t.2.2.2.2.2.2 n _ _ (by rw [List.getElem?_eq_getElem hn, en]) (List.getElem?_eq_getElem (by have := t.2.2.1; omega))
          rw [hD] at this
          cases this⟩
        refine ⟨_, rfl, _, rfl, x, dx, L, p, be, sz, pl, "", .ref Y, rfl, hx4, .inr (.inr (.inl ⟨Y, w, p, j, m, be, sz, l', xx, rfl, hY4, YL, hB, h4, hjm, hC', hBI, rfl, rfl, rfl, rfl, hL4, fun Rr D H5 cur hD => ?_, fun Rr D H5 hl' rf hD => ?_, fun Rr H5 o e hl' rf ex D H6 hD s6 e6 => ?_⟩))⟩
        · obtain ⟨s5, hLo, rs, l1, l2, p', be', sz', L', hT, el', hl1, hpe, hC2, hBI2, hx5, hL5, hLL, hLr, hLR⟩ := cur
          have hp' : p' ≤ w.length := Nat.le_trans hBI2.1 hBI2.2.1
          obtain ⟨v1, v2⟩ := hC2.und hB hp' (hBI2.und hB)
          have wf : wrongB xx (j + m) = false := wrong_false v2
          obtain ⟨k1, k2, k3, k5⟩ := keepM s5
          have hD0 := fresh s5 (let ⟨lo, e⟩ := hLo; ⟨_, e⟩) ⟨_, hx5⟩ D hD
          have sD := sameU (u := .lst [.ref Rr]) hD
          refine ⟨Y, D, L', m, rfl, hjm, hcm, sD _ _ k2, ⟨k1.trans (SameX.of sD), hLL.imp id (fresh4 _), hY0, ⟨_, sD _ _ k5⟩, hD0, ?_, sD _ _ k3, LY' hLL, fun z => (by rw [← z, hL5] at hD; cases hD), fun z => (by rw [← z, k5] at hD; cases hD), LH' hLL, (let ⟨lo, e⟩ := hLo; ⟨lo, sD _ _ e⟩), .inr ⟨rfl, Rr, rs, l1, ⟨⟨pre, l2, by rw [el, el', List.append_assoc], hpre, fun q hq => ?_, v1⟩, upd_same, (told0 hT).keep fun b o _ e => sD _ _ e, rsD hT hD, ⟨hLR, hLr⟩, nY hT⟩, fun _ => wf⟩⟩⟩
          · rw [wf]
            refine ⟨⟨_, sD _ _ hL5⟩, .inl ⟨rfl, pre ++ l1, l2, p', be', sz', pl, by rw [el, el', List.append_assoc], fun q hq => ?_, by rw [lastE_cat, ← hlp]; exact hpe, hC2, hBI2, sD _ _ hx5, sD _ _ hL5⟩⟩
            rcases List.mem_append.mp hq with z | z
            · exact Nat.le_trans (hpre q z) (by omega)
            · exact Nat.le_trans (hl1 q z) hBI2.1
          · exact ⟨und1 q (by rw [el']; exact List.mem_append_left _ hq), Nat.le_trans (hl1 q hq) hBI2.1⟩
        · obtain ⟨s5, hLo, rs, o, e, L', st, be2, sz2, pl', why, hT, ex, he, ho, hx5, hLL, ⟨lo5, hL5⟩, hLr, hLR⟩ := rf
          have wt : wrongB xx (j + m) = true := wrong_true ex he
          obtain ⟨k1, k2, k3, k5⟩ := keepM s5
          have hD0 := fresh s5 (let ⟨lo, e⟩ := hLo; ⟨_, e⟩) ⟨_, hx5⟩ D hD
          have sD := sameU (u := .lst [.ref Rr]) hD
          have ends := hC'.ends hB hp
          have ub : ∀ q ∈ l', q.2 ≤ j + m := fun q hq => Nat.le_trans (Nat.le_of_lt (hC'.lt hB ex hp q hq)) he
          refine ⟨Y, D, L', m, rfl, hjm, hcm, sD _ _ k2, ⟨k1.trans (SameX.of sD), hLL.imp id (fresh4 _), hY0, ⟨_, sD _ _ k5⟩, hD0, ?_, sD _ _ k3, LY' hLL, fun z => (by rw [← z, hL5] at hD; cases hD), fun z => (by rw [← z, k5] at hD; cases hD), LH' hLL, (let ⟨lo, e⟩ := hLo; ⟨lo, sD _ _ e⟩), .inr ⟨rfl, Rr, rs, l', ⟨⟨pre, [], by rw [el, List.append_nil], hpre, fun q hq => ⟨und1 q hq, ub q hq⟩, fun q hq => (List.not_mem_nil hq).elim⟩, upd_same, (told0 hT).keep fun b o _ e => sD _ _ e, rsD hT hD, ⟨hLR, hLr⟩, nY hT⟩, fun z => absurd z hl'⟩⟩⟩
          rw [wt]
          exact ⟨⟨_, sD _ _ hL5⟩, .inr ⟨rfl, o, e, st, be2, sz2, pl', why, ex, he, ho, sD _ _ hx5⟩⟩
        · obtain ⟨s5, hLo, rs, o', e', L', st, be2, sz2, pl', why, hT, ex', he, ho, hx5, hLL, ⟨lo5, hL5⟩, hLr, hLR⟩ := rf
          rw [ex] at ex'
          cases ex'
          have wt : wrongB xx (j + m) = true := wrong_true ex he
          obtain ⟨k1, k2, k3, k5⟩ := keepM s5
          have hD0 := fresh s5 (let ⟨lo, e⟩ := hLo; ⟨_, e⟩) ⟨_, hx5⟩ D hD
          refine ⟨Y, D, L', m, rfl, hjm, hcm, s6 _ _ k2, ⟨k1.trans (SameX.of s6), hLL.imp id (fresh4 _), hY0, ⟨_, s6 _ _ k5⟩, hD0, ?_, s6 _ _ k3, LY' hLL, fun z => (by rw [← z, hL5] at hD; cases hD), fun z => (by rw [← z, k5] at hD; cases hD), LH' hLL, (let ⟨lo, e⟩ := hLo; ⟨lo, s6 _ _ e⟩), .inl ⟨o, e, pl', why, ex, he, ho, e6, .inr ⟨rfl, pre, [], by rw [el, hl'], hpre, fun q hq => (List.not_mem_nil hq).elim⟩⟩⟩⟩
          rw [wt]
          exact ⟨⟨_, s6 _ _ hL5⟩, .inr ⟨rfl, o, e, st, be2, sz2, pl', why, ex, he, ho, s6 _ _ hx5⟩⟩
      · have hx4 := k4 _ _ xS hx
        have wt : wrongB xx (j + m) = true := wrong_true ex (by omega)
        have hLlo4 := k4 _ _ LS hLlo
        refine ⟨_, rfl, _, rfl, x, dx, L, st, be, sz, pl, why, .ref Y, rfl, hx4, .inr (.inl ⟨(by intro z; cases z), o, seg w j (j + m), ⟨Y, rfl, .inl hY4, by rw [seg_len hjm]; omega, seg_lt hB _ _⟩, ho, fun D H5 hD s5 e5 => ?_⟩)⟩
        have hH4 := k4 _ _ HS hHL
        have hD0 : H D = none := sxM.free (by
          simp only [List.mem_cons, List.not_mem_nil, or_false, not_or]
          exact ⟨fun z => (by rw [z, hx4] at hD; cases hD), fun z => (by rw [z, hLlo4] at hD; cases hD), fun z => (by rw [z, hS4] at hD; cases hD), fun z => (by rw [z, hH4] at hD; cases hD)⟩) hD
        refine ⟨Y, D, L, m, rfl, hjm, hcm, s5 _ _ hS4, ⟨sxM.trans (SameX.of s5), .inl rfl, hY0, ⟨_, s5 _ _ hY4⟩, hD0, ?_, s5 _ _ hH4, Ne.symm YL, fun z => (by rw [← z, hLlo4] at hD; cases hD), fun z => (by rw [← z, hY4] at hD; cases hD), hLH, ⟨_, s5 _ _ hLlo4⟩, .inl ⟨o, e, pl, why, ex, by omega, ho, e5, .inl rfl⟩⟩⟩
        rw [wt]
        exact ⟨⟨_, s5 _ _ hLlo4⟩, .inr ⟨rfl, o, e, st, be, sz, pl, why, ex, by omega, ho, s5 _ _ hx4⟩⟩
    clear hY hY4 hS4 sx4 k4 sxM keepM hjm hcm YL YS YH Yx hY0
    rintro σ' H5 ⟨Y, D, L', m, rfl, hjm, hcm, hS5, M⟩
    have st5 : Same (rm [x, L, S, HL] H) H5 := M.sx.st
    -- the rows that are due
    refine ⟨fun σ' H' => ∃ Z zs, σ' = [some (.ref x), some (.ref W), some (.ref DU), some (.ref S), some (.int c), some (.ref HL), some (.ref F), some vw, some (.int (ah : Int)), some (.bl kn), some (.ref Y), some (.ref D), some (.ref Z), none, none] ∧ Same H5 H' ∧ H5 Z = none ∧ H' Z = some (.lst zs) ∧ zs = (((List.range l.length).filter fun i => decide (enD l i ≤ j + m)).map fun i => V.ref (Rs.getD i 0)).drop ah, ?_, ?_⟩
    · refine ⟨_, rfl, F, rfl, ⟨_, SqL.of (st5 _ _ hF)⟩, comp_genI (Wk.list (SqL.of (st5 _ _ hF))) (by rw [lfs]; omega) (fun i => decide (enD l i ≤ j + m)) (fun i => V.ref (Rs.getD i 0)) (fun i v hv H6 Rr s6 hT hF' => ?_) (fun D2 H6 hD2 s6 e6 => ?_)⟩
      · obtain ⟨t, Ra, qq, rfl, ht, hRa, hq, een, eRa, htup⟩ := tup_at i v hv
        have ht6 := s6 _ _ (st5 _ _ htup)
        refine ⟨Sub.set rfl, _, rfl, t, _, _, _, rfl, rfl, SqT.of ht6, at1, _, rfl, S, _, rfl, g_at (s6 _ _ hS5), _, _, rfl, rfl, _, rfl, ?_⟩
        by_cases cc : qq.2 ≤ j + m
        · rw [show decide ((qq.2 : Int) ≤ ((j + m : Nat) : Int)) = true from decide_eq_true (by omega)]
          refine iteT ⟨_, rfl, t, _, _, _, rfl, rfl, SqT.of ht6, at0, ?_⟩
          have := hT H6 (Same.refl _) (by rw [een]; exact decide_eq_true cc)
          rw [eRa] at this
          exact this
        · rw [show decide ((qq.2 : Int) ≤ ((j + m : Nat) : Int)) = false from decide_eq_false (by omega)]
          exact iteF (hF' H6 (Same.refl _) (by rw [een]; exact decide_eq_false cc))
      · rw [lfs] at e6
        refine ⟨_, rfl, _, rfl, D2, _, rfl, SqL.of e6, fun Z hZ => ?_⟩
        rw [cut_drop rfl]
        exact ⟨Z, _, rfl, s6.trans (sameU hZ), s6.free hZ, upd_same, rfl⟩
    rintro σ' H6 ⟨Z, zs, rfl, s6, hZ5, hZ6, hzs⟩
    have hnx6 : NxV H6 xx vw := (hnx.same st5).same s6
    -- is it wrong
    refine ⟨fun σ' H' => σ' = [some (.ref x), some (.ref W), some (.ref DU), some (.ref S), some (.int c), some (.ref HL), some (.ref F), some vw, some (.int (ah : Int)), some (.bl kn), some (.ref Y), some (.ref D), some (.ref Z), some (.bl (wrongB xx (j + m))), none] ∧ H6 = H', ?_, ?_⟩
    · cases xx with
      | none =>
        obtain rfl : vw = .non := hnx6
        refine ⟨_, rfl, rfl, _, rfl, ?_⟩
        rw [decide_eq_true rfl]
        exact iteF ⟨rfl, rfl⟩
      | row r e => exact absurd rfl (hCh.nr r e)
      | bad o e =>
        obtain ⟨t0, R0, rfl, ht0, hR0⟩ := hnx6
        refine ⟨_, rfl, rfl, _, rfl, ?_⟩
        rw [decide_eq_false (by intro z; cases z)]
        refine iteT ⟨_, rfl, t0, _, _, _, rfl, rfl, SqT.of ht0, at1, _, rfl, S, _, rfl, g_at (s6 _ _ hS5), _, _, rfl, rfl, ?_, rfl⟩
        have ed : decide ((e : Int) ≤ ((j + m : Nat) : Int)) = decide (e ≤ j + m) := by rw [decide_eq_decide]; omega
        show [some (V.ref x), _, _, _, _, _, _, _, _, _, _, _, _, some (V.bl (decide ((e : Int) ≤ ((j + m : Nat) : Int)))), _] = _
        rw [ed]
        rfl
    rintro σ' H' ⟨rfl, rfl⟩
    have M6 := M.same s6
    have hS6 := s6 _ _ hS5
    have hHY : HL ≠ Y := fun z => by have := M.Y0; rw [← z, hHL] at this; cases this
    refine ⟨_, rfl, _, rfl, S, _, rfl, p_known hS6, ?_⟩
    obtain ⟨ys6, hY6⟩ := M6.Y1
    have YS : Y ≠ S := fun z => by rw [z, hS6] at hY6; cases hY6
    have hY7 : (upd H6 S (.dK (StD ((j + m : Nat) : Int) (wrongB xx (j + m))))) Y = some (.lst ys6) := by rw [upd_ne YS]; exact hY6
    refine ⟨_, rfl, .inl ⟨rfl, _, SqL.of hY7⟩, Y, _, rfl, rfl, hY7, ?_⟩
    have sx8 : SameX [x, L, S, HL] H (upd (upd H6 S (.dK (StD ((j + m : Nat) : Int) (wrongB xx (j + m))))) Y (.lst [])) := (M6.sx.put (.inl (by simp))).put (.inr M.Y0)
    have hLY : L ≠ Y := fun z => by have := M.Y0; rw [← z, hLlo] at this; cases this
    have M8 := M6.keep hHY hLY sx8 ⟨_, upd_same⟩ (fun b o e n nd => by
      rw [upd_ne n, upd_ne (fun z => by rw [z, hS6] at e; exact nd _ (Option.some.inj e).symm)]
      exact e)
    have hS8 : (upd (upd H6 S (.dK (StD ((j + m : Nat) : Int) (wrongB xx (j + m))))) Y (.lst [])) S = some (.dK (StD ((j + m : Nat) : Int) (wrongB xx (j + m)))) := by rw [upd_ne (Ne.symm YS)]; exact upd_same
    have ZY : Z ≠ Y := fun z => by
      obtain ⟨ys5, hY5⟩ := M.Y1
      rw [z, hY5] at hZ5
      cases hZ5
    have ZS : Z ≠ S := fun z => by rw [z, hS5] at hZ5; cases hZ5
    have hZ8 : (upd (upd H6 S (.dK (StD ((j + m : Nat) : Int) (wrongB xx (j + m))))) Y (.lst [])) Z = some (.lst zs) := by rw [upd_ne ZY, upd_ne ZS]; exact hZ6
    have k58 : ∀ b o, H5 b = some o → b ≠ Y → (∀ kv, o ≠ .dK kv) → (upd (upd H6 S (.dK (StD ((j + m : Nat) : Int) (wrongB xx (j + m))))) Y (.lst [])) b = some o := fun b o e n nd => by
      have e6 := s6 _ _ e
      rw [upd_ne n, upd_ne (fun z => by rw [z, hS6] at e6; exact nd _ (Option.some.inj e6).symm)]
      exact e6
    revert sx8 M8 hS8 hZ8 k58
    generalize upd (upd H6 S (.dK (StD ((j + m : Nat) : Int) (wrongB xx (j + m))))) Y (.lst []) = H8
    intro sx8 M8 hS8 hZ8 k58
    have hZn : ∀ (Rr : Addr) (rs : List Addr) (l1 : List (List Nat × Nat)), Gave H H8 D Rr Y L' rs l l1 j m → Z ≠ D ∧ Z ≠ Rr ∧ Z ∉ rs := fun Rr rs l1 G8 => by
      rcases M.out with ⟨o, e, pl, why, ex, he, ho, hD5, _⟩ | ⟨_, R', rs', l1', G5, _⟩
      · have e1 := k58 _ _ hD5 (Ne.symm M.YD) (by intro kv z; cases z)
        rw [G8.hD] at e1
        cases o with
        | wire p y => cases e1
        | chk => cases e1
        | row r => exact ho.elim
      · have e1 := k58 _ _ G5.hD (Ne.symm M.YD) (by intro kv z; cases z)
        rw [G8.hD] at e1
        obtain rfl : Rr = R' := by injection e1 with e1; injection e1 with e1; injection e1 with e1 _; exact V.ref.inj e1
        have e2 := k58 _ _ G5.t.2.1 (Ne.symm G5.nY.1) (by intro kv z; cases z)
        rw [G8.t.2.1] at e2
        obtain rfl : rs = rs' := map_ref_inj (by injection e2 with e2; injection e2)
        refine ⟨fun z => ?_, fun z => ?_, fun z => ?_⟩
        · rw [z, G5.hD] at hZ5; cases hZ5
        · rw [z, G5.t.2.1] at hZ5; cases hZ5
        · obtain ⟨n, hn, en⟩ := List.getElem_of_mem z
          have := G5.t.2.2.2.2.2.2 n _ _ (by rw [List.getElem?_eq_getElem hn, en]) (List.getElem?_eq_getElem (by have := G5.t.2.2.1; omega))
          rw [hZ5] at this
          cases this
    clear k58
    have st8 : Same (rm [x, L, S, HL] H) H8 := sx8.st
    have hnx8 : NxV H8 xx vw := hnx.same st8
    have done : ∀ H9, Same H8 H9 → Q (.bl true) H9 := fun H9 s9 => q L' m hs H9 hjm hcm (M8.sx.trans (SameX.of s9)) M8.LL (s9 _ _ hS8) (M8.box.same s9) (s9 _ _ M8.hl) (.inl rfl)
    clear hY7 hY6 M6 hS6 hnx6 M hS5 s6 st5
    refine ⟨fun σ' H' => σ' = [some (.ref x), some (.ref W), some (.ref DU), some (.ref S), some (.int c), some (.ref HL), some (.ref F), some vw, some (.int (ah : Int)), some (.bl kn), some (.ref Y), some (.ref D), some (.ref Z), some (.bl (wrongB xx (j + m))), none] ∧ ∃ (Rr : Addr) (rs : List Addr) (l1 : List (List Nat × Nat)) (Zs : List Addr), Same H8 H' ∧ Gave H H8 D Rr Y L' rs l l1 j m ∧ zs = Zs.map V.ref ∧ Zs.length = l1.length ∧ ∀ (i : Nat) z bs, Zs[i]? = some z → (l1.map (·.1))[i]? = some bs → rm [x, L, S, HL] H z = some (.lst (natV bs)), ?_, ?_⟩
    · refine ⟨_, rfl, _, rfl, ?_⟩
      rcases M8.out with ⟨o, e, pl, why, ex, he, ho, hD8, hk⟩ | ⟨rfl, Rr, rs, l1, G, hl1⟩
      · -- a refusal
        have wt : wrongB xx (j + m) = true := wrong_true ex he
        subst ex
        obtain ⟨t0, R0, rfl, ht0, hR0⟩ := hnx8
        obtain ⟨pd, pd1, pd2, pd3⟩ := oV_dat (K := K) ho
        rcases hk with rfl | ⟨rfl, pre, l2, el, hpre, hl2⟩
        · refine iteT ⟨_, rfl, _, rfl, t0, _, _, _, rfl, rfl, SqT.of ht0, at0, pd, pd, pd1 _ _ hD8, pd1 _ _ hR0, pd2, pd2, ?_⟩
          rw [pd3]
          exact done _ (Same.refl _)
        · have hp1 : (List.range l.length).filter (fun i => decide (enD l i ≤ j)) = List.range pre.length := range_pre (by rw [el, List.length_append]; omega) _ (fun i hi => by
              obtain ⟨qq, hq, e1⟩ := en_pre (l' := l2) hi
              rw [el, e1]
              exact decide_eq_true (hpre qq hq)) (fun i h1 h2 => by
              rw [el] at h2
              obtain ⟨qq, hq, e1⟩ := en_suf h1 h2
              rw [el, e1]
              exact decide_eq_false (by have := hl2 qq hq; omega))
          have hp2 : (List.range l.length).filter (fun i => decide (enD l i ≤ j + m)) = List.range pre.length := range_pre (by rw [el, List.length_append]; omega) _ (fun i hi => by
              obtain ⟨qq, hq, e1⟩ := en_pre (l' := l2) hi
              rw [el, e1]
              exact decide_eq_true (Nat.le_trans (hpre qq hq) (by omega))) (fun i h1 h2 => by
              rw [el] at h2
              obtain ⟨qq, hq, e1⟩ := en_suf h1 h2
              rw [el, e1]
              exact decide_eq_false (by have := hl2 qq hq; omega))
          have z0 : zs = [] := by
            rw [hzs, hp2, hah, hp1, List.length_range]
            exact List.drop_eq_nil_of_le (by rw [List.length_map, List.length_range]; exact Nat.le_refl _)
          subst z0
          refine iteF ⟨_, rfl, _, rfl, ?_⟩
          rw [wt]
          refine iteT ⟨_, rfl, by show 0 ≤ sizeLine; decide, fun n hn => ⟨Z, n, _, rfl, rfl, keepH hZ8 hn, upd_same, _, rfl, iteT ?_⟩⟩
          have sn := sameU (u := .lst []) hn
          refine ⟨_, rfl, _, rfl, t0, _, _, _, rfl, rfl, SqT.of (sn _ _ ht0), at0, pd, pd, pd1 _ _ (sn _ _ hD8), pd1 _ _ (sn _ _ hR0), pd2, pd2, ?_⟩
          rw [pd3]
          exact done _ sn
      -- rows
      obtain ⟨pre, l2, el, hpre, hmid, hl2⟩ := G.sp
      have hp1 : (List.range l.length).filter (fun i => decide (enD l i ≤ j)) = List.range pre.length := range_pre (by rw [el, List.length_append, List.length_append]; omega) _ (fun i hi => by
          obtain ⟨qq, hq, e1⟩ := en_pre (l' := l1 ++ l2) hi
          rw [el, List.append_assoc, e1]
          exact decide_eq_true (hpre qq hq)) (fun i h1 h2 => by
          rw [el, List.append_assoc] at h2
          obtain ⟨qq, hq, e1⟩ := en_suf h1 h2
          rw [el, List.append_assoc, e1]
          refine decide_eq_false ?_
          rcases List.mem_append.mp hq with z | z
          · have := (hmid qq z).1; omega
          · have := hl2 qq z; omega)
      have hp2 : (List.range l.length).filter (fun i => decide (enD l i ≤ j + m)) = List.range (pre ++ l1).length := range_pre (by rw [el, List.length_append (as := pre ++ l1)]; omega) _ (fun i hi => by
          obtain ⟨qq, hq, e1⟩ := en_pre (l' := l2) hi
          rw [el, e1]
          refine decide_eq_true ?_
          rcases List.mem_append.mp hq with z | z
          · have := hpre qq z; omega
          · exact (hmid qq z).2) (fun i h1 h2 => by
          rw [el] at h2
          obtain ⟨qq, hq, e1⟩ := en_suf h1 h2
          rw [el, e1]
          exact decide_eq_false (by have := hl2 qq hq; omega))
      have hlz : ∃ Zs : List Addr, zs = Zs.map V.ref ∧ Zs.length = l1.length ∧ ∀ (i : Nat) z bs, Zs[i]? = some z → (l1.map (·.1))[i]? = some bs → rm [x, L, S, HL] H z = some (.lst (natV bs)) := by
        refine ⟨((List.range (pre ++ l1).length).map fun i => Rs.getD i 0).drop pre.length, ?_, ?_, fun i z bs h1 h2 => ?_⟩
        · rw [hzs, hp2, hah, hp1, List.length_range, List.map_drop, List.map_map]
          rfl
        · rw [List.length_drop, List.length_map, List.length_range, List.length_append]
          omega
        · rw [List.getElem?_drop, List.getElem?_map] at h1
          obtain ⟨n, hn, rfl⟩ := Option.map_eq_some_iff.mp h1
          have hlt : pre.length + i < (pre ++ l1).length := by
            have := (List.getElem?_eq_some_iff.mp hn).1
            rwa [List.length_range] at this
          rw [List.getElem?_range hlt] at hn
          obtain rfl := Option.some.inj hn
          have hll : pre.length + i < l.length := by rw [el, List.length_append]; omega
          have hR1 : Rs[pre.length + i]? = some (Rs.getD (pre.length + i) 0) := by rw [List.getD_eq_getElem?_getD, List.getElem?_eq_getElem (by omega)]; rfl
          have ht1 : ts[pre.length + i]? = some (ts[pre.length + i]'(by omega)) := List.getElem?_eq_getElem _
          rw [List.getElem?_map] at h2
          obtain ⟨qq, hq, rfl⟩ := Option.map_eq_some_iff.mp h2
          have hl1' : l[pre.length + i]? = some qq := by
            rw [el, List.append_assoc, List.getElem?_append_right (by omega), show pre.length + i - pre.length = i by omega, List.getElem?_append_left (by have := (List.getElem?_eq_some_iff.mp hq).1; omega)]
            exact hq
          exact (hrow _ _ _ _ ht1 hR1 hl1').2
      obtain ⟨Zs, rfl, hZl, hZc⟩ := hlz
      refine iteF ?_
      refine ⟨_, rfl, _, rfl, ?_⟩
      cases hwr : wrongB xx (j + m) with
      | false => exact iteF ⟨rfl, Rr, rs, l1, Zs, Same.refl _, G, rfl, hZl, hZc⟩
      | true =>
        refine iteT ⟨_, rfl, by show 0 ≤ sizeLine; decide, fun n hn => ⟨Z, n, _, rfl, rfl, keepH hZ8 hn, upd_same, _, rfl, ?_⟩⟩
        have ne : (Zs.map V.ref).isEmpty = false := by
          cases Zs with
          | nil => exact absurd (hl1 (List.length_eq_zero_iff.mp hZl.symm)) (by rw [hwr]; exact Bool.noConfusion)
          | cons z zr => rfl
        rw [ne]
        exact iteF ⟨rfl, Rr, rs, l1, Zs, sameU hn, G, rfl, hZl, hZc⟩
    rintro σ' H9 ⟨rfl, Rr, rs, l1, Zs, s9, G, rfl, hZl, hZc⟩
    obtain ⟨ZD, ZR, Zrs⟩ := hZn Rr rs l1 G
    -- what was told is what is due
    refine ⟨_, rfl, _, rfl, by show 1 ≤ sizeLine; decide, fun n hn => ?_⟩
    have sn := s9.trans (sameU (u := .lst [.ref Z]) hn)
    have hn10 : (upd H9 n (.lst [.ref Z])) n = some (.lst [.ref Z]) := upd_same
    revert sn hn10
    generalize upd H9 n (.lst [.ref Z]) = H10
    intro sn hn10
    have M10 := M8.same sn
    have G10 := G.same sn
    have hZ10 := sn _ _ hZ8
    have st10 := st8.trans sn
    have hS10 := sn _ _ hS8
    refine ⟨.list [.list ((l1.map (·.1)).map rowD)], .list [.list ((l1.map (·.1)).map rowD)], .lst (SqL.of G10.hD) (.cons (.lst (SqL.of G10.t.2.1) (dats_rows rs _ G10.t.2.2.1 G10.t.2.2.2.2.2.2)) .nil), .lst (SqL.of hn10) (.cons (.lst (SqL.of hZ10) (dats_rows Zs _ (by rw [hZl, List.length_map]) fun i z bs h1 h2 => st10 _ _ (hZc i z bs h1 h2))) .nil), shp (told_lay _) (told_dep _), shp (told_lay _) (told_dep _), _, rfl, ?_⟩
    rw [SeqAt.eqv_refl _ (told_lay _)]
    refine iteF ?_
    clear hn10 hn
    have len400 : ∀ bs ∈ l1.map (·.1), bs.length ≤ 400 := fun bs hbs => by
      obtain ⟨qq, hq, rfl⟩ := List.mem_map.mp hbs
      obtain ⟨pre, l2, el, _⟩ := G.sp
      exact Nat.le_trans (hCh.ends hB (Nat.zero_le _) qq (by rw [el]; exact List.mem_append_left _ (List.mem_append_right _ hq))).2.2.2 h4
    have l1400 : l1.length ≤ 400 := by
      obtain ⟨pre, l2, el, _⟩ := G.sp
      rw [el, List.length_append, List.length_append] at l400
      omega
    obtain ⟨t1, t2, t3, t4, t5, t6, t7⟩ := G10.t
    -- a 1 behind each row
    refine ⟨fun σ' H' => ∃ v14, σ' = [some (.ref x), some (.ref W), some (.ref DU), some (.ref S), some (.int c), some (.ref HL), some (.ref F), some vw, some (.int (ah : Int)), some (.bl kn), some (.ref Y), some (.ref D), some (.ref Z), some (.bl (wrongB xx (j + m))), v14] ∧ (∀ b o, b ∉ rs → H10 b = some o → H' b = some o) ∧ ∀ (k : Nat) r bs, rs[k]? = some r → (l1.map (·.1))[k]? = some bs → H' r = some (.lst (natV (bs ++ [1]))), ?_, ?_⟩
    · refine ⟨_, rfl, D, _, _, _, rfl, rfl, SqL.of G10.hD, at0, Rr, rfl, ⟨_, SqL.of t2⟩, for_list (xs := rs.map V.ref) (fun i σ' H' => ∃ v14, σ' = [some (.ref x), some (.ref W), some (.ref DU), some (.ref S), some (.int c), some (.ref HL), some (.ref F), some vw, some (.int (ah : Int)), some (.bl kn), some (.ref Y), some (.ref D), some (.ref Z), some (.bl (wrongB xx (j + m))), v14] ∧ (∀ b o, b ∉ rs → H10 b = some o → H' b = some o) ∧ ∀ (k : Nat) r bs, rs[k]? = some r → (l1.map (·.1))[k]? = some bs → H' r = some (.lst (natV (if k < i then bs ++ [1] else bs))))
        ⟨_, rfl, fun b o _ e => e, fun k r bs h1 h2 => by rw [if_neg (Nat.not_lt_zero _)]; exact t7 k r bs h1 h2⟩ (fun i σ' H' _ h => ?_) (fun i v σ' H' hv h => ?_) (fun σ' H' h => ?_)⟩
      · obtain ⟨_, _, k1, _⟩ := h
        exact SqL.of (k1 _ _ t5 t2)
      · obtain ⟨v14, rfl, k1, k2⟩ := h
        rw [List.getElem?_map] at hv
        obtain ⟨r, hr', rfl⟩ := Option.map_eq_some_iff.mp hv
        have hi : i < rs.length := (List.getElem?_eq_some_iff.mp hr').1
        have hb1 : (l1.map (·.1))[i]? = some ((l1.map (·.1))[i]'(by omega)) := List.getElem?_eq_getElem _
        have hri := k2 i r _ hr' hb1
        rw [if_neg (Nat.lt_irrefl _)] at hri
        refine ⟨_, rfl, .inl ⟨rfl, _, SqL.of hri⟩, r, _, _, rfl, rfl, hri, small1000 (by rw [natV_len]; exact Nat.le_trans (len400 _ (List.getElem_mem _)) (by decide)), _, rfl, fun b o nb e => ?_, fun k r' bs' g1 g2 => ?_⟩
        · have nb2 : b ≠ r := fun z => nb (by rw [z]; exact List.mem_of_getElem? hr')
          rw [upd_ne nb2]
          exact k1 b o nb e
        · by_cases hki : k = i
          · subst hki
            rw [hr'] at g1
            cases g1
            rw [hb1] at g2
            cases g2
            rw [upd_same, if_pos (Nat.lt_succ_self _)]
            exact congrArg (fun z => some (HO.lst z)) (natV_snoc _ 1)
          · have hne : r' ≠ r := fun z => hki (nodup_at t4 (z ▸ g1) hr')
            rw [upd_ne hne, k2 k r' bs' g1 g2]
            by_cases hlt : k < i
            · rw [if_pos hlt, if_pos (by omega)]
            · rw [if_neg hlt, if_neg (by omega)]
      · obtain ⟨v14, e, k1, k2⟩ := h
        refine ⟨v14, e, k1, fun k r bs g1 g2 => ?_⟩
        have := k2 k r bs g1 g2
        rw [List.length_map, if_pos (List.getElem?_eq_some_iff.mp g1).1] at this
        exact this
    rintro σ' H11 ⟨v14, rfl, k11, c11⟩
    have hD11 := k11 _ _ G10.nD.2 G10.hD
    have hR11 := k11 _ _ t5 t2
    refine ⟨_, rfl, D, _, _, _, rfl, rfl, SqL.of hD11, at0, .inl ⟨rfl, _, SqL.of hR11⟩, Rr, _, _, rfl, rfl, hR11, small1000 (by rw [List.length_map, t3, List.length_map]; omega), ?_⟩
    -- the heap behind: all but the rows told and their list is as it was
    have k12 : ∀ b o, b ∉ rs → b ≠ Rr → H10 b = some o → (upd H11 Rr (.lst (rs.map V.ref ++ [.int 2]))) b = some o := fun b o n1 n2 e => by
      rw [upd_ne n2]
      exact k11 b o n1 e
    have r12 : ∀ (k : Nat) r bs, rs[k]? = some r → (l1.map (·.1))[k]? = some bs → (upd H11 Rr (.lst (rs.map V.ref ++ [.int 2]))) r = some (.lst (natV (bs ++ [1]))) := fun k r bs g1 g2 => by
      have nr : r ≠ Rr := fun z => t5 (by rw [← z]; exact List.mem_of_getElem? g1)
      rw [upd_ne nr]
      exact c11 k r bs g1 g2
    have R12 : (upd H11 Rr (.lst (rs.map V.ref ++ [.int 2]))) Rr = some (.lst (rs.map V.ref ++ [.int 2])) := upd_same
    revert k12 r12 R12
    generalize upd H11 Rr (.lst (rs.map V.ref ++ [.int 2])) = H12
    intro k12 r12 R12
    clear k11 c11 hD11 hR11
    have rsH : ∀ b, b ∈ rs → H b = none := t6
    have old12 : ∀ b o, H10 b = some o → (∃ u, H b = some u) → H12 b = some o := fun b o e ⟨u, hu'⟩ => k12 b o (fun z => by rw [rsH b z] at hu'; cases hu') (fun z => by rw [z, t1] at hu'; cases hu') e
    have sx12 : SameX [x, L, S, HL] H H12 := fun b o nb e => old12 b o (M10.sx b o nb e) ⟨o, e⟩
    have st12 : Same (rm [x, L, S, HL] H) H12 := sx12.st
    have hHL12 : H12 HL = some (.lst hs) := old12 _ _ M10.hl ⟨_, hHL⟩
    have hS12 := old12 _ _ hS10 ⟨_, hS⟩
    have hZ12 : H12 Z = some (.lst (Zs.map V.ref)) := k12 _ _ Zrs ZR hZ10
    have hD12 : H12 D = some (.lst [.ref Rr]) := k12 _ _ G10.nD.2 G10.nD.1 G10.hD
    obtain ⟨fsx, hx10⟩ := M10.box.ins
    have hx12 : H12 x = some (.ins a.Frames dx fsx) := by
      obtain ⟨_, hx, _⟩ := hxS
      exact old12 _ _ hx10 ⟨_, hx⟩
    obtain ⟨lo10, hL10⟩ := M10.Lo
    have hL12 : H12 L = some (.lst lo10) := old12 _ _ hL10 ⟨_, hLlo⟩
    have box12 : BoxS a.Frames w l xx H12 x dx L' (j + m) (wrongB xx (j + m)) := M10.box.keep fun b o hb e => by
      rcases hb with rfl | rfl
      · obtain ⟨_, hx, _⟩ := hxS
        exact old12 _ _ e ⟨_, hx⟩
      · exact k12 _ _ G10.nL.2 G10.nL.1 e
    have free12 : ∀ b, H12 b = none → H b = none := fun b hb => sx12.free (by
      simp only [List.mem_cons, List.not_mem_nil, or_false, not_or]
      exact ⟨fun z => (by rw [z, hx12] at hb; cases hb), fun z => (by rw [z, hL12] at hb; cases hb), fun z => (by rw [z, hS12] at hb; cases hb), fun z => (by rw [z, hHL12] at hb; cases hb)⟩) hb
    have lenZ : (Zs.map V.ref).length = l1.length := by rw [List.length_map, hZl]
    refine ⟨_, rfl, .inl ⟨rfl, _, SqL.of hHL12⟩, _, rfl, _, rfl, Z, rfl, ⟨_, SqL.of hZ12⟩, comp_fr (Wk.list (SqL.of hZ12)) (by rw [lenZ]; omega) (fun i H v => ∀ bs, (l1.map (·.1))[i]? = some bs → DatV K H v (rowD (bs ++ [1]))) (fun i H H' v s h bs hb => datV_same s (h bs hb)) (fun i v hv H13 Rk s13 hRk => ?_) (fun B0 H13 ys hB0 s13 eB hly hys => ?_)⟩
    · rw [List.getElem?_map] at hv
      obtain ⟨z, hz, rfl⟩ := Option.map_eq_some_iff.mp hv
      have hi : i < l1.length := by have := (List.getElem?_eq_some_iff.mp hz).1; omega
      have hb1 : (l1.map (·.1))[i]? = some ((l1.map (·.1))[i]'(by rw [List.length_map]; exact hi)) := List.getElem?_eq_getElem _
      have hz13 := s13 _ _ (st12 _ _ (hZc i z _ hz hb1))
      refine ⟨Sub.set rfl, _, rfl, by show 1 ≤ sizeLine; decide, fun n1 hn1 => ?_⟩
      have sn1 := sameU (u := .lst [.int 1]) hn1
      refine ⟨z, n1, _, _, rfl, rfl, sn1 _ _ hz13, upd_same, ?_, fun p hp => ?_⟩
      · rw [natV_len]
        have := len400 _ (List.getElem_mem (l := l1.map (·.1)) (n := i) (by rw [List.length_map]; exact hi))
        exact small (by show _ + 1 ≤ _; omega)
      · refine hRk (.ref p) _ (sn1.trans (sameU hp)) fun bs hbs => ?_
        rw [hb1] at hbs
        cases hbs
        refine dat_row (fr_at (sn1.free hp) ?_)
        rw [upd_same]
        exact congrArg (fun z => some (HO.lst z)) (natV_snoc _ 1)
    · refine ⟨by show 1 ≤ sizeLine; decide, fun n3 hn3 => ⟨B0, n3, _, _, rfl, rfl, keepH eB hn3, upd_same, ?_, fun B hB' => ⟨by show 2 ≤ sizeLine; decide, fun u hu' => ?_⟩⟩⟩
      · rw [hly, lenZ]
        exact small (by show _ + 1 ≤ _; omega)
      have s14 := s13.trans (sameU (u := .lst [.int 2]) hn3)
      have s15 := sameU (u := .lst (ys ++ [.int 2])) hB'
      have s16 := sameU (u := .tup [.ref D, .ref B]) hu'
      have sA : Same H12 (upd (upd (upd H13 n3 (.lst [.int 2])) B (.lst (ys ++ [.int 2]))) u (.tup [.ref D, .ref B])) := (s14.trans s15).trans s16
      have sB : Same H13 (upd (upd (upd H13 n3 (.lst [.int 2])) B (.lst (ys ++ [.int 2]))) u (.tup [.ref D, .ref B])) := ((sameU hn3).trans s15).trans s16
      have eB16 : (upd (upd (upd H13 n3 (.lst [.int 2])) B (.lst (ys ++ [.int 2]))) u (.tup [.ref D, .ref B])) B = some (.lst (ys ++ [.int 2])) := s16 _ _ upd_same
      have eu16 : (upd (upd (upd H13 n3 (.lst [.int 2])) B (.lst (ys ++ [.int 2]))) u (.tup [.ref D, .ref B])) u = some (.tup [.ref D, .ref B]) := upd_same
      have B12 : H12 B = none := s14.free hB'
      have u12 : H12 u = none := (s14.trans s15).free hu'
      revert sA sB eB16 eu16
      generalize upd (upd (upd H13 n3 (.lst [.int 2])) B (.lst (ys ++ [.int 2]))) u (.tup [.ref D, .ref B]) = H16
      intro sA sB eB16 eu16
      refine ⟨HL, _, _, rfl, rfl, sA _ _ hHL12, small1000 (Nat.le_trans hhs (by decide)), ?_⟩
      obtain ⟨lo12, hL'12⟩ := box12.1
      have HSn : S ≠ HL := fun z => by rw [z, hHL12] at hS12; cases hS12
      have HxH : x ≠ HL := lst_ne hx12 hHL12
      refine q L' m (hs ++ [.ref u]) _ hjm hcm ((sx12.trans (SameX.of sA)).put (.inl (by simp))) M10.LL (by rw [upd_ne HSn]; exact sA _ _ hS12) ((box12.same sA).keep fun b o hb e => ?_) upd_same (.inr ⟨u, rfl, ?_⟩)
      · rw [upd_ne (by rcases hb with rfl | rfl; exact HxH; exact M10.LH)]
        exact e
      have at_ : ∀ b o, H b = none → b ≠ L' → H16 b = some o → rm [L'] (fr H (upd H16 HL (.lst (hs ++ [.ref u])))) b = some o := fun b o h1 h2 e => rm_at (by simpa using h2) (fr_at h1 (by rw [upd_ne (fun z => by rw [z, hHL] at h1; cases h1)]; exact e))
      have neL : ∀ b, H12 b = none → b ≠ L' := fun b hb z => by rw [z, hL'12] at hb; cases hb
      refine ⟨D, B, heldD (l1.map (·.1)), at_ _ _ (free12 _ u12) (neL _ u12) eu16, .lst (SqL.of (at_ _ _ M10.D0 (Ne.symm M10.LD) (sA _ _ hD12))) (.cons (.lst (SqL.of (at_ _ _ t1 (Ne.symm G10.nL.1) (sA _ _ R12))) (dats_app ?_ (.cons (.int 2) .nil))) .nil), .lst (SqL.of (at_ _ _ (free12 _ B12) (neL _ B12) eB16)) (dats_app ?_ (.cons (.int 2) .nil)), shp (held_lay _) (held_dep _), SeqAt.eqv_refl _ (held_lay _)⟩
      · rw [show ((l1.map (·.1)).map fun bs => rowD (bs ++ [1])) = ((l1.map (·.1)).map (· ++ [1])).map rowD by simp only [List.map_map, Function.comp_def]]
        refine dats_rows rs _ (by rw [List.length_map]; exact t3) fun i r bs g1 g2 => ?_
        rw [List.getElem?_map] at g2
        obtain ⟨bs0, h0, rfl⟩ := Option.map_eq_some_iff.mp g2
        have hm := List.mem_of_getElem? g1
        exact at_ _ _ (t6 r hm) (fun z => G10.nL.2 (z ▸ hm)) (sA _ _ (r12 i r bs0 g1 h0))
      · refine dats_at ys _ (by rw [hly, lenZ, List.length_map, List.length_map]) fun i y d g1 g2 => ?_
        rw [List.getElem?_map] at g2
        obtain ⟨bs0, h0, rfl⟩ := Option.map_eq_some_iff.mp g2
        refine datV_same (fun b o e => ?_) (hys i y g1 bs0 h0)
        obtain ⟨_, e⟩ := rm_some e
        obtain ⟨e1, e2⟩ := fr_some e
        exact at_ _ _ (free12 _ e1) (neL _ e1) (sB _ _ e2)
end
end K6

namespace K6
open PySem L2
seal L2.PE L2.PS L2.PSs L2.PA L2.PT L2.PW L2.PG L2.PGs L2.PI L2.PO
/-! ### two boxes -/
theorem rm_sub {S S' : List Addr} {H : Hp} (h : ∀ b ∈ S', b ∈ S) : Same (rm S H) (rm S' H) := fun b o e => rm_at (fun z => (rm_some e).1 (h b z)) (rm_some e).2
theorem rm_of {M : List Addr} {H0 H : Hp} (s : Same H0 H) (h : ∀ b ∈ M, H0 b = none) : Same H0 (rm M H) := fun b o e => rm_at (fun z => by rw [h b z] at e; cases e) (s b o e)
theorem rd_lt {bs : List Int} {at0 : Nat} : ∀ (f p : Nat) (n s q : Int) (y : Str), rd bs at0 f p n s = .wire q y → y = "cut" ∨ q < ((p + f : Nat) : Int)
  | 0, p, n, s, q, y, h => by rw [rd] at h; injection h with h1 h2; exact .inl h2.symm
  | f + 1, p, n, s, q, y, h => by
    rw [rd] at h
    split at h
    · injection h with h1 h2
      exact .inr (by omega)
    · split at h
      · cases h
      · rcases rd_lt f (p + 1) _ _ q y h with e | e
        · exact .inl e
        · exact .inr (by omega)
theorem next_badle {w : List Nat} (hB : ∀ b ∈ w, b < 256) {p : Nat} (hp : p ≤ w.length) {o : O5} {e : Nat} (h : nextF w p = .bad o e) : e ≤ w.length := by
  unfold nextF at h
  cases e0 : rd (intsN w) p (w.length - p) p 0 1 with
  | wire q y =>
    rw [e0] at h
    change (if _ then N6.none else N6.bad _ _) = _ at h
    obtain ⟨q', rfl, h1, h2, h3⟩ := rd_at _ _ _ _ _ _ e0
    split at h
    · cases h
    · rename_i hn
      injection h with h5 h6
      rcases rd_lt _ _ _ _ _ _ e0 with k | k
      · have := h3 k
        exact absurd ⟨by omega, k⟩ hn
      · omega
  | num m e =>
    obtain ⟨m', e', rfl, rfl, h3, h4⟩ := rd_nat hB _ _ _ _ _ _ (by decide) (by decide) e0
    rw [e0] at h
    change fin6 w p m' e' = _ at h
    unfold fin6 at h
    split at h
    · injection h with h5 h6
      omega
    · split at h
      · cases h
      · split at h
        · cases h
        · injection h with h5 h6
          omega
theorem Ch.badle {w : List Nat} (hB : ∀ b ∈ w, b < 256) {p : Nat} {l : List (List Nat × Nat)} {x : N6} {o : O5} {e : Nat} (c : Ch w p l x) (hx : x = .bad o e) : p ≤ w.length → e ≤ w.length := by
  induction c with
  | stop h n => intro hp; exact next_badle hB hp (h.trans hx)
  | @more p r e1 l x h t ih => intro hp; exact ih hx (next_row hB hp h).2.1
/-- the heap has both boxes, what the law knows of each, and what is held -/
structure Two (K : PySem.W.Frag) (C : Addr) (w : List Nat) (l : List (List Nat × Nat)) (xx : N6) (St : Hp → Prop) (HL : Addr) (n : Nat) (H : Hp) (x dx L S : Addr) (j : Nat) (x' dx' L' S' : Addr) (j' : Nat) : Prop where
  st : St (rm [x, L, S, x', L', S', HL] H)
  s1 : H S = some (.dK (StD (j : Int) (wrongB xx j)))
  s2 : H S' = some (.dK (StD (j' : Int) (wrongB xx j')))
  j1 : j ≤ w.length
  j2 : j' ≤ w.length
  b1 : BoxS C w l xx H x dx L j (wrongB xx j)
  b2 : BoxS C w l xx H x' dx' L' j' (wrongB xx j')
  hl : ∃ hs, H HL = some (.lst hs) ∧ hs.length ≤ n ∧ ∀ v ∈ hs, ∃ u, v = .ref u ∧ PairOk K (rm [x, L, S, x', L', S', HL] H) u
  nx : x ≠ x'
  nS : S ≠ S'
  nL : L ≠ L'
  n1 : L ≠ HL
  n2 : L' ≠ HL
theorem BoxS.insF {C : Addr} {w : List Nat} {l : List (List Nat × Nat)} {xx : N6} {H : Hp} {x dx L : Addr} {j : Nat} {kn : Bool} (h : BoxS C w l xx H x dx L j kn) : ∃ (L0 : Addr) (st be sz pl : Int) (why : Str), H x = some (.ins C dx (BxF L0 st be sz pl why)) := by
  rcases h.2 with ⟨_, pre, l', p, be, sz, pl, _, _, _, _, _, hx, _⟩ | ⟨_, o, e, st, be, sz, pl, why, _, _, _, hx⟩
  · exact ⟨_, _, _, _, _, _, hx⟩
  · exact ⟨_, _, _, _, _, _, hx⟩
theorem BoxS.kept {C : Addr} {w : List Nat} {l : List (List Nat × Nat)} {xx : N6} {H H' : Hp} {x dx L : Addr} {j : Nat} {kn : Bool} (s1 : ∀ o, H x = some o → H' x = some o) (s2 : ∀ o, H L = some o → H' L = some o) (h : BoxS C w l xx H x dx L j kn) : BoxS C w l xx H' x dx L j kn := by
  obtain ⟨⟨lo, h0⟩, h⟩ := h
  refine ⟨⟨lo, s2 _ h0⟩, ?_⟩
  rcases h with ⟨e, pre, l', p, be, sz, pl, a, b, lp, c, d, f, g⟩ | ⟨e, o, e', st, be, sz, pl, why, a, b, c, d⟩
  · exact .inl ⟨e, pre, l', p, be, sz, pl, a, b, lp, c, d, s1 _ f, s2 _ g⟩
  · exact .inr ⟨e, o, e', st, be, sz, pl, why, a, b, c, s1 _ d⟩
section
variable {K : PySem.W.Frag} {C : Addr} {w : List Nat} {l : List (List Nat × Nat)} {xx : N6} {St : Hp → Prop} {HL : Addr} {n : Nat} {H H' : Hp} {x dx L S x' dx' L' S' : Addr} {j j' : Nat}
theorem perm7 {a1 a2 a3 b1 b2 b3 c b : Addr} (h : b ∈ [a1, a2, a3, b1, b2, b3, c]) : b ∈ [b1, b2, b3, a1, a2, a3, c] := by
  simp only [List.mem_cons, List.not_mem_nil, or_false] at h ⊢
  rcases h with h | h | h | h | h | h | h <;> simp [h]
theorem Two.swap (hs : ∀ {H H' : Hp}, Same H H' → St H → St H') (T : Two K C w l xx St HL n H x dx L S j x' dx' L' S' j') : Two K C w l xx St HL n H x' dx' L' S' j' x dx L S j where
  st := hs (rm_sub fun b hb => perm7 hb) T.st
  s1 := T.s2
  s2 := T.s1
  j1 := T.j2
  j2 := T.j1
  b1 := T.b2
  b2 := T.b1
  hl := let ⟨hs, h1, h2, h3⟩ := T.hl; ⟨hs, h1, h2, fun v hv => let ⟨u, e, p⟩ := h3 v hv; ⟨u, e, p.same (rm_sub fun b hb => perm7 hb)⟩⟩
  nx := T.nx.symm
  nS := T.nS.symm
  nL := T.nL.symm
  n1 := T.n2
  n2 := T.n1
theorem Two.same (hs : ∀ {H H' : Hp}, Same H H' → St H → St H') (s : Same H H') (T : Two K C w l xx St HL n H x dx L S j x' dx' L' S' j') : Two K C w l xx St HL n H' x dx L S j x' dx' L' S' j' where
  st := hs (rm_same s) T.st
  s1 := s _ _ T.s1
  s2 := s _ _ T.s2
  j1 := T.j1
  j2 := T.j2
  b1 := T.b1.same s
  b2 := T.b2.same s
  hl := let ⟨hs, h1, h2, h3⟩ := T.hl; ⟨hs, s _ _ h1, h2, fun v hv => let ⟨u, e, p⟩ := h3 v hv; ⟨u, e, p.same (rm_same s)⟩⟩
  nx := T.nx
  nS := T.nS
  nL := T.nL
  n1 := T.n1
  n2 := T.n2
theorem Two.more (T : Two K C w l xx St HL n H x dx L S j x' dx' L' S' j') {m : Nat} (h : n ≤ m) : Two K C w l xx St HL m H x dx L S j x' dx' L' S' j' :=
  { T with hl := let ⟨hs, h1, h2, h3⟩ := T.hl; ⟨hs, h1, Nat.le_trans h2 h, h3⟩ }
theorem Two.put {St' : Hp → Prop} (f : ∀ H, St H → St' H) (T : Two K C w l xx St HL n H x dx L S j x' dx' L' S' j') : Two K C w l xx St' HL n H x dx L S j x' dx' L' S' j' :=
  { T with st := f _ T.st }
/-- what stands in the heap of both is none of what moves -/
theorem Two.out {b : Addr} (T : Two K C w l xx St HL n H x dx L S j x' dx' L' S' j') (h : H b = none) : b ∉ [x, L, S, x', L', S', HL] := by
  obtain ⟨_, _, _, _, _, _, hx⟩ := T.b1.insF
  obtain ⟨_, _, _, _, _, _, hx'⟩ := T.b2.insF
  obtain ⟨_, hL⟩ := T.b1.1
  obtain ⟨_, hL'⟩ := T.b2.1
  obtain ⟨_, hH, _⟩ := T.hl
  simp only [List.mem_cons, List.not_mem_nil, or_false, not_or]
  exact ⟨(fun z => by rw [z, hx] at h; cases h), (fun z => by rw [z, hL] at h; cases h), (fun z => by rw [z, T.s1] at h; cases h), (fun z => by rw [z, hx'] at h; cases h), (fun z => by rw [z, hL'] at h; cases h), (fun z => by rw [z, T.s2] at h; cases h), (fun z => by rw [z, hH] at h; cases h)⟩
theorem Two.step (hst : ∀ {H H' : Hp}, Same H H' → St H → St H') (T : Two K C w l xx St HL n H x dx L S j x' dx' L' S' j') {L2 : Addr} {m : Nat} {hs hs' : List V} (hj : j + m ≤ w.length) (sx : SameX [x, L, S, HL] H H') (hL : L2 = L ∨ H L2 = none) (hS : H' S = some (.dK (StD ((j + m : Nat) : Int) (wrongB xx (j + m)))))
    (hb : BoxS C w l xx H' x dx L2 (j + m) (wrongB xx (j + m))) (h0 : H HL = some (.lst hs)) (hH : H' HL = some (.lst hs')) (hh : hs' = hs ∨ ∃ u, hs' = hs ++ [.ref u] ∧ PairOk K (rm [L2] (fr H H')) u) : Two K C w l xx St HL (n + 1) H' x dx L2 S (j + m) x' dx' L' S' j' := by
  obtain ⟨_, _, _, _, _, _, ex⟩ := T.b1.insF
  obtain ⟨_, _, _, _, _, _, ex'⟩ := T.b2.insF
  obtain ⟨_, eL⟩ := T.b1.1
  obtain ⟨_, eL'⟩ := T.b2.1
  obtain ⟨hs0, eH, h2, h3⟩ := T.hl
  rw [h0] at eH
  cases eH
  have k : ∀ b, b ≠ x → b ≠ L → b ≠ S → b ≠ HL → ∀ o, H b = some o → H' b = some o := fun b a1 a2 a3 a4 o e => sx b o (by simp only [List.mem_cons, List.not_mem_nil, or_false, not_or]; exact ⟨a1, a2, a3, a4⟩) e
  have dif : ∀ {a b : Addr} {u v : HO}, H a = some u → H b = some v → (u = v → False) → a ≠ b := fun {a b u v} e1 e2 n z => n (by rw [z, e2] at e1; exact (Option.some.inj e1).symm)
  have kx' := k x' (Ne.symm T.nx) (dif ex' eL (by intro z; cases z)) (dif ex' T.s1 (by intro z; cases z)) (dif ex' h0 (by intro z; cases z))
  have kL' := k L' (dif eL' ex (by intro z; cases z)) (Ne.symm T.nL) (dif eL' T.s1 (by intro z; cases z)) T.n2
  have kS' := k S' (dif T.s2 ex (by intro z; cases z)) (dif T.s2 eL (by intro z; cases z)) (Ne.symm T.nS) (dif T.s2 h0 (by intro z; cases z))
  have sM : Same (rm [x, L, S, x', L', S', HL] H) (rm [x, L2, S, x', L', S', HL] H') := fun b o e => by
    obtain ⟨nb, e⟩ := rm_some e
    have nb' := nb
    simp only [List.mem_cons, List.not_mem_nil, or_false, not_or] at nb
    obtain ⟨a1, a2, a3, a4, a5, a6, a7⟩ := nb
    refine rm_at ?_ (k b a1 a2 a3 a7 o e)
    simp only [List.mem_cons, List.not_mem_nil, or_false, not_or]
    refine ⟨a1, fun z => ?_, a3, a4, a5, a6, a7⟩
    rcases hL with hL | hL
    · exact a2 (z.trans hL)
    · rw [z, hL] at e; cases e
  have sN : Same (rm [L2] (fr H H')) (rm [x, L2, S, x', L', S', HL] H') := fun b o e => by
    obtain ⟨nb, e⟩ := rm_some e
    obtain ⟨e0, e⟩ := fr_some e
    have no := T.out e0
    simp only [List.mem_cons, List.not_mem_nil, or_false, not_or] at no nb
    obtain ⟨a1, a2, a3, a4, a5, a6, a7⟩ := no
    refine rm_at ?_ e
    simp only [List.mem_cons, List.not_mem_nil, or_false, not_or]
    exact ⟨a1, nb, a3, a4, a5, a6, a7⟩
  have nL2 : ∀ {b : Addr} {o : HO}, H b = some o → L ≠ b → L2 ≠ b := fun {b o} e n z => by
    rcases hL with hL | hL
    · exact n (hL.symm.trans z)
    · rw [z, e] at hL; cases hL
  refine ⟨hst sM T.st, hS, kS' _ T.s2, hj, T.j2, hb, T.b2.kept kx' kL', ⟨hs', hH, ?_, fun v hv => ?_⟩, T.nx, T.nS, nL2 eL' T.nL, nL2 h0 T.n1, T.n2⟩
  · rcases hh with rfl | ⟨u, rfl, _⟩
    · omega
    · rw [List.length_append]; simp; omega
  · rcases hh with rfl | ⟨u, rfl, pu⟩
    · obtain ⟨u, e, p⟩ := h3 v hv
      exact ⟨u, e, p.same sM⟩
    · rcases List.mem_append.mp hv with hv | hv
      · obtain ⟨u, e, p⟩ := h3 v hv
        exact ⟨u, e, p.same sM⟩
      · rw [List.mem_singleton.mp hv]
        exact ⟨u, rfl, pu.same sN⟩
/-- what stands -/
def Sta (w : List Nat) (l : List (List Nat × Nat)) (xx : N6) (W DU F BX SX b0 b1 s0 s1 : Addr) (vw : V) (fs : List V) (H : Hp) : Prop :=
  H W = some (.lst (natV w)) ∧ H DU = some (.tup [.ref F, vw]) ∧ H F = some (.lst fs) ∧ FdV H fs l ∧ NxV H xx vw ∧ H BX = some (.lst [.ref b0, .ref b1]) ∧ H SX = some (.lst [.ref s0, .ref s1])
theorem Sta.same {W DU F BX SX b0 b1 s0 s1 : Addr} {vw : V} {fs : List V} (s : Same H H') (h : Sta w l xx W DU F BX SX b0 b1 s0 s1 vw fs H) : Sta w l xx W DU F BX SX b0 b1 s0 s1 vw fs H' :=
  ⟨s _ _ h.1, s _ _ h.2.1, s _ _ h.2.2.1, h.2.2.2.1.same s, h.2.2.2.2.1.same s, s _ _ h.2.2.2.2.2.1, s _ _ h.2.2.2.2.2.2⟩
theorem Two.ask {W DU F BX SX b0 b1 s0 s1 : Addr} {vw : V} {fs : List V} {Q : VK} {E : XK} (hst : ∀ {H H' : Hp}, Same H H' → St H → St H') (hS : ∀ H, St H → Sta w l xx W DU F BX SX b0 b1 s0 s1 vw fs H) (T : Two K C w l xx St HL n H x dx L S j x' dx' L' S' j') (hB : ∀ b ∈ w, b < 256) (h4 : w.length ≤ 400) (hCh : Ch w 0 l xx) (hn : n ≤ 2000) {c : Int} (hc : 0 ≤ c)
    (q : ∀ (L2 : Addr) (m : Nat) (H' : Hp), j + m ≤ w.length → (c = 3 * (w.length : Int) + 2 → j + m = w.length) → Two K C w l xx St HL (n + 1) H' x dx L2 S (j + m) x' dx' L' S' j' → Q (.bl true) H') : sp_asked K C [.ref x, .ref W, .ref DU, .ref S, .int c, .ref HL] H Q E := by
  have sub : Same (rm [x, L, S, x', L', S', HL] H) (rm [x, L, S, HL] H) := rm_sub fun b hb => by
    simp only [List.mem_cons, List.not_mem_nil, or_false] at hb ⊢
    rcases hb with h | h | h | h <;> simp [h]
  obtain ⟨g1, g2, g3, g4, g5, _, _⟩ := (hS _ T.st).same sub
  obtain ⟨hs, h0, h2, h3⟩ := T.hl
  exact ⟨x, dx, L, W, DU, F, S, HL, vw, w, fs, hs, l, xx, j, wrongB xx j, c, rfl, g1, hB, h4, g2, g3, g4, g5, hCh, T.s1, T.j1, T.b1, h0, by omega, T.n1, hc, fun L2 m hs' H' a1 a2 a3 a4 a5 a6 a7 a8 => q L2 m H' a1 a2 (T.step hst a1 a3 a4 a5 a6 h0 a7 a8)⟩
end
end K6

namespace K6
open PySem L2
seal L2.PE L2.PS L2.PSs L2.PA L2.PT L2.PW L2.PG L2.PGs L2.PI L2.PO
/-! ### the end of a box -/
noncomputable def endL (w : List Nat) (l : List (List Nat × Nat)) (xx : N6) : List V := match xx with
  | .bad o _ => oV o
  | _ => if lastE 0 l = w.length then [.non] else [.str "wire", .int (w.length : Int), .str "cut", .bl false]
theorem lay_cut : PyData.canLay0 (.str "cut") = true := by decide +kernel
theorem lay_wire : PyData.canLay0 (.str "wire") = true := by decide +kernel
theorem cut_dat {K : PySem.W.Frag} (p : Int) : ∃ pd, (∀ H r, H r = some (.lst [V.str "wire", .int p, .str "cut", .bl false]) → DatV K H (.ref r) pd) ∧ SeqAt.shaped pd = true ∧ PyData.eqv pd pd = true := by
  have hl : (PyData.list [.str "wire", .int p, .str "cut", .bool false]).canLay0 = true := lay_list fun d hd => by
    simp only [List.mem_cons, List.not_mem_nil, or_false] at hd
    rcases hd with rfl | rfl | rfl | rfl
    · exact lay_wire
    · rfl
    · exact lay_cut
    · rfl
  exact ⟨.list [.str "wire", .int p, .str "cut", .bool false], fun H r h => .lst (SqL.of h) (.cons (.str _) (.cons (.int _) (.cons (.str _) (.cons (.bl _) .nil)))), shp hl (by simp [PyData.depth, PyData.depthAll]), SeqAt.eqv_refl _ hl⟩
theorem non_dat {K : PySem.W.Frag} : ∃ pd, (∀ H r, H r = some (.lst [V.non]) → DatV K H (.ref r) pd) ∧ SeqAt.shaped pd = true ∧ PyData.eqv pd pd = true :=
  ⟨.list [.none], fun H r h => .lst (SqL.of h) (.cons .non .nil), by decide +kernel, by decide +kernel⟩
theorem BoxS.tell {K : PySem.W.Frag} {C : Addr} {w : List Nat} (hB : ∀ b ∈ w, b < 256) (h4 : w.length ≤ 400) {l : List (List Nat × Nat)} {xx : N6} (hCh : Ch w 0 l xx) {H : Hp} {x dx L R : Addr} {Q : VK} {E : XK} (b : BoxS C w l xx H x dx L w.length (wrongB xx w.length)) (hR : H R = some (.lst (endL w l xx)))
    (q : ∀ D H', Same H H' → rNeD K (.ref D) (.ref R) H' (fun v H2 => v = .bl false ∧ H2 = H') → Q (.ref D) H') : sp_told K C [.ref x, .non] H Q E := by
  have fin : ∀ {ys : List V}, endL w l xx = ys → (∃ pd, (∀ H r, H r = some (.lst ys) → DatV K H (.ref r) pd) ∧ SeqAt.shaped pd = true ∧ PyData.eqv pd pd = true) → toldO H Q ys := fun {ys} e ⟨pd, h1, h2, h3⟩ D H' hD s hD' => by
    refine q D H' s ⟨pd, pd, h1 _ _ hD', h1 _ _ ?_, h2, h2, ?_, rfl⟩
    · rw [← e]; exact s _ _ hR
    · rw [h3]; rfl
  rcases b.2 with ⟨e, pre, l', p, be, sz, pl, el, hpre, hlp, hC', hBI, hx, hL⟩ | ⟨e, o, e', st, be, sz, pl, why, ex, he, ho, hx⟩
  · have hp : p ≤ w.length := hBI.1
    obtain ⟨u1, u2⟩ := hC'.und hB hp (hBI.und hB)
    have hl' : l' = [] := by
      cases l' with
      | nil => rfl
      | cons q0 r =>
        have a1 := u1 q0 (List.mem_cons_self ..)
        have a2 := (hC'.ends hB hp q0 (List.mem_cons_self ..)).2.1
        omega
    subst hl'
    rw [List.append_nil] at el
    subst el
    have hxx : xx = .none := by
      cases xx with
      | none => rfl
      | row r e1 => exact absurd rfl (hCh.nr r e1)
      | bad o e1 => have a1 := u2 o e1 rfl; have a2 := hCh.badle hB rfl (Nat.zero_le _); omega
    subst hxx
    have hlen : (seg w p w.length).length = w.length - p := seg_len (Nat.le_refl _)
    refine ⟨x, dx, L, p, be, sz, pl, "", .non, rfl, hx, .inr (.inr (.inr (.inl ⟨rfl, p, seg w p w.length, rfl, rfl, hL, by omega, ?_⟩)))⟩
    by_cases c : p = w.length
    · have e0 : endL w l .none = [.non] := by show (if _ then _ else _) = _; rw [if_pos (hlp.symm.trans c)]
      rw [if_pos (List.length_eq_zero_iff.mp (by omega))]
      intro D hD
      exact fin e0 non_dat D _ hD (sameU hD) upd_same
    · have e0 : endL w l .none = [.str "wire", .int ((p + (seg w p w.length).length : Nat) : Int), .str "cut", .bl false] := by
        show (if _ then _ else _) = _
        rw [if_neg (fun z => c (hlp.trans z)), show p + (seg w p w.length).length = w.length by omega]
      rw [if_neg (fun z => by rw [z] at hlen; simp at hlen; omega)]
      exact fin e0 (cut_dat _)
  · subst ex
    refine ⟨x, dx, L, st, be, sz, pl, why, .non, rfl, hx, .inr (.inr (.inr (.inr ⟨rfl, o, ho, fin rfl (oV_dat ho)⟩)))⟩
/-- where the rows end, and the last of these -/
theorem en_last {l : List (List Nat × Nat)} : atI (([V.int 0] : List V) ++ (List.range l.length).map fun i => V.int (enD l i : Int)) (-1) = some (.int (lastE 0 l : Int)) := by
  rcases List.eq_nil_or_concat l with rfl | ⟨l0, q, rfl⟩
  · decide +kernel
  · rw [List.concat_eq_append]
    rw [List.length_append, List.length_singleton, List.range_succ, List.map_append, ← List.append_assoc]
    show atI (_ ++ [V.int (enD (l0 ++ [q]) l0.length : Int)]) (-1) = _
    rw [atI_last, lastE_app]
    unfold enD
    rw [List.getD_eq_getElem?_getD, List.getElem?_append_right (Nat.le_refl _), Nat.sub_self]
    rfl
theorem wrong0 {w : List Nat} (hB : ∀ b ∈ w, b < 256) {l : List (List Nat × Nat)} {xx : N6} (hCh : Ch w 0 l xx) : wrongB xx 0 = false :=
  wrong_false (hCh.und hB (Nat.zero_le _) ((BI.new (w := w) (p := 0) (Nat.zero_le _) 0).und hB)).2
end K6

namespace K6
open PySem L2
seal L2.PE L2.PS L2.PSs L2.PA L2.PT L2.PW L2.PG L2.PGs L2.PI L2.PO
seal sp_asked sp_told
theorem st_new : mergeK [] [((.inr "at" : Key), V.int 0), (.inr "known", .bl false)] = StD 0 false := by kernel_rfl
theorem op_neDK {X : Cx} (K : PySem.W.Frag) (hK : X.K = K) (hu : X.A.units + 64 < cLine) : OpR X (compareOp CmpOp.NotEq) (rNeD K) := by
  subst hK
  exact op_neD hu
theorem ndOn : ((["_law_one"] : List Str) ++ ([] : List Str)).Nodup := by decide +kernel
theorem ndPa : ((["_law_pair"] : List Str) ++ ([] : List Str)).Nodup := by decide +kernel
theorem nn {H : Hp} {a b : Addr} {o : HO} (h : H a = some o) (k : H b = none) : a ≠ b := fun z => by rw [z, k] at h; cases h
/-- a box anew -/
theorem BoxS.new {C : Addr} {w : List Nat} {l : List (List Nat × Nat)} {xx : N6} (hCh : Ch w 0 l xx) {H : Hp} {x dx L : Addr} (h1 : H x = some (.ins C dx (BxF L 0 0 0 0 ""))) (h2 : H L = some (.lst [])) : BoxS C w l xx H x dx L 0 false :=
  ⟨⟨_, h2⟩, .inl ⟨rfl, [], l, 0, 0, 0, 0, rfl, fun q hq => (by cases hq), rfl, hCh, BI.new (Nat.zero_le _) 0, h1, by rw [seg_nil]; exact h2⟩⟩
section
variable {P : Program} {w : World} {K : PySem.W.Frag} {mg : Str → Option Value} {base : Heap} {a : Ad}
set_option maxHeartbeats 4000000 in
theorem ok_law (T : Tx K mg a) (R : Fr K a) : FnOk P w K mg base CX0 12 a.f_law a.d_law ["_law_script"] (spLaw K) := by
  have GM : FnOk P w K mg base CX0 1 a.f_mixed a.d_mixed ["_law_cell", "_law_k"] sp_mixed := ok_mixed T
  have GC : FnOk P w K mg base CX0 1 a.f_cell_at a.d_cell_at ["_law_script", "_law_k"] (sp_cell_at K) := ok_cell_at T
  have GW : FnOk P w K mg base CX0 3 a.f_wire a.d_wire ["_law_script"] (sp_wire K) := ok_wire T
  have GD : FnOk P w K mg base CX0 3 a.f_due a.d_due ["_law_wire_here"] sp_due6 := ok_due T
  have GF : FnOk P w K mg base CX0 1 a.f_Frames_init a.d_Frames_init ["self"] (sp_finit a.Frames) := ok_finit T R
  have GA : FnOk P w K mg base CX0 11 a.f_asked a.d_asked ["_law_box", "_law_wire_here", "_law_due_here", "_law_state", "_law_cell", "_law_held"] (sp_asked K a.Frames) := ok_asked T R
  have GT : FnOk P w K mg base CX0 9 a.f_told a.d_told ["_law_box", "_law_piece_here"] (sp_told K a.Frames) := ok_told T R
  refine T.d_law.F.ok sc_law (fun vs H Q E h => ?_) (fun cdv A outer s H vs Q E hr h => ?_)
  · obtain ⟨sa, ns, rfl, _⟩ := h
    rfl
  · obtain ⟨sa, ns, rfl, hsa, hns, hbit, q⟩ := h
    have hu := hr.units
    have hu1 : _ + 1 < cLine := hu_of hr
    refine ⟨_, pss_cons (ps_set (i := 1) sc_law.nd rfl (Or.inl rfl) (pe_call GW (hr.mono (by decide)) rfl T.d_wire.m T.d_wire.F.kp T.d_wire.b .nil pass0 (pa_cons (pv 0) pa_nil)))
      (pss_cons (ps_set (i := 2) sc_law.nd rfl (Or.inl rfl) (pe_call GD (hr.mono (by decide)) rfl T.d_due.m T.d_due.F.kp T.d_due.b .nil pass0 (pa_cons (pv 1) pa_nil)))
      (pss_cons (ps_set (i := 3) sc_law.nd rfl (Or.inl rfl) (pe_lst (pa_cons (pe_make0 ⟨R.mks, T.d_Frames_init.m, T.d_Frames_init.i, R.kp⟩ GF (hr.mono (by decide)) rfl T.m_Frames T.d_Frames_init.b .nil pass0) (pa_cons (pe_make0 ⟨R.mks, T.d_Frames_init.m, T.d_Frames_init.i, R.kp⟩ GF (hr.mono (by decide)) rfl T.m_Frames T.d_Frames_init.b .nil pass0) pa_nil))))
      (pss_cons (ps_set (i := 4) sc_law.nd rfl (Or.inl rfl) (pe_lst (pa_cons (pe_disp (pps_cons pe_str pe_int (pps_cons pe_str pe_bl pps_nil)) rfl rfl (by decide) (by decide)) (pa_cons (pe_disp (pps_cons pe_str pe_int (pps_cons pe_str pe_bl pps_nil)) rfl rfl (by decide) (by decide)) pa_nil))))
      (pss_cons (ps_set (i := 5) sc_law.nd rfl (Or.inl rfl) (pe_lst pa_nil))
      (pss_cut (ps_set (i := 6) sc_law.nd rfl (Or.inl rfl) (pe_call GM (hr.mono (by decide)) rfl T.d_mixed.m T.d_mixed.F.kp T.d_mixed.b .nil pass0 (pa_cons (pe_call GC (hr.mono (by decide)) rfl T.d_cell_at.m T.d_cell_at.F.kp T.d_cell_at.b .nil pass0 (pa_cons (pv 0) (pa_cons pe_int pa_nil))) (pa_cons pe_int pa_nil))))
      (pss_cut (ps_for PassesOwn.never rfl (pi_range1 rfl T.range (pa_cons (pe_op op_add (pe_op op_mul pe_int (pe_callB call_len_seq (by rfl) T.len bt_len (pa_cons (pv 1) pa_nil))) pe_int) pa_nil)) (pg_name (i := 7) sc_law.nd rfl (Or.inl rfl))
        (pss_cons (ps_set (i := 6) sc_law.nd rfl (Or.inl rfl) (pe_call GM (hr.mono (by decide)) rfl T.d_mixed.m T.d_mixed.F.kp T.d_mixed.b .nil pass0 (pa_cons (pv 6) (pa_cons (pv 7) pa_nil))))
          (pss_cons (ps_set (i := 8) sc_law.nd rfl (Or.inl rfl) (pe_op op_mod (pe_op op_fdiv (pv 6) pe_int) pe_int))
          (pss_cut (ps_if (pt_not (pt_val (pe_call GA (hr.mono (by decide)) rfl T.d_asked.m T.d_asked.F.kp T.d_asked.b .nil pass0 (pa_cons (pe_ix ix_list (pv 3) (pv 8) (fun _ _ => rfl)) (pa_cons (pv 1) (pa_cons (pv 2) (pa_cons (pe_ix ix_list (pv 4) (pv 8) (fun _ _ => rfl)) (pa_cons (pe_op op_fdiv (pv 6) pe_int) (pa_cons (pv 5) pa_nil)))))))))
            (pss_one (ps_ret pe_bl))
            pss_nil)
          (pss_one (ps_if (PW.pt (pw_and (pt_cmpR op_eq (pe_dget hu1 (pe_ix ix_list (pv 4) pe_int (fun _ _ => rfl)) pe_str (fun _ _ => rfl)) (pe_callB call_len_seq (by rfl) T.len bt_len (pa_cons (pv 1) pa_nil)) (nomark _)) (pw_and (pt_cmpR op_eq (pe_dget hu1 (pe_ix ix_list (pv 4) pe_int (fun _ _ => rfl)) pe_str (fun _ _ => rfl)) (pe_callB call_len_seq (by rfl) T.len bt_len (pa_cons (pv 1) pa_nil)) (nomark _)) (pw_and1 (pt_cmpR op_gt (pv 7) pe_int (nomark _))))))
            (pss_one ps_break)
            pss_nil))))))
      (pss_cut (ps_for PassesOwn.never rfl (pi_tup (pe_tup (pa_cons pe_int (pa_cons pe_int pa_nil)))) (pg_name (i := 8) sc_law.nd rfl (Or.inl rfl))
        (pss_cut (ps_if (pt_not (pt_val (pe_call GA (hr.mono (by decide)) rfl T.d_asked.m T.d_asked.F.kp T.d_asked.b .nil pass0 (pa_cons (pe_ix ix_list (pv 3) (pv 8) (fun _ _ => rfl)) (pa_cons (pv 1) (pa_cons (pv 2) (pa_cons (pe_ix ix_list (pv 4) (pv 8) (fun _ _ => rfl)) (pa_cons (pe_op op_add (pe_op op_mul pe_int (pe_callB call_len_seq (by rfl) T.len bt_len (pa_cons (pv 1) pa_nil))) pe_int) (pa_cons (pv 5) pa_nil)))))))))
            (pss_one (ps_ret pe_bl))
            pss_nil)
          (pss_cons (ps_set (i := 9) sc_law.nd rfl (Or.inl rfl) (pe_lst (pa_cons pe_str (pa_cons (pe_callB call_len_seq (by rfl) T.len bt_len (pa_cons (pv 1) pa_nil)) (pa_cons pe_str (pa_cons pe_bl pa_nil))))))
          (pss_cut (ps_set (i := 10) sc_law.nd rfl (Or.inl rfl) (pe_op op_cat (pe_lst (pa_cons pe_int pa_nil)) (pe_comp (ts := ["_law_one"]) (xs := []) (js := []) rfl ⟨rfl, rfl, by decide +kernel, by decide +kernel, freeIn rfl⟩ .nil (by decide +kernel) (pi_list (pe_ix ix_tup (pv 2) pe_int (fun _ _ => rfl)))
          (fun C s₀ H₀ fp => pg_name (X := cxC _ _ _ C s₀ H₀ fp) (i := 0) ndOn rfl (Or.inl rfl) (Or.inr rfl))
          (fun C s₀ H₀ fp => pif_nil (X := cxC _ _ _ C s₀ H₀ fp))
          (fun C s₀ H₀ fp => pe_ix (X := cxC _ _ _ C s₀ H₀ fp) (ix_tupK (X := cxC _ _ _ C s₀ H₀ fp) K rfl) (pv 0) pe_int (fun _ _ => rfl)))))
          (pss_cut (ps_if (pt_cmpR op_notN (pe_ix ix_tup (pv 2) pe_int (fun _ _ => rfl)) pe_non (nomark _))
            (pss_one (ps_set (i := 9) sc_law.nd rfl (Or.inl rfl) (pe_ix ix_tup (pe_ix ix_tup (pv 2) pe_int (fun _ _ => rfl)) pe_int (fun _ _ => rfl))))
            (pss_one (ps_if (pt_cmpR op_eq (pe_ix ix_list (pv 10) (pe_un un_neg pe_int) (fun _ _ => rfl)) (pe_callB call_len_seq (by rfl) T.len bt_len (pa_cons (pv 1) pa_nil)) (nomark _))
                (pss_one (ps_set (i := 9) sc_law.nd rfl (Or.inl rfl) (pe_lst (pa_cons pe_non pa_nil))))
                pss_nil)))
          (pss_one (ps_if (PW.pt (pw_or (pt_cmpR (op_neD hu) (pe_call GT (hr.mono (by decide)) rfl T.d_told.m T.d_told.F.kp T.d_told.b .nil pass0 (pa_cons (pe_ix ix_list (pv 3) (pv 8) (fun _ _ => rfl)) (pa_cons pe_non pa_nil))) (pv 9) (nomark _)) (pw_or1 (pt_cmpR (op_neD hu) (pe_call GT (hr.mono (by decide)) rfl T.d_told.m T.d_told.F.kp T.d_told.b .nil pass0 (pa_cons (pe_ix ix_list (pv 3) (pv 8) (fun _ _ => rfl)) (pa_cons pe_non pa_nil))) (pv 9) (nomark _)))))
            (pss_one (ps_ret pe_bl))
            pss_nil)))))))
      (pss_one (ps_ret (pe_cmpR (op_eqNil hu) (pe_comp (ts := ["_law_pair"]) (xs := []) (js := []) rfl ⟨rfl, rfl, by decide +kernel, by decide +kernel, freeIn rfl⟩ .nil (by decide +kernel) (pi_list (pv 5))
          (fun C s₀ H₀ fp => pg_name (X := cxC _ _ _ C s₀ H₀ fp) (i := 0) ndPa rfl (Or.inl rfl) (Or.inr rfl))
          (fun C s₀ H₀ fp => pif_one (X := cxC _ _ _ C s₀ H₀ fp) (pt_cmpR (op_neDK (X := cxC _ _ _ C s₀ H₀ fp) K rfl hu) (pe_ix (ix_tupK (X := cxC _ _ _ C s₀ H₀ fp) K rfl) (pv 0) pe_int (fun _ _ => rfl)) (pe_lst (pa_cons (pe_ix (ix_tupK (X := cxC _ _ _ C s₀ H₀ fp) K rfl) (pv 0) pe_int (fun _ _ => rfl)) pa_nil)) (nomark _)))
          (fun C s₀ H₀ fp => pv (X := cxC _ _ _ C s₀ H₀ fp) 0)) (pe_lst pa_nil) (nomark _))))))))))), ?_⟩
    refine ⟨_, rfl, sa, ns, rfl, hsa, hbit, fun w W H1 hB h4 hW0 s1 hW => ?_⟩
    refine ⟨_, rfl, W, w, rfl, hW, hB, h4, fun DU F vw fs l xx H2 s2 hDU hF hFd hCh hNx => ?_⟩
    have hW2 := s2 _ _ hW
    intro x0 d0 hx0 hd0 hdx0
    refine ⟨x0, d0, rfl, upd_same, fun L0 H3 hL0 sx3 ex3 eL3 => ⟨rfl, ?_⟩⟩
    have hx0u : (upd H2 d0 (.own x0)) x0 = none := by rw [upd_ne (Ne.symm hdx0)]; exact hx0
    have su3 : Same H2 (upd (upd H2 d0 (.own x0)) x0 (.ins a.Frames d0 [])) := (sameU hd0).trans (sameU hx0u)
    have s3 : Same H2 H3 := fun b o e => sx3 b o (by simpa using nn e hx0) (su3 b o e)
    have nL0 : H2 L0 = none := su3.free hL0
    intro x1 d1 hx1 hd1 hdx1
    refine ⟨x1, d1, rfl, upd_same, fun L1 H4 hL1 sx4 ex4 eL4 => ⟨rfl, by show 2 ≤ sizeLine; decide, fun BX hBX => ?_⟩⟩
    have hx1u : (upd H3 d1 (.own x1)) x1 = none := by rw [upd_ne (Ne.symm hdx1)]; exact hx1
    have su4 : Same H3 (upd (upd H3 d1 (.own x1)) x1 (.ins a.Frames d1 [])) := (sameU hd1).trans (sameU hx1u)
    have s4 : Same H3 H4 := fun b o e => sx4 b o (by simpa using nn e hx1) (su4 b o e)
    have nL1 : H3 L1 = none := su4.free hL1
    have s5 := sameU (u := .lst [.ref x0, .ref x1]) hBX
    have eB5 : (upd H4 BX (.lst [.ref x0, .ref x1])) BX = some (.lst [.ref x0, .ref x1]) := upd_same
    revert s5 eB5
    generalize upd H4 BX (.lst [.ref x0, .ref x1]) = H5
    intro s5 eB5
    intro S0 hS0
    refine ⟨upd_same, [(.inr "at", .int 0), (.inr "known", .bl false)], rfl, by show 2 ≤ 15; decide, ?_⟩
    have s6 : Same H5 (upd (upd H5 S0 (.dK [])) S0 (.dK (mergeK [] [(.inr "at", .int 0), (.inr "known", .bl false)]))) := Same.put (sameU hS0) hS0
    have e6 : (upd (upd H5 S0 (.dK [])) S0 (.dK (mergeK [] [(.inr "at", .int 0), (.inr "known", .bl false)]))) S0 = some (.dK (mergeK [] [(.inr "at", .int 0), (.inr "known", .bl false)])) := upd_same
    revert s6 e6
    generalize upd (upd H5 S0 (.dK [])) S0 (.dK (mergeK [] [(.inr "at", .int 0), (.inr "known", .bl false)])) = H6
    intro s6 e6
    rw [st_new] at e6
    intro S1 hS1
    refine ⟨upd_same, [(.inr "at", .int 0), (.inr "known", .bl false)], rfl, by show 2 ≤ 15; decide, ?_⟩
    have s7 : Same H6 (upd (upd H6 S1 (.dK [])) S1 (.dK (mergeK [] [(.inr "at", .int 0), (.inr "known", .bl false)]))) := Same.put (sameU hS1) hS1
    have e7 : (upd (upd H6 S1 (.dK [])) S1 (.dK (mergeK [] [(.inr "at", .int 0), (.inr "known", .bl false)]))) S1 = some (.dK (mergeK [] [(.inr "at", .int 0), (.inr "known", .bl false)])) := upd_same
    revert s7 e7
    generalize upd (upd H6 S1 (.dK [])) S1 (.dK (mergeK [] [(.inr "at", .int 0), (.inr "known", .bl false)])) = H7
    intro s7 e7
    rw [st_new] at e7
    refine ⟨by show 2 ≤ sizeLine; decide, fun SX hSX => ?_⟩
    refine ⟨by show 0 ≤ sizeLine; decide, fun HL hHL => ?_⟩
    have s8 := sameU (u := .lst [.ref S0, .ref S1]) hSX
    have eX8 : (upd H7 SX (.lst [.ref S0, .ref S1])) SX = some (.lst [.ref S0, .ref S1]) := upd_same
    revert hHL s8 eX8
    generalize upd H7 SX (.lst [.ref S0, .ref S1]) = H8
    intro hHL s8 eX8
    have s9 := sameU (u := .lst []) hHL
    have eH9 : (upd H8 HL (.lst [])) HL = some (.lst []) := upd_same
    revert s9 eH9
    generalize upd H8 HL (.lst []) = H9
    intro s9 eH9
    have st : ∀ {H H' : Hp}, Same H H' → Sta w l xx W DU F BX SX x0 x1 S0 S1 vw fs H → Sta w l xx W DU F BX SX x0 x1 S0 S1 vw fs H' := fun s h => h.same s
    have s24 := s3.trans s4
    have s25 := s24.trans s5
    have s26 := s25.trans s6
    have s27 := s26.trans s7
    have s28 := s27.trans s8
    have s29 := s28.trans s9
    have w0 := wrong0 hB hCh
    have two : Two K a.Frames w l xx (Sta w l xx W DU F BX SX x0 x1 S0 S1 vw fs) HL 0 H9 x0 d0 L0 S0 0 x1 d1 L1 S1 0 := by
      have x04 := s4 _ _ ex3
      have L04 := s4 _ _ eL3
      have nBX : BX ∉ [x0, L0, S0, x1, L1, S1, HL] := by
        simp only [List.mem_cons, List.not_mem_nil, or_false, not_or]
        exact ⟨(nn x04 hBX).symm, (nn L04 hBX).symm, nn eB5 hS0, (nn ex4 hBX).symm, (nn eL4 hBX).symm, nn (s6 _ _ eB5) hS1, nn (s8 _ _ (s7 _ _ (s6 _ _ eB5))) hHL⟩
      have s47 := (s5.trans s6).trans s7
      have nSX : SX ∉ [x0, L0, S0, x1, L1, S1, HL] := by
        simp only [List.mem_cons, List.not_mem_nil, or_false, not_or]
        exact ⟨(nn (s47 _ _ x04) hSX).symm, (nn (s47 _ _ L04) hSX).symm, (nn (s7 _ _ e6) hSX).symm, (nn (s47 _ _ ex4) hSX).symm, (nn (s47 _ _ eL4) hSX).symm, (nn e7 hSX).symm, nn eX8 hHL⟩
      have none2 : ∀ b ∈ [x0, L0, S0, x1, L1, S1, HL], H2 b = none := fun b hb => by
        simp only [List.mem_cons, List.not_mem_nil, or_false] at hb
        rcases hb with rfl | rfl | rfl | rfl | rfl | rfl | rfl
        · exact hx0
        · exact nL0
        · exact s25.free hS0
        · exact s3.free hx1
        · exact s3.free nL1
        · exact s26.free hS1
        · exact s28.free hHL
      have sM : Same H2 (rm [x0, L0, S0, x1, L1, S1, HL] H9) := rm_of s29 none2
      have s48 := s47.trans s8
      have s49 := s48.trans s9
      refine ⟨⟨sM _ _ hW2, sM _ _ hDU, sM _ _ hF, hFd.same sM, hNx.same sM, rm_at nBX (s9 _ _ (s8 _ _ (s7 _ _ (s6 _ _ eB5)))), rm_at nSX (s9 _ _ eX8)⟩, ?_, ?_, Nat.zero_le _, Nat.zero_le _, ?_, ?_, ⟨[], eH9, Nat.le_refl _, fun v hv => by cases hv⟩, nn ex3 hx1, nn e6 hS1, nn eL3 nL1, nn (s48 _ _ L04) hHL, nn (s48 _ _ eL4) hHL⟩
      · rw [w0]; exact s9 _ _ (s8 _ _ (s7 _ _ e6))
      · rw [w0]; exact s9 _ _ (s8 _ _ e7)
      · rw [w0]; exact BoxS.new hCh (s49 _ _ x04) (s49 _ _ L04)
      · rw [w0]; exact BoxS.new hCh (s49 _ _ ex4) (s49 _ _ eL4)
    refine ⟨fun σ' H' => ∃ c : Int, 0 ≤ c ∧ c < 2147483647 ∧ σ' = [some (.ref sa), some (.ref W), some (.ref DU), some (.ref BX), some (.ref SX), some (.ref HL), some (.int c), none, none, none, none] ∧ H9 = H', ?_, ?_⟩
    · exact ⟨_, rfl, sa, ns, _, rfl, ((s1.trans s2).trans s29).seq hsa, by decide, _, _, rfl, cell_bits hbit _, by decide, by decide, _, mixed_nn _ _, mixed_lt _ _, rfl, rfl⟩
    rintro σ' H' ⟨c0, c0n, c0l, rfl, rfl⟩
    clear hW0 hW s1 hDU hF hFd hNx s2 hW2 hx0 hd0 hdx0 sx3 ex3 eL3 hL0 hx0u su3 s3 nL0 hx1 hd1 hdx1 sx4 ex4 eL4 hL1 hx1u su4 s4 nL1 hBX s5 eB5 hS0 s6 e6 hS1 s7 e7 hSX s8 eX8 hHL s9 eH9 s24 s25 s26 s27 s28 s29
    have two_mod : ∀ c : Int, c % 2 = 0 ∨ c % 2 = 1 := fun c => by omega
    refine ⟨fun σ' H' => ∃ (c : Int) (v7 v8 : Option V) (L0 L1 : Addr) (j0 j1 : Nat), σ' = [some (.ref sa), some (.ref W), some (.ref DU), some (.ref BX), some (.ref SX), some (.ref HL), some (.int c), v7, v8, none, none] ∧ Two K a.Frames w l xx (Sta w l xx W DU F BX SX x0 x1 S0 S1 vw fs) HL (2 * w.length + 8) H' x0 d0 L0 S0 j0 x1 d1 L1 S1 j1, ?_, ?_⟩
    · have hW := rm_in _ _ two.st.1
      refine ⟨_, rfl, W, _, rfl, .inl (SqL.of hW), _, _, rfl, rfl, .inl ⟨by decide, by decide⟩, _, _, rfl, rfl, 2 * ((natV w).length : Int) + 8, rfl, by rw [natV_len]; omega, by rw [natV_len]; omega, ?_⟩
      rw [natV_len, show (2 * (w.length : Int) + 8).toNat = 2 * w.length + 8 by omega]
      refine for_range (n := 2 * w.length + 8) (fun i σ' H' => ∃ (c : Int) (v7 v8 : Option V) (L0 L1 : Addr) (j0 j1 : Nat), 0 ≤ c ∧ c < 2147483647 ∧ σ' = [some (.ref sa), some (.ref W), some (.ref DU), some (.ref BX), some (.ref SX), some (.ref HL), some (.int c), v7, v8, none, none] ∧ Two K a.Frames w l xx (Sta w l xx W DU F BX SX x0 x1 S0 S1 vw fs) HL i H' x0 d0 L0 S0 j0 x1 d1 L1 S1 j1) ⟨c0, _, _, L0, L1, 0, 0, c0n, c0l, rfl, two⟩ (fun i σ' H3 hi h => ?_) (fun σ' H3 h => ?_)
      rotate_left
      · obtain ⟨c, v7, v8, L0, L1, j0, j1, _, _, rfl, t⟩ := h
        exact ⟨c, v7, v8, L0, L1, j0, j1, rfl, t⟩
      obtain ⟨c, v7, v8, L0, L1, j0, j1, cn, cl, rfl, t⟩ := h
      refine ⟨_, rfl, _, rfl, c, _, rfl, bits_small cn cl, by omega, by omega, ?_⟩
      have dn := mixed_nn c (0 + (i : Int))
      have dl := mixed_lt c (0 + (i : Int))
      revert dn dl
      generalize mixed c (0 + (i : Int)) = d
      intro dn dl
      refine ⟨_, rfl, _, _, rfl, rfl, ⟨by decide, by decide⟩, _, _, rfl, rfl, (by show (0 : Int) < 2; decide), ?_⟩
      refine ⟨fun σ' H' => ∃ (L0 L1 : Addr) (j0 j1 : Nat), σ' = [some (.ref sa), some (.ref W), some (.ref DU), some (.ref BX), some (.ref SX), some (.ref HL), some (.int d), some (.int (0 + (i : Int))), some (.int (d / 7 % 2)), none, none] ∧ Two K a.Frames w l xx (Sta w l xx W DU F BX SX x0 x1 S0 S1 vw fs) HL (i + 1) H' x0 d0 L0 S0 j0 x1 d1 L1 S1 j1, ?_, ?_⟩
      · obtain ⟨_, _, _, _, _, hBX, hSX⟩ := t.st.same rm_in
        rcases two_mod (d / 7) with e | e
        · refine ⟨_, rfl, _, rfl, BX, _, _, _, rfl, rfl, SqL.of hBX, by rw [e]; exact at0, _, rfl, _, rfl, _, rfl, _, rfl, SX, _, _, _, rfl, rfl, SqL.of hSX, by rw [e]; exact at0, _, rfl, _, _, rfl, rfl, ⟨by decide, by decide⟩, _, rfl, ?_⟩
          show sp_asked K a.Frames [.ref x0, .ref W, .ref DU, .ref S0, .int (d / 14), .ref HL] H3 _ _
          refine t.ask st (fun _ h => h) hB h4 hCh (by omega) (Int.ediv_nonneg dn (by decide)) fun L2 m H' h1 _ t' => ?_
          exact ⟨_, rfl, iteF ⟨L2, L1, _, _, rfl, t'⟩⟩
        · refine ⟨_, rfl, _, rfl, BX, _, _, _, rfl, rfl, SqL.of hBX, by rw [e]; exact at1, _, rfl, _, rfl, _, rfl, _, rfl, SX, _, _, _, rfl, rfl, SqL.of hSX, by rw [e]; exact at1, _, rfl, _, _, rfl, rfl, ⟨by decide, by decide⟩, _, rfl, ?_⟩
          show sp_asked K a.Frames [.ref x1, .ref W, .ref DU, .ref S1, .int (d / 14), .ref HL] H3 _ _
          refine (t.swap st).ask st (fun _ h => h) hB h4 hCh (by omega) (Int.ediv_nonneg dn (by decide)) fun L2 m H' h1 _ t' => ?_
          exact ⟨_, rfl, iteF ⟨L0, L2, _, _, rfl, t'.swap st⟩⟩
      rintro σ' H4 ⟨L0, L1, j0, j1, rfl, t⟩
      obtain ⟨hW, _, _, _, _, hBX, hSX⟩ := t.st.same rm_in
      have on : ∃ (c : Int) (v7 v8 : Option V) (L0 L1 : Addr) (j0 j1 : Nat), 0 ≤ c ∧ c < 2147483647 ∧ [some (.ref sa), some (.ref W), some (.ref DU), some (.ref BX), some (.ref SX), some (.ref HL), some (.int d), some (.int (0 + (i : Int))), some (.int (d / 7 % 2)), none, none] = [some (.ref sa), some (.ref W), some (.ref DU), some (.ref BX), some (.ref SX), some (.ref HL), some (.int c), v7, v8, none, none] ∧ Two K a.Frames w l xx (Sta w l xx W DU F BX SX x0 x1 S0 S1 vw fs) HL (i + 1) H4 x0 d0 L0 S0 j0 x1 d1 L1 S1 j1 := ⟨d, _, _, L0, L1, j0, j1, dn, dl, rfl, t⟩
      refine ⟨_, rfl, SX, _, _, _, rfl, rfl, SqL.of hSX, at0, S0, _, rfl, g_at t.s1, _, rfl, W, _, rfl, .inl (SqL.of hW), rfl, _, rfl, ite2 (fun _ => ?_) (fun _ => iteF on)⟩
      refine ⟨_, rfl, SX, _, _, _, rfl, rfl, SqL.of hSX, at1, S1, _, rfl, g_at t.s2, _, rfl, W, _, rfl, .inl (SqL.of hW), rfl, _, rfl, ite2 (fun _ => ?_) (fun _ => iteF on)⟩
      refine ⟨_, rfl, _, _, rfl, rfl, _, rfl, ite2 (fun _ => ?_) (fun _ => on)⟩
      exact ⟨d, _, _, L0, L1, j0, j1, rfl, t.more (by omega)⟩
    rintro σ' H5 ⟨c1, v7, v8, L0', L1', j0, j1, rfl, t5⟩
    clear two
    refine ⟨fun σ' H' => ∃ (c : Int) (v7 v8 v9 v10 : Option V) (L0 L1 : Addr) (j0 j1 : Nat), σ' = [some (.ref sa), some (.ref W), some (.ref DU), some (.ref BX), some (.ref SX), some (.ref HL), some (.int c), v7, v8, v9, v10] ∧ Two K a.Frames w l xx (Sta w l xx W DU F BX SX x0 x1 S0 S1 vw fs) HL (2 * w.length + 10) H' x0 d0 L0 S0 j0 x1 d1 L1 S1 j1, ?_, ?_⟩
    · refine ⟨by show 2 ≤ sizeLine; decide, fun t0 ht0 => ⟨t0, rfl, ⟨_, SqT.of upd_same⟩, ?_⟩⟩
      have st2 : ∀ {H H' : Hp}, Same H H' → (Sta w l xx W DU F BX SX x0 x1 S0 S1 vw fs H ∧ H t0 = some (.tup [.int 0, .int 1])) → (Sta w l xx W DU F BX SX x0 x1 S0 S1 vw fs H' ∧ H' t0 = some (.tup [.int 0, .int 1])) := fun s h => ⟨h.1.same s, s _ _ h.2⟩
      have t6 := t5.same st (sameU (u := .tup [.int 0, .int 1]) ht0)
      have t7 : Two K a.Frames w l xx (fun H => Sta w l xx W DU F BX SX x0 x1 S0 S1 vw fs H ∧ H t0 = some (.tup [.int 0, .int 1])) HL (2 * w.length + 8 + 0) (upd H5 t0 (.tup [.int 0, .int 1])) x0 d0 L0' S0 j0 x1 d1 L1' S1 j1 := { t6 with st := ⟨t6.st, rm_at (t5.out ht0) upd_same⟩ }
      refine for_tup (xs := [.int 0, .int 1]) (fun i σ' H' => ∃ (v8 v9 v10 : Option V) (L0 L1 : Addr) (j0 j1 : Nat), σ' = [some (.ref sa), some (.ref W), some (.ref DU), some (.ref BX), some (.ref SX), some (.ref HL), some (.int c1), v7, v8, v9, v10] ∧ Two K a.Frames w l xx (fun H => Sta w l xx W DU F BX SX x0 x1 S0 S1 vw fs H ∧ H t0 = some (.tup [.int 0, .int 1])) HL (2 * w.length + 8 + i) H' x0 d0 L0 S0 j0 x1 d1 L1 S1 j1) ⟨_, _, _, L0', L1', j0, j1, rfl, t7⟩ (fun i σ' H' hi h => ?_) (fun i x σ' H6 hx h => ?_) (fun σ' H6 h => ?_)
      · obtain ⟨_, _, _, _, _, _, _, _, t⟩ := h
        exact SqT.of (rm_in _ _ t.st.2)
      rotate_left
      · obtain ⟨v8, v9, v10, L0, L1, j0, j1, rfl, t⟩ := h
        exact ⟨_, _, _, _, _, L0, L1, j0, j1, rfl, t.put fun _ h => h.1⟩
      obtain ⟨v8, v9, v10, L0, L1, j0, j1, rfl, t⟩ := h
      obtain ⟨k, rfl, hk, hi⟩ : ∃ k : Int, x = .int k ∧ (k = 0 ∨ k = 1) ∧ i ≤ 1 := by
        match i, hx with
        | 0, hx => cases hx; exact ⟨0, rfl, .inl rfl, by omega⟩
        | 1, hx => cases hx; exact ⟨1, rfl, .inr rfl, by omega⟩
      refine ⟨fun σ' H' => ∃ (L0 L1 : Addr) (j0 j1 : Nat), σ' = [some (.ref sa), some (.ref W), some (.ref DU), some (.ref BX), some (.ref SX), some (.ref HL), some (.int c1), v7, some (.int k), v9, v10] ∧ (∃ xk dk Lk : Addr, atI [V.ref x0, .ref x1] k = some (.ref xk) ∧ BoxS a.Frames w l xx H' xk dk Lk w.length (wrongB xx w.length)) ∧ Two K a.Frames w l xx (fun H => Sta w l xx W DU F BX SX x0 x1 S0 S1 vw fs H ∧ H t0 = some (.tup [.int 0, .int 1])) HL (2 * w.length + 8 + (i + 1)) H' x0 d0 L0 S0 j0 x1 d1 L1 S1 j1, ?_, ?_⟩
      · obtain ⟨hW, _, _, _, _, hBX, hSX⟩ := (t.st.1).same rm_in
        have e3 : 3 * ((natV w).length : Int) + 2 = 3 * (w.length : Int) + 2 := by rw [natV_len]
        rcases hk with rfl | rfl
        · refine ⟨_, rfl, _, rfl, BX, _, _, _, rfl, rfl, SqL.of hBX, at0, _, rfl, _, rfl, _, rfl, _, rfl, SX, _, _, _, rfl, rfl, SqL.of hSX, at0, _, rfl, W, _, rfl, .inl (SqL.of hW), _, _, rfl, rfl, .inl ⟨by decide, by decide⟩, _, _, rfl, rfl, _, rfl, ?_⟩
          show sp_asked K a.Frames [.ref x0, .ref W, .ref DU, .ref S0, .int (3 * ((natV w).length : Int) + 2), .ref HL] H6 _ _
          rw [e3]
          refine t.ask st2 (fun _ h => h.1) hB h4 hCh (by omega) (by omega) fun L2 m H' h1 h2 t' => ?_
          refine ⟨_, rfl, iteF ⟨L2, L1, _, _, rfl, ⟨x0, d0, L2, at0, ?_⟩, t'⟩⟩
          have := t'.b1
          rw [h2 rfl] at this
          exact this
        · refine ⟨_, rfl, _, rfl, BX, _, _, _, rfl, rfl, SqL.of hBX, at1, _, rfl, _, rfl, _, rfl, _, rfl, SX, _, _, _, rfl, rfl, SqL.of hSX, at1, _, rfl, W, _, rfl, .inl (SqL.of hW), _, _, rfl, rfl, .inl ⟨by decide, by decide⟩, _, _, rfl, rfl, _, rfl, ?_⟩
          show sp_asked K a.Frames [.ref x1, .ref W, .ref DU, .ref S1, .int (3 * ((natV w).length : Int) + 2), .ref HL] H6 _ _
          rw [e3]
          refine (t.swap st2).ask st2 (fun _ h => h.1) hB h4 hCh (by omega) (by omega) fun L2 m H' h1 h2 t' => ?_
          refine ⟨_, rfl, iteF ⟨L0, L2, _, _, rfl, ⟨x1, d1, L2, at1, ?_⟩, t'.swap st2⟩⟩
          have := t'.b1
          rw [h2 rfl] at this
          exact this
      rintro σ' H7 ⟨L0, L1, j0, j1, rfl, ⟨xk, dk, Lk, hat, hbox⟩, t⟩
      obtain ⟨hW, hDU, hF, hFd, hNx, hBX, hSX⟩ := (t.st.1).same rm_in
      refine ⟨_, rfl, W, _, rfl, .inl (SqL.of hW), by show 4 ≤ sizeLine; decide, fun l0 hl0 => ?_⟩
      have s8 := sameU (u := .lst [.str "wire", .int ((natV w).length : Int), .str "cut", .bl false]) hl0
      have e8 : (upd H7 l0 (.lst [.str "wire", .int ((natV w).length : Int), .str "cut", .bl false])) l0 = some (.lst [.str "wire", .int ((natV w).length : Int), .str "cut", .bl false]) := upd_same
      revert s8 e8
      generalize upd H7 l0 (.lst [.str "wire", .int ((natV w).length : Int), .str "cut", .bl false]) = H8
      intro s8 e8
      rw [natV_len] at e8
      obtain ⟨ts, Rs, rfl, hts, hRs, hrow⟩ := hFd.ex
      have lfs : (ts.map V.ref).length = l.length := by rw [List.length_map, hts]
      have l400 : l.length ≤ 400 := by have := Ch.len hB hCh (Nat.zero_le _); omega
      refine ⟨fun σ' H' => ∃ p10 : Addr, σ' = [some (.ref sa), some (.ref W), some (.ref DU), some (.ref BX), some (.ref SX), some (.ref HL), some (.int c1), v7, some (.int k), some (.ref l0), some (.ref p10)] ∧ Same H8 H' ∧ H' p10 = some (.lst ([V.int 0] ++ (List.range l.length).map fun i => V.int (enD l i : Int))), ?_, ?_⟩
      · refine ⟨by show 1 ≤ sizeLine; decide, fun l1 hl1 => ?_⟩
        have k1 := s8.trans (sameU (u := .lst [.int 0]) hl1)
        refine ⟨_, rfl, DU, _, _, _, rfl, rfl, SqT.of (k1 _ _ hDU), at0, F, rfl, ⟨_, SqL.of (k1 _ _ hF)⟩, comp_growI (Wk.list (SqL.of (k1 _ _ hF))) (by rw [lfs]; omega) (fun i => .int (enD l i : Int)) (fun i v hv H3 Rr s3 hR => ?_) (fun D H3 hD s3 e3 => ?_)⟩
        · rw [List.getElem?_map] at hv
          obtain ⟨tt, htt, rfl⟩ := Option.map_eq_some_iff.mp hv
          have hi' : i < ts.length := (List.getElem?_eq_some_iff.mp htt).1
          have h1 : Rs[i]? = some (Rs[i]'(by omega)) := List.getElem?_eq_getElem _
          have h2 : l[i]? = some (l[i]'(by omega)) := List.getElem?_eq_getElem _
          have htup := (hrow i tt _ _ htt h1 h2).1
          refine ⟨Sub.set rfl, _, rfl, tt, _, _, _, rfl, rfl, SqT.of (s3 _ _ (k1 _ _ htup)), at1, ?_⟩
          have := hR H3 (Same.refl _)
          rw [show enD l i = (l[i]'(by omega)).2 by unfold enD; rw [List.getD_eq_getElem?_getD, h2]; rfl] at this
          exact this
        · rw [lfs] at e3
          have hsz : ([V.int 0] : List V).length + ((List.range l.length).map fun i => V.int (enD l i : Int)).length ≤ sizeLine := small (by rw [List.length_map, List.length_range]; show 1 + l.length ≤ _; omega)
          refine ⟨l1, D, _, _, rfl, rfl, s3 _ _ upd_same, e3, hsz, fun p hp => ⟨p, rfl, ((sameU hl1).trans s3).trans (sameU hp), upd_same⟩⟩
      rintro σ' H9 ⟨p10, rfl, s9, e10⟩
      have s79 := s8.trans s9
      refine ⟨fun σ' H' => ∃ Re : Addr, σ' = [some (.ref sa), some (.ref W), some (.ref DU), some (.ref BX), some (.ref SX), some (.ref HL), some (.int c1), v7, some (.int k), some (.ref Re), some (.ref p10)] ∧ Same H9 H' ∧ H' Re = some (.lst (endL w l xx)), ?_, ?_⟩
      · have hD9 := s79 _ _ hDU
        have hN9 := hNx.same s79
        cases xx with
        | row r e => exact absurd rfl (hCh.nr r e)
        | bad o e =>
          obtain ⟨tt, Rr, rfl, ht1, ht2⟩ := hN9
          refine ⟨_, rfl, DU, _, _, _, rfl, rfl, SqT.of hD9, at1, rfl, _, rfl, ?_⟩
          rw [decide_eq_false (by intro z; cases z)]
          exact iteT ⟨_, rfl, DU, _, _, _, rfl, rfl, SqT.of hD9, at1, tt, _, _, _, rfl, rfl, SqT.of ht1, at0, Rr, rfl, Same.refl _, ht2⟩
        | none =>
          have hN0 : vw = .non := hN9
          subst hN0
          refine ⟨_, rfl, DU, _, _, _, rfl, rfl, SqT.of hD9, at1, rfl, _, rfl, ?_⟩
          rw [decide_eq_true rfl]
          refine iteF ⟨_, rfl, _, rfl, p10, _, _, _, rfl, rfl, SqL.of e10, en_last, _, rfl, W, _, rfl, .inl (SqL.of (s79 _ _ hW)), rfl, _, rfl, ?_⟩
          show if decide (V.int (lastE 0 l : Int) = V.int ((natV w).length : Int)) = true then _ else _
          by_cases c : lastE 0 l = w.length
          · rw [decide_eq_true (by rw [natV_len, c])]
            refine iteT ⟨by show 1 ≤ sizeLine; decide, fun Rr hRr => ⟨Rr, rfl, sameU hRr, ?_⟩⟩
            rw [upd_same]
            show _ = some (HO.lst (if lastE 0 l = w.length then _ else _))
            rw [if_pos c]
          · rw [decide_eq_false (fun z => c (by have := V.int.inj z; rw [natV_len] at this; omega))]
            refine iteF ⟨l0, rfl, Same.refl _, ?_⟩
            rw [s9 _ _ e8]
            show _ = some (HO.lst (if lastE 0 l = w.length then _ else _))
            rw [if_neg c]
      rintro σ' H10 ⟨Re, rfl, s10, eRe⟩
      have s710 := s79.trans s10
      refine ⟨_, rfl, _, rfl, BX, _, _, _, rfl, rfl, SqL.of (s710 _ _ hBX), hat, ?_⟩
      show sp_told K a.Frames [.ref xk, .non] H10 _ _
      refine BoxS.tell (K := K) hB h4 hCh (hbox.same s710) eRe fun D H11 s11 ⟨d, d', g1, g2, g3, g4, ge, _⟩ => ⟨_, rfl, d, d', g1, g2, g3, g4, _, rfl, ?_⟩
      rw [V.bl.inj ge]
      have s711 := s710.trans s11
      refine iteF ⟨_, rfl, _, rfl, BX, _, _, _, rfl, rfl, SqL.of (s711 _ _ hBX), hat, ?_⟩
      show sp_told K a.Frames [.ref xk, .non] H11 _ _
      refine BoxS.tell (K := K) hB h4 hCh (hbox.same s711) (s11 _ _ eRe) fun D2 H12 s12 ⟨d, d', g1, g2, g3, g4, ge, _⟩ => ⟨_, rfl, d, d', g1, g2, g3, g4, _, rfl, ?_⟩
      rw [V.bl.inj ge]
      exact iteF ⟨_, _, _, L0, L1, j0, j1, rfl, t.same st2 (s711.trans s12)⟩
    rintro σ' H6 ⟨c, v7, v8, v9, v10, L0, L1, j0, j1, rfl, t⟩
    obtain ⟨hs, hHL, hn, hp⟩ := t.hl
    refine ⟨_, rfl, HL, rfl, ⟨_, SqL.of hHL⟩, comp_genI (Wk.list (SqL.of hHL)) (by omega) (fun _ => false) (fun _ => .non) (fun i v hv H3 Rr s3 hT hF' => ?_) (fun D H3 hD s3 e3 => ?_)⟩
    · obtain ⟨u, rfl, D, B, d, h1, h2, h3, h5, h6⟩ := hp v (List.mem_of_getElem? hv)
      have k1 := (rm_in (S := [x0, L0, S0, x1, L1, S1, HL])).trans s3
      refine ⟨Sub.set rfl, _, rfl, u, _, _, _, rfl, rfl, SqT.of (k1 _ _ h1), at0, _, rfl, u, _, _, _, rfl, rfl, SqT.of (k1 _ _ h1), at1, by show 1 ≤ sizeLine; decide, fun l1 hl1 => ?_⟩
      have k2 := k1.trans (sameU (u := .lst [.ref B]) hl1)
      refine ⟨_, _, datV_same k2 h2, .lst (SqL.of upd_same) (.cons (datV_same k2 h3) .nil), h5, h5, _, rfl, ?_⟩
      rw [h6]
      exact iteF (hF' _ (sameU hl1) rfl)
    · refine ⟨by show 0 ≤ sizeLine; decide, fun l2 hl2 => ?_⟩
      rw [List.filter_eq_nil_iff.mpr (fun _ _ => Bool.false_ne_true)] at e3
      exact ⟨D, l2, _, rfl, rfl, keepH e3 hl2, upd_same, q _⟩
end
end K6

namespace K6
open PySem L2
seal L2.PE L2.PS L2.PSs L2.PA L2.PT L2.PW L2.PG L2.PGs L2.PI L2.PO
theorem fr_new {K : PySem.W.Frag} {mg : Str → Option Value} (T : K6L.Tx K mg) : Fr K (ad K) :=
  ⟨T.cl_Frames, T.o_Frames_held, T.o_Frames_start, T.o_Frames_behind, T.o_Frames_size, T.o_Frames_place, T.o_Frames_why, T.mk_Frames, T.mp_Frames⟩
theorem bind_law {K : PySem.W.Frag} {mg : Str → Option Value} (T : K6L.Tx K mg) (s : Shared) (u : Value) : BindsTo s (HL.fdOf K 389) ⟨[u], []⟩ [("_law_script", u)] := by
  obtain ⟨oc, od, kV, doc, pm, an, cdv, ct, osl, e, lk, hcd⟩ := T.d_law.ex
  rw [e]
  exact .of_eq rfl
theorem the_law : K6L.rw_.Holds := K6L.holds (k := 12) ⟨by decide, by decide⟩ (sp := spLaw) (fun w K mg base T _ _ => ok_law (tx_old T) (fr_new T)) (fun K mg T s u => bind_law T s u) (fun K H a ns h1 h2 _ h => ⟨a, ns, rfl, h, h1, h2, fun _ => rfl⟩)
end K6
theorem PySem.Challenge.cw_formkin_k06_whole_kept_rows_in_pieces_holds : PySem.Challenge.rw_formkin_k06_whole_kept_rows_in_pieces.Holds := by
  exact K6.the_law
#print axioms PySem.Challenge.cw_formkin_k06_whole_kept_rows_in_pieces_holds
