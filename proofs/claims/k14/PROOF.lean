import PyProof.Rows.All
import Wide.All
import OpenK.AllK
import Wide.FinOn
import KE.KStateDown
import HandS.ForMost
import HandS.More
import HandS.WordsExc
import HandS.Defaults
import HandS.IsInst
import HandS.Sort
import HandS.SortInts
import HandS.Conv
import HandS.Evl
import HandS.HeadHook1
import HandS.HeadHook2
import HandS.Zip
import HandS.Walk
import KE.KExcSuper
import HandS.Exc
import HandS.ExcInit
import HandS.Nested
import HandS.TryOnly
import HandS.ExcOwn
import HandS.ExcIs
import HandS.FStr
import HandS.MakeKwOnly
import HandS.ExcField
import HandS.TryMany
import HandS.Text
import HandS.StrMore
import HandS.Comp
import HandS.Head0
import HandS.Head1
import HandS.Head2
import HandS.HeadEnd
import PySem.Challenge.RW_halfmeshes_k14_texts_of_meshes
set_option Elab.async false
set_option linter.all false
set_option maxRecDepth 100000
set_option maxHeartbeats 0
/-! Mathematics of permutations of the numbers below N, their rounds. Own work of the verifier. -/
namespace Hm

/-- f maps the numbers below N to such, different ones to different ones -/
structure Pf (f : Nat → Nat) (N : Nat) : Prop where
  lt : ∀ x, x < N → f x < N
  inj : ∀ x y, x < N → y < N → f x = f y → x = y

def itr (f : Nat → Nat) : Nat → Nat → Nat
  | 0, x => x
  | k + 1, x => f (itr f k x)

theorem itr_succ' (f : Nat → Nat) (k x : Nat) : itr f (k + 1) x = itr f k (f x) := by
  induction k with
  | zero => rfl
  | succ k ih => show f (itr f (k + 1) x) = f (itr f k (f x)); rw [ih]
theorem itr_add (f : Nat → Nat) (a b x : Nat) : itr f (a + b) x = itr f a (itr f b x) := by
  induction a with
  | zero => rw [Nat.zero_add]; rfl
  | succ a ih => rw [Nat.succ_add]; show f (itr f (a + b) x) = f (itr f a (itr f b x)); rw [ih]
theorem itr_lt {f : Nat → Nat} {N : Nat} (P : Pf f N) {x : Nat} (h : x < N) (k : Nat) : itr f k x < N := by
  induction k with
  | zero => exact h
  | succ k ih => exact P.lt _ ih
theorem itr_inj {f : Nat → Nat} {N : Nat} (P : Pf f N) {x y : Nat} (hx : x < N) (hy : y < N) (k : Nat) (e : itr f k x = itr f k y) : x = y := by
  induction k with
  | zero => exact e
  | succ k ih => exact ih (P.inj _ _ (itr_lt P hx k) (itr_lt P hy k) e)

/-- a list without repetition of numbers below N is not longer than N -/
theorem nodup_le : ∀ (N : Nat) (l : List Nat), l.Nodup → (∀ x ∈ l, x < N) → l.length ≤ N
  | 0, l, _, h => by
    cases l with
    | nil => exact Nat.le_refl _
    | cons a r => exact absurd (h a (List.mem_cons_self ..)) (Nat.not_lt_zero _)
  | N + 1, l, hn, h => by
    have h1 := nodup_le N (l.erase N) (hn.erase N) (fun x hx => by
      have h2 := h x (List.mem_of_mem_erase hx)
      have h3 : x ≠ N := fun e => by
        subst e
        exact (hn.not_mem_erase) hx
      omega)
    have h4 : l.length ≤ (l.erase N).length + 1 := by
      rw [List.length_erase]
      split <;> omega
    omega

theorem itr_back {f : Nat → Nat} {N : Nat} (P : Pf f N) {x : Nat} (hx : x < N) {i j : Nat} (hij : i < j) (e : itr f i x = itr f j x) : itr f (j - i) x = x := by
  have h : j = i + (j - i) := by omega
  rw [h, itr_add] at e
  exact (itr_inj P hx (itr_lt P hx _) i e).symm

theorem ret_ex {f : Nat → Nat} {N : Nat} (P : Pf f N) {x : Nat} (hx : x < N) : ∃ k, k < N ∧ itr f (k + 1) x = x := by
  refine Classical.byContradiction fun hno => ?_
  have hno' : ∀ k, k < N → itr f (k + 1) x ≠ x := fun k hk e => hno ⟨k, hk, e⟩
  have hnd : ((List.range (N + 1)).map fun k => itr f k x).Nodup := by
    rw [List.nodup_iff_pairwise_ne, List.pairwise_map]
    refine List.Pairwise.imp_of_mem ?_ List.pairwise_lt_range
    intro a b ha hb hab e
    have hb' := List.mem_range.mp hb
    have e2 := itr_back P hx hab e
    have e3 : b - a = (b - a - 1) + 1 := by omega
    rw [e3] at e2
    exact hno' _ (by omega) e2
  have := nodup_le N _ hnd (fun y hy => by
    obtain ⟨k, _, rfl⟩ := List.mem_map.mp hy
    exact itr_lt P hx k)
  rw [List.length_map, List.length_range] at this
  omega

/-- the number of steps after which x is met again -/
def per (f : Nat → Nat) (N x : Nat) : Nat := ((List.range N).find? fun k => itr f (k + 1) x == x).getD 0 + 1
theorem per_pos (f : Nat → Nat) (N x : Nat) : 0 < per f N x := Nat.succ_pos _
theorem per_spec {f : Nat → Nat} {N : Nat} (P : Pf f N) {x : Nat} (hx : x < N) : itr f (per f N x) x = x ∧ per f N x ≤ N ∧ ∀ k, 0 < k → k < per f N x → itr f k x ≠ x := by
  unfold per
  cases e : (List.range N).find? (fun k => itr f (k + 1) x == x) with
  | none =>
    obtain ⟨k, hk, e2⟩ := ret_ex P hx
    have := List.find?_eq_none.mp e k (List.mem_range.mpr hk)
    rw [e2] at this
    exact absurd (beq_self_eq_true x) this
  | some k =>
    have h1 := List.find?_range_eq_some.mp e
    obtain ⟨h1, h2, h3⟩ := h1
    have h2 := List.mem_range.mp h2
    refine ⟨eq_of_beq h1, h2, fun j hj hjk e2 => ?_⟩
    have hjk : j < k + 1 := hjk
    have := h3 (j - 1) (by omega)
    rw [show j - 1 + 1 = j by omega, e2] at this
    simp at this

/-- the round of x: x, f x, .. -/
def rnd (f : Nat → Nat) (N x : Nat) : List Nat := (List.range (per f N x)).map fun k => itr f k x
theorem mem_rnd {f : Nat → Nat} {N : Nat} (P : Pf f N) {x : Nat} (hx : x < N) {y : Nat} : y ∈ rnd f N x ↔ ∃ k, itr f k x = y := by
  obtain ⟨s1, s2, s3⟩ := per_spec P hx
  constructor
  · intro h
    obtain ⟨k, _, e⟩ := List.mem_map.mp h
    exact ⟨k, e⟩
  · rintro ⟨k, rfl⟩
    have key : ∀ n k, k ≤ n → itr f k x ∈ rnd f N x := by
      intro n
      induction n with
      | zero =>
        intro k hk
        have : k = 0 := by omega
        subst this
        exact List.mem_map.mpr ⟨0, List.mem_range.mpr (per_pos _ _ _), rfl⟩
      | succ n ih =>
        intro k hk
        by_cases h : k < per f N x
        · exact List.mem_map.mpr ⟨k, List.mem_range.mpr h, rfl⟩
        · have e : itr f k x = itr f (k - per f N x) x := by
            have e2 : k = (k - per f N x) + per f N x := by omega
            rw [e2, itr_add, s1, ← e2]
          rw [e]
          have := per_pos f N x
          exact ih _ (by omega)
    exact key k k (Nat.le_refl _)
theorem rnd_lt {f : Nat → Nat} {N : Nat} (P : Pf f N) {x : Nat} (hx : x < N) {y : Nat} (h : y ∈ rnd f N x) : y < N := by
  obtain ⟨k, rfl⟩ := (mem_rnd P hx).mp h
  exact itr_lt P hx k
theorem rnd_symm {f : Nat → Nat} {N : Nat} (P : Pf f N) {x y : Nat} (hx : x < N) (h : y ∈ rnd f N x) : x ∈ rnd f N y := by
  have hy := rnd_lt P hx h
  obtain ⟨k, hk, rfl⟩ := List.mem_map.mp h
  have hk := List.mem_range.mp hk
  refine (mem_rnd P hy).mpr ⟨per f N x - k, ?_⟩
  rw [← itr_add, show per f N x - k + k = per f N x by omega]
  exact (per_spec P hx).1
theorem rnd_trans {f : Nat → Nat} {N : Nat} (P : Pf f N) {x y z : Nat} (hx : x < N) (h : y ∈ rnd f N x) (h2 : z ∈ rnd f N y) : z ∈ rnd f N x := by
  have hy := rnd_lt P hx h
  obtain ⟨k, rfl⟩ := (mem_rnd P hx).mp h
  obtain ⟨j, rfl⟩ := (mem_rnd P hy).mp h2
  exact (mem_rnd P hx).mpr ⟨j + k, itr_add f j k x⟩
theorem rnd_self {f : Nat → Nat} {N : Nat} (P : Pf f N) {x : Nat} (hx : x < N) : x ∈ rnd f N x := (mem_rnd P hx).mpr ⟨0, rfl⟩
theorem rnd_step {f : Nat → Nat} {N : Nat} (P : Pf f N) {x y : Nat} (hx : x < N) (h : y ∈ rnd f N x) : f y ∈ rnd f N x := by
  obtain ⟨k, rfl⟩ := (mem_rnd P hx).mp h
  exact (mem_rnd P hx).mpr ⟨k + 1, rfl⟩
theorem rnd_length (f : Nat → Nat) (N x : Nat) : (rnd f N x).length = per f N x := by
  unfold rnd; rw [List.length_map, List.length_range]
theorem rnd_take_nodup {f : Nat → Nat} {N : Nat} (P : Pf f N) {x : Nat} (hx : x < N) {k : Nat} (hk : k < per f N x) : itr f k x ∉ (List.range k).map fun j => itr f j x := by
  intro h
  obtain ⟨j, hj, e⟩ := List.mem_map.mp h
  have hj := List.mem_range.mp hj
  have e2 := itr_back P hx hj e
  exact (per_spec P hx).2.2 (k - j) (by omega) (by omega) e2
theorem rnd_nodup {f : Nat → Nat} {N : Nat} (P : Pf f N) {x : Nat} (hx : x < N) : (rnd f N x).Nodup := by
  unfold rnd
  rw [List.nodup_iff_pairwise_ne, List.pairwise_map]
  refine List.Pairwise.imp_of_mem ?_ List.pairwise_lt_range
  intro a b ha hb hab e
  have hb' := List.mem_range.mp hb
  have e2 := itr_back P hx hab e
  exact (per_spec P hx).2.2 (b - a) (by omega) (by omega) e2

/-- x is the least of its round -/
def isMin (f : Nat → Nat) (N x : Nat) : Bool := (rnd f N x).all fun y => decide (x ≤ y)
theorem isMin_iff {f : Nat → Nat} {N x : Nat} : isMin f N x = true ↔ ∀ y ∈ rnd f N x, x ≤ y := by
  unfold isMin
  rw [List.all_eq_true]
  exact ⟨fun h y hy => of_decide_eq_true (h y hy), fun h y hy => decide_eq_true (h y hy)⟩
/-- all rounds, by their least members, of the numbers below n -/
def cycs (f : Nat → Nat) (N n : Nat) : List (List Nat) := ((List.range n).filter (isMin f N)).map (rnd f N)
theorem cycs_yes {f : Nat → Nat} {N n : Nat} (h : isMin f N n = true) : cycs f N (n + 1) = cycs f N n ++ [rnd f N n] := by
  unfold cycs
  rw [List.range_succ, List.filter_append, List.map_append, List.filter_cons, if_pos h]
  rfl
theorem cycs_no {f : Nat → Nat} {N n : Nat} (h : ¬ isMin f N n = true) : cycs f N (n + 1) = cycs f N n := by
  unfold cycs
  rw [List.range_succ, List.filter_append, List.map_append, List.filter_cons, if_neg h]
  show _ ++ [] = _
  rw [List.append_nil]
theorem cycs_len (f : Nat → Nat) (N n : Nat) : (cycs f N n).length ≤ n := by
  unfold cycs
  rw [List.length_map]
  have := List.length_filter_le (isMin f N) (List.range n)
  rw [List.length_range] at this
  exact this
/-- y lies in the round of a number below n -/
def Sn (f : Nat → Nat) (N n y : Nat) : Prop := ∃ s, s < n ∧ s < N ∧ y ∈ rnd f N s
theorem sn_iff_notMin {f : Nat → Nat} {N : Nat} (P : Pf f N) {n : Nat} (hn : n < N) : Sn f N n n ↔ ¬ isMin f N n = true := by
  constructor
  · rintro ⟨s, h1, h2, h3⟩ h
    have := isMin_iff.mp h s (rnd_symm P h2 h3)
    omega
  · intro h
    rw [isMin_iff] at h
    refine Classical.byContradiction fun hno => h fun y hy => ?_
    refine Nat.le_of_not_lt fun hlt => hno ⟨y, hlt, rnd_lt P hn hy, rnd_symm P hn hy⟩
theorem sn_back {f : Nat → Nat} {N : Nat} (P : Pf f N) {n y : Nat} (hy : y < N) (h : Sn f N n (f y)) : Sn f N n y := by
  obtain ⟨s, h1, h2, h3⟩ := h
  refine ⟨s, h1, h2, rnd_trans P h2 h3 (rnd_symm P hy ?_)⟩
  exact (mem_rnd P hy).mpr ⟨1, rfl⟩
theorem sn_itr {f : Nat → Nat} {N : Nat} (P : Pf f N) {n x : Nat} (hx : x < N) (h : ¬ Sn f N n x) (k : Nat) : ¬ Sn f N n (itr f k x) := by
  induction k with
  | zero => exact h
  | succ k ih => exact fun q => ih (sn_back P (itr_lt P hx k) q)
theorem sn_succ {f : Nat → Nat} {N n y : Nat} (hn : n < N) : Sn f N (n + 1) y ↔ Sn f N n y ∨ y ∈ rnd f N n := by
  constructor
  · rintro ⟨s, h1, h2, h3⟩
    by_cases e : s = n
    · subst e; exact .inr h3
    · exact .inl ⟨s, by omega, h2, h3⟩
  · rintro (⟨s, h1, h2, h3⟩ | h)
    · exact ⟨s, by omega, h2, h3⟩
    · exact ⟨n, by omega, hn, h⟩

/-! ### lists as maps -/
/-- a list of the numbers below its length, each once -/
structure IsP (ns : List Nat) : Prop where
  perm : ns.Perm (List.range ns.length)
theorem IsP.nodup {ns : List Nat} (h : IsP ns) : ns.Nodup := h.perm.symm.nodup List.nodup_range
theorem IsP.mem {ns : List Nat} (h : IsP ns) {x : Nat} : x ∈ ns ↔ x < ns.length := by
  rw [h.perm.mem_iff, List.mem_range]
def fn (ns : List Nat) (x : Nat) : Nat := ns.getD x 0
theorem fn_get {ns : List Nat} {x : Nat} (h : x < ns.length) : ns[x]? = some (fn ns x) := by
  unfold fn
  rw [List.getD_eq_getElem?_getD, List.getElem?_eq_getElem h]
  rfl
theorem fn_at {ns : List Nat} {x y : Nat} (h : ns[x]? = some y) : fn ns x = y := by
  unfold fn
  rw [List.getD_eq_getElem?_getD, h]
  rfl
theorem fn_mem {ns : List Nat} {x : Nat} (h : x < ns.length) : fn ns x ∈ ns := List.mem_of_getElem? (fn_get h)
theorem pf_fn {ns : List Nat} (h : IsP ns) : Pf (fn ns) ns.length where
  lt := fun x hx => h.mem.mp (fn_mem hx)
  inj := fun x y hx hy e => by
    have h1 := fn_get hx
    have h2 := fn_get hy
    rw [e] at h1
    have hn := h.nodup
    obtain ⟨a1, b1⟩ := List.getElem?_eq_some_iff.mp h1
    obtain ⟨a2, b2⟩ := List.getElem?_eq_some_iff.mp h2
    exact (List.getElem_inj hn).mp (b1.trans b2.symm)
/-- the number whose next is x -/
def bk (ns : List Nat) (x : Nat) : Nat := ns.idxOf x
theorem bk_lt {ns : List Nat} (h : IsP ns) {x : Nat} (hx : x < ns.length) : bk ns x < ns.length := List.idxOf_lt_length_iff.mpr (h.mem.mpr hx)
theorem fn_bk {ns : List Nat} (h : IsP ns) {x : Nat} (hx : x < ns.length) : fn ns (bk ns x) = x := by
  have h1 := fn_get (bk_lt h hx)
  have h2 : ns[bk ns x]'(bk_lt h hx) = x := List.getElem_idxOf (bk_lt h hx)
  rw [List.getElem?_eq_getElem (bk_lt h hx), h2] at h1
  exact (Option.some.inj h1).symm
theorem bk_fn {ns : List Nat} (h : IsP ns) {x : Nat} (hx : x < ns.length) : bk ns (fn ns x) = x :=
  (pf_fn h).inj _ _ (bk_lt h ((pf_fn h).lt x hx)) hx (fn_bk h ((pf_fn h).lt x hx))
def tw (x : Nat) : Nat := if x % 2 = 0 then x + 1 else x - 1
theorem tw_tw (x : Nat) : tw (tw x) = x := by unfold tw; split <;> split <;> omega
theorem tw_lt {x N : Nat} (hN : N % 2 = 0) (h : x < N) : tw x < N := by unfold tw; split <;> omega
theorem tw_inj {x y : Nat} (h : tw x = tw y) : x = y := by rw [← tw_tw x, h, tw_tw]
def prevs (ns : List Nat) : List Nat := (List.range ns.length).map (bk ns)
def turns (ns : List Nat) : List Nat := (prevs ns).map tw
theorem prevs_len (ns : List Nat) : (prevs ns).length = ns.length := by unfold prevs; rw [List.length_map, List.length_range]
theorem turns_len (ns : List Nat) : (turns ns).length = ns.length := by unfold turns; rw [List.length_map, prevs_len]
theorem fn_prevs {ns : List Nat} {x : Nat} (h : x < ns.length) : fn (prevs ns) x = bk ns x := by
  apply fn_at
  unfold prevs
  rw [List.getElem?_map, List.getElem?_range h]
  rfl
theorem fn_turns {ns : List Nat} {x : Nat} (h : x < ns.length) : fn (turns ns) x = tw (bk ns x) := by
  apply fn_at
  unfold turns
  rw [List.getElem?_map, fn_get (by rw [prevs_len]; exact h), fn_prevs h]
  rfl
/-- from a map to its list -/
theorem isP_of {f : Nat → Nat} {N : Nat} (P : Pf f N) : IsP ((List.range N).map f) where
  perm := by
    rw [List.length_map, List.length_range]
    have hnd : ((List.range N).map f).Nodup := by
      rw [List.nodup_iff_pairwise_ne, List.pairwise_map]
      refine List.Pairwise.imp_of_mem ?_ List.pairwise_lt_range
      intro a b ha hb hab e
      have := P.inj _ _ (List.mem_range.mp ha) (List.mem_range.mp hb) e
      omega
    refine (List.perm_ext_iff_of_nodup hnd List.nodup_range).mpr fun x => ?_
    constructor
    · intro h
      obtain ⟨y, hy, rfl⟩ := List.mem_map.mp h
      exact List.mem_range.mpr (P.lt _ (List.mem_range.mp hy))
    · intro h
      have hx := List.mem_range.mp h
      have P' := P
      refine List.mem_map.mpr ⟨itr f (per f N x - 1) x, List.mem_range.mpr (itr_lt P hx _), ?_⟩
      have e := (per_spec P hx).1
      have hp := per_pos f N x
      rw [show per f N x = (per f N x - 1) + 1 by omega] at e
      exact e
theorem isP_prevs {ns : List Nat} (h : IsP ns) : IsP (prevs ns) := isP_of ⟨fun x hx => bk_lt h hx, fun x y hx hy e => by
  rw [← fn_bk h hx, e, fn_bk h hy]⟩
theorem pf_turn {ns : List Nat} (h : IsP ns) (hN : ns.length % 2 = 0) : Pf (fun x => tw (bk ns x)) ns.length where
  lt := fun x hx => tw_lt hN (bk_lt h hx)
  inj := fun x y hx hy e => by
    have e := tw_inj e
    rw [← fn_bk h hx, e, fn_bk h hy]
theorem isP_turns {ns : List Nat} (h : IsP ns) (hN : ns.length % 2 = 0) : IsP (turns ns) := by
  have e : turns ns = (List.range ns.length).map (fun x => tw (bk ns x)) := by
    unfold turns prevs
    rw [List.map_map]
    rfl
  rw [e]
  exact isP_of (pf_turn h hN)
end Hm
namespace Hm
open PySem PySem.Spec PyProof.Rows L2 Evl
/-! ### short names of what operators ask -/
abbrev iI (g : Int → Int → Int) : R2 := rI0 fun i j => .int (g i j)
abbrev iB (g : Int → Int → Bool) : R2 := rI0 fun i j => .bl (g i j)
abbrev zAdd : R2 := iI fun i j => i + j
abbrev zSub : R2 := iI fun i j => i - j
abbrev zMul : R2 := rI CMul fun i j => .int (i * j)
abbrev zDiv : R2 := rI CDivN fun i j => .int (i.fdiv j)
abbrev zMod : R2 := rI (fun _ j => j ≠ 0) fun i j => .int (i.fmod j)
abbrev zPow : R2 := rI CPow fun i j => .int (i ^ j.toNat)
abbrev zXor : R2 := iI fun i j => Builtin.bitXor i j
abbrev zLt : R2 := iB fun i j => decide (i < j)
abbrev zLe : R2 := iB fun i j => decide (i ≤ j)
abbrev zGt : R2 := iB fun i j => decide (j < i)
abbrev zGe : R2 := iB fun i j => decide (j ≤ i)
abbrev zNeg : V → Hp → VK → Prop := rU fun i => .int (-i)
abbrev CR1 := List V → Hp → VK → Prop
abbrev cInt : CR1 := fun vs H K => (∃ i : Int, vs = [V.int i] ∧ K (V.int i) H) ∨ (∃ b : Bool, vs = [V.bl b] ∧ K (V.int (if b then 1 else 0)) H)
abbrev cAbs : CR1 := fun vs H K => ∃ i : Int, vs = [V.int i] ∧ K (V.int (if i < 0 then -i else i)) H
abbrev cLen (F : PySem.W.Frag) : CR1 := fun vs H K => ∃ (p : Addr) (ys : List V), vs = [V.ref p] ∧ (SqL F H p ys ∨ SqT F H p ys) ∧ K (V.int ys.length) H
abbrev cList (F : PySem.W.Frag) : CR1 := fun vs H K => ∃ (p : Addr) (ys : List V), vs = [V.ref p] ∧ (SqL F H p ys ∨ SqT F H p ys) ∧ ∀ l, H l = none → K (V.ref l) (upd H l (.lst ys))
/-- what the written part says of the class Mesh -/
structure KF (K : PySem.W.Frag) : Prop where
  cl : Cls K (He.ga K "Mesh")
  n1 : NoAttr K (He.ga K "Mesh") "_nexts"
  n2 : NoAttr K (He.ga K "Mesh") "_prevs"
  n3 : NoAttr K (He.ga K "Mesh") "_turns"
end Hm
namespace Hm
open PySem PySem.Spec PyProof.Rows L2 Evl
/-! ### lists of numbers as values and as data -/
abbrev vi (n : Nat) : V := .int (n : Int)
def L (ns : List Nat) : List V := ns.map vi
theorem L_len (ns : List Nat) : (L ns).length = ns.length := by unfold L; rw [List.length_map]
theorem L_get {ns : List Nat} {i : Nat} (h : i < ns.length) : (L ns)[i]? = some (vi (fn ns i)) := by
  unfold L
  rw [List.getElem?_map, fn_get h]
  rfl
theorem L_at {ns : List Nat} {i : Nat} (h : i < ns.length) : atI (L ns) ((i : Nat) : Int) = some (vi (fn ns i)) := atI_nat (L_get h)
theorem L_app (a b : List Nat) : L (a ++ b) = L a ++ L b := by unfold L; rw [List.map_append]
theorem L_int (ns : List Nat) : L ns = (ns.map fun n : Nat => (n : Int)).map V.int := by unfold L; rw [List.map_map]; rfl
theorem L_item {ns : List Nat} {i : Nat} {v : V} (h : (L ns)[i]? = some v) : i < ns.length ∧ v = vi (fn ns i) := by
  have h1 : i < ns.length := by
    have := (List.getElem?_eq_some_iff.mp h).1
    rwa [L_len] at this
  rw [L_get h1] at h
  exact ⟨h1, (Option.some.inj h).symm⟩
def dN (ns : List Nat) : PyData := .list (ns.map fun n : Nat => PyData.int (n : Int))
def dNN (xss : List (List Nat)) : PyData := .list (xss.map dN)
theorem dpAll_L {K : PySem.W.Frag} {H : Hp} : ∀ ns : List Nat, DpAll K H (L ns) (ns.map fun n : Nat => PyData.int (n : Int))
  | [] => .nil
  | n :: r => .cons (.int _) (dpAll_L r)
theorem dp_L {K : PySem.W.Frag} {H : Hp} {p : Addr} {ns : List Nat} (h : SqL K H p (L ns)) : Dp K H (.ref p) (dN ns) := Dp.lst h (dpAll_L ns)
theorem lay_ints : ∀ ns : List Nat, PyData.canLayAll0 (ns.map fun n : Nat => PyData.int (n : Int)) = true ∧ PyData.depthAll (ns.map fun n : Nat => PyData.int (n : Int)) = 0
  | [] => ⟨by simp [PyData.canLayAll0], by simp [PyData.depthAll]⟩
  | n :: r => by
    obtain ⟨h1, h2⟩ := lay_ints r
    exact ⟨by simp [PyData.canLayAll0, PyData.canLay0, h1], by simp [PyData.depthAll, PyData.depth, h2]⟩
theorem lay_dN (ns : List Nat) : PyData.canLay0 (dN ns) = true ∧ PyData.depth (dN ns) = 1 := by
  obtain ⟨h1, h2⟩ := lay_ints ns
  unfold dN
  exact ⟨by simp [PyData.canLay0, h1], by simp [PyData.depth, h2]⟩
theorem lay_dNs : ∀ xss : List (List Nat), PyData.canLayAll0 (xss.map dN) = true ∧ PyData.depthAll (xss.map dN) ≤ 1
  | [] => ⟨by simp [PyData.canLayAll0], by simp [PyData.depthAll]⟩
  | n :: r => by
    obtain ⟨h1, h2⟩ := lay_dNs r
    obtain ⟨h3, h4⟩ := lay_dN n
    exact ⟨by simp [PyData.canLayAll0, h1, h3], by simp [PyData.depthAll, h4]; omega⟩
theorem shaped_dN (ns : List Nat) : SeqAt.shaped (dN ns) = true := by
  obtain ⟨h3, h4⟩ := lay_dN ns
  unfold SeqAt.shaped
  rw [h3, h4]
  rfl
theorem shaped_dNN (xss : List (List Nat)) : SeqAt.shaped (dNN xss) = true := by
  obtain ⟨h3, h4⟩ := lay_dNs xss
  unfold SeqAt.shaped dNN
  have e1 : PyData.canLay0 (.list (xss.map dN)) = true := by simp [PyData.canLay0, h3]
  have e2 : PyData.depth (.list (xss.map dN)) ≤ 64 := by simp [PyData.depth]; omega
  rw [e1, decide_eq_true e2]
  rfl
theorem eqv_ints : ∀ ns ms : List Nat, PyData.eqvAll (ns.map fun n : Nat => PyData.int (n : Int)) (ms.map fun n : Nat => PyData.int (n : Int)) = decide (ns = ms)
  | [], [] => by simp [PyData.eqvAll]
  | [], _ :: _ => by simp [PyData.eqvAll]
  | _ :: _, [] => by simp [PyData.eqvAll]
  | n :: r, m :: s => by
    have h := eqv_ints r s
    simp only [List.map_cons, PyData.eqvAll, PyData.eqv, h]
    by_cases e : n = m
    · subst e
      simp
    · have e2 : ((n : Int) == (m : Int)) = false := by
        rw [beq_eq_false_iff_ne]
        omega
      rw [e2]
      simp [e]
theorem eqv_dN (ns ms : List Nat) : PyData.eqv (dN ns) (dN ms) = decide (ns = ms) := by
  unfold dN
  simp only [PyData.eqv]
  exact eqv_ints ns ms
theorem eqv_dNs : ∀ xss yss : List (List Nat), PyData.eqvAll (xss.map dN) (yss.map dN) = decide (xss = yss)
  | [], [] => by simp [PyData.eqvAll]
  | [], _ :: _ => by simp [PyData.eqvAll]
  | _ :: _, [] => by simp [PyData.eqvAll]
  | n :: r, m :: s => by
    have h := eqv_dNs r s
    simp only [List.map_cons, PyData.eqvAll, eqv_dN, h]
    by_cases e : n = m <;> simp [e]
theorem eqv_dNN (xss yss : List (List Nat)) : PyData.eqv (dNN xss) (dNN yss) = decide (xss = yss) := by
  unfold dNN
  simp only [PyData.eqv]
  exact eqv_dNs xss yss
/-! ### new lists of lists -/
theorem paired_imp {α β : Type} {R R' : α → β → Prop} : ∀ {as : List α} {xs : List β}, Paired R as xs → (∀ a x, a ∈ as → R a x → R' a x) → Paired R' as xs
  | _, _, .nil, _ => .nil
  | _, _, .cons r t, f => .cons (f _ _ (List.mem_cons_self ..) r) (paired_imp t fun a x m => f a x (List.mem_cons_of_mem _ m))
theorem paired_snoc {α β : Type} {R : α → β → Prop} : ∀ {as : List α} {xs : List β} {a : α} {x : β}, Paired R as xs → R a x → Paired R (as ++ [a]) (xs ++ [x])
  | _, _, _, _, .nil, h => .cons h .nil
  | _, _, _, _, .cons r t, h => .cons r (paired_snoc t h)
abbrev LA (H : Hp) (as : List Addr) (xss : List (List Nat)) : Prop := Paired (fun a xs => H a = some (.lst (L xs))) as xss
def LL (H : Hp) (p : Addr) (xss : List (List Nat)) : Prop := ∃ as : List Addr, H p = some (.lst (as.map V.ref)) ∧ LA H as xss
def LLn (H0 H : Hp) (p : Addr) (xss : List (List Nat)) : Prop := ∃ as : List Addr, H p = some (.lst (as.map V.ref)) ∧ LA H as xss ∧ ∀ a ∈ as, H0 a = none ∧ a ≠ p
theorem LLn.ll {H0 H : Hp} {p : Addr} {xss : List (List Nat)} (h : LLn H0 H p xss) : LL H p xss := by
  obtain ⟨as, h1, h2, _⟩ := h
  exact ⟨as, h1, h2⟩
theorem LA.ex {H H' : Hp} {as : List Addr} {xss : List (List Nat)} (h : LA H as xss) (e : Ex H H') : LA H' as xss := paired_imp h fun a x _ q => e a _ q
theorem LA.upd {H : Hp} {as : List Addr} {xss : List (List Nat)} {p : Addr} {o : HO} (h : LA H as xss) (e : ∀ a ∈ as, a ≠ p) : LA (upd H p o) as xss := paired_imp h fun a x m q => by
  rw [upd_ne (e a m)]
  exact q
theorem LL.ex {H H' : Hp} {p : Addr} {xss : List (List Nat)} (h : LL H p xss) (e : Ex H H') : LL H' p xss := by
  obtain ⟨as, h1, h2⟩ := h
  exact ⟨as, e _ _ h1, LA.ex h2 e⟩
theorem dpAll_LA {K : PySem.W.Frag} {H : Hp} : ∀ {as : List Addr} {xss : List (List Nat)}, LA H as xss → DpAll K H (as.map V.ref) (xss.map dN)
  | _, _, .nil => .nil
  | _, _, .cons r t => .cons (dp_L (sq_of r)) (dpAll_LA t)
theorem dp_LL {K : PySem.W.Frag} {H : Hp} {p : Addr} {xss : List (List Nat)} (h : LL H p xss) : Dp K H (.ref p) (dNN xss) := by
  obtain ⟨as, h1, h2⟩ := h
  exact Dp.lst (sq_of h1) (dpAll_LA h2)
theorem LA.fresh {H : Hp} {as : List Addr} {xss : List (List Nat)} {p : Addr} (h : LA H as xss) (hp : H p = none) : ∀ a ∈ as, a ≠ p := by
  intro a ha
  have key : ∀ {as : List Addr} {xss : List (List Nat)}, LA H as xss → ∀ a ∈ as, ∃ xs, H a = some (.lst (L xs)) := by
    intro as xss h
    induction h with
    | nil => intro a ha; cases ha
    | cons r t ih =>
      intro a ha
      rcases List.mem_cons.mp ha with rfl | ha
      · exact ⟨_, r⟩
      · exact ih a ha
  obtain ⟨xs, q⟩ := key h a ha
  exact ne_of_none q hp
/-! ### further evaluations -/
section
variable {K : PySem.W.Frag} {σ : L2.St} {H H' : Hp} {ta tb te tx : TE} {t u : TT} {x y z v : V} {r : R2}
theorem et_yes : EvT tYes σ H true := fun H1 _ _ q => q H1 (Ex.refl H1)
theorem ev_cbN {r : CR1} {xs : List V} (h : EvL te σ H xs) (hr : ∀ p H1, H1 p = some (.lst xs) → Ex H H1 → RC r [.ref p] H1 z) : Ev (tCB r (tCons te tNil)) σ H z := fun H1 e Q q =>
  h H1 e _ fun p H2 _ e2 hp => hr p H2 hp (e.trans e2) H2 (Ex.refl H2) Q fun H3 e3 => q H3 (e2.trans e3)
theorem rc_isi {b : Bool} {x c : V} {t u : Value} (hc : ClsV c u) (ht : ∀ H1, Ex H H1 → TyX K H1 x t) (hk : PySem.W.kitOne K t u = some b) : RC (rIsi K) [x, c] H (.bl b) := fun H1 e Q q =>
  ⟨x, c, t, u, b, rfl, hc, ht H1 e, hk, q H1 (Ex.refl H1)⟩
theorem rc_int {i : Int} : RC cInt [.int i] H (.int i) := fun H1 _ _ q => Or.inl ⟨i, rfl, q H1 (Ex.refl H1)⟩
theorem rc_abs {i : Int} : RC cAbs [.int i] H (.int (if i < 0 then -i else i)) := fun H1 _ _ q => ⟨i, rfl, q H1 (Ex.refl H1)⟩
theorem rc_len {p : Addr} {xs : List V} (h : SqL K H p xs) : RC (cLen K) [.ref p] H (.int (xs.length : Int)) := fun H1 e _ q => ⟨p, xs, rfl, Or.inl (ex_l e h), q H1 (Ex.refl H1)⟩
theorem rcl_list {p : Addr} {xs : List V} (h : SqL K H p xs) : RCL (cList K) [.ref p] H xs := fun H1 e _ q => ⟨p, xs, rfl, Or.inl (ex_l e h), fun l hl => q l _ hl (Ex.new hl) upd_same⟩
theorem rc_all {p : Addr} {bs : List Bool} (h : SqL K H p (bs.map V.bl)) : RC (rAll K) [.ref p] H (.bl (bs.all id)) := fun H1 e _ q => ⟨p, bs, rfl, ex_l e h, q H1 (Ex.refl H1)⟩
theorem rc_min {p : Addr} {ns : List Int} {m : Int} (h : SqL K H p (ns.map V.int)) (hn : 0 < ns.length) (hm : ∀ m', m' ∈ ns → (∀ y, y ∈ ns → m' ≤ y) → m' = m) : RC (rMin K) [.ref p] H (.int m) := fun H1 e _ q => ⟨p, ns, rfl, ex_l e h, hn, fun m' a b => by
  rw [hm m' a b]
  exact q H1 (Ex.refl H1)⟩
theorem ea_1 (h : Ev ta σ H x) : EvA (tCons ta tNil) σ H [x] := ea_cons h ea_nil
theorem ea_2 (h : Ev ta σ H x) (h2 : Ev tb σ H y) : EvA (tCons ta (tCons tb tNil)) σ H [x, y] := ea_cons h (ea_cons h2 ea_nil)
theorem rv_eqD {d e : PyData} (hx : Dp K H x d) (hy : Dp K H y e) (h1 : SeqAt.shaped d = true) (h2 : SeqAt.shaped e = true) (mx : ∀ H1, Ex H H1 → Dp K H x d → Dp K H1 x d) (my : ∀ H1, Ex H H1 → Dp K H y e → Dp K H1 y e) : RV (rEqD K) x y H (.bl (PyData.eqv d e)) := fun H1 ex _ q =>
  ⟨d, e, mx H1 ex hx, my H1 ex hy, h1, h2, q H1 (Ex.refl H1)⟩
mutual
theorem dp_ex {H H1 : Hp} (e : Ex H H1) : ∀ {v : V} {d : PyData}, Dp K H v d → Dp K H1 v d
  | _, _, .non => .non
  | _, _, .bl b => .bl b
  | _, _, .int i => .int i
  | _, _, .str x => .str x
  | _, _, .lst h a => .lst (ex_l e h) (dpAll_ex e a)
  | _, _, .tup h a => .tup (ex_t e h) (dpAll_ex e a)
theorem dpAll_ex {H H1 : Hp} (e : Ex H H1) : ∀ {v : List V} {d : List PyData}, DpAll K H v d → DpAll K H1 v d
  | _, _, .nil => .nil
  | _, _, .cons h a => .cons (dp_ex e h) (dpAll_ex e a)
end
theorem rv_eqD' {d e : PyData} (hx : Dp K H x d) (hy : Dp K H y e) (h1 : SeqAt.shaped d = true) (h2 : SeqAt.shaped e = true) : RV (rEqD K) x y H (.bl (PyData.eqv d e)) := fun H1 ex _ q =>
  ⟨d, e, dp_ex ex hx, dp_ex ex hy, h1, h2, q H1 (Ex.refl H1)⟩
theorem rv_neD' {d e : PyData} (hx : Dp K H x d) (hy : Dp K H y e) (h1 : SeqAt.shaped d = true) (h2 : SeqAt.shaped e = true) : RV (rNeD K) x y H (.bl (!PyData.eqv d e)) := fun H1 ex _ q =>
  ⟨d, e, dp_ex ex hx, dp_ex ex hy, h1, h2, q H1 (Ex.refl H1)⟩
theorem rv_eqN {a b : Addr} {ns ms : List Nat} (h1 : SqL K H a (L ns)) (h2 : SqL K H b (L ms)) : RV (rEqD K) (.ref a) (.ref b) H (.bl (decide (ns = ms))) := by
  rw [← eqv_dN]
  exact rv_eqD' (dp_L h1) (dp_L h2) (shaped_dN _) (shaped_dN _)
theorem rv_neN {a b : Addr} {ns ms : List Nat} (h1 : SqL K H a (L ns)) (h2 : SqL K H b (L ms)) : RV (rNeD K) (.ref a) (.ref b) H (.bl (!decide (ns = ms))) := by
  rw [← eqv_dN]
  exact rv_neD' (dp_L h1) (dp_L h2) (shaped_dN _) (shaped_dN _)
theorem rv_eqNN {a b : Addr} {ns ms : List (List Nat)} (h1 : LL H a ns) (h2 : LL H b ms) : RV (rEqD K) (.ref a) (.ref b) H (.bl (decide (ns = ms))) := by
  rw [← eqv_dNN]
  exact rv_eqD' (dp_LL h1) (dp_LL h2) (shaped_dNN _) (shaped_dNN _)
theorem rv_neNN {a b : Addr} {ns ms : List (List Nat)} (h1 : LL H a ns) (h2 : LL H b ms) : RV (rNeD K) (.ref a) (.ref b) H (.bl (!decide (ns = ms))) := by
  rw [← eqv_dNN]
  exact rv_neD' (dp_LL h1) (dp_LL h2) (shaped_dNN _) (shaped_dNN _)
theorem ev_fld {a C dx : Addr} {fs : List (Str × V)} {f : Str} (h : Ev ta σ H (.ref a)) (ho : H a = some (.ins C dx fs)) (hc : Cls K C) (hn : NoAttr K C f) (hl : fs.lookup f = some v) : Ev (tFld K ta f) σ H v := fun H1 e Q q =>
  h H1 e _ fun H2 e2 => ⟨a, C, dx, fs, v, rfl, e2 _ _ (e _ _ ho), hc, hn, hl, q H2 e2⟩
/-- a call of a method that gives a value, a new list -/
theorem ev_meth {a C dx : Addr} {fs : List (Str × V)} {m : Str} {sp : Sp} {ta : TE} {tb : TA} {vs : List V} {E : XK} (h : Ev ta σ H (.ref a)) (ho : H a = some (.ins C dx fs)) (hl : fs.lookup m = none) (ha : EvA tb σ H vs) (hs : SpV sp (.ref a :: vs) H v) : Ev (tMeth C m sp [] E ta tb) σ H v := fun H1 e Q q =>
  h H1 e _ fun H2 e2 => ⟨a, dx, fs, rfl, e2 _ _ (e _ _ ho), hl, ha H2 (e.trans e2) _ fun H3 e3 => by
    have e4 := (e.trans e2).trans e3
    have q2 := hs H3 e4 Q (fun H4 e5 => q H4 ((e2.trans e3).trans e5)) E
    simpa using q2⟩
theorem el_meth {a C dx : Addr} {fs : List (Str × V)} {m : Str} {sp : Sp} {ta : TE} {tb : TA} {vs xs : List V} {E : XK} (h : Ev ta σ H (.ref a)) (ho : H a = some (.ins C dx fs)) (hl : fs.lookup m = none) (ha : EvA tb σ H vs) (hs : SpL sp (.ref a :: vs) H xs) : EvL (tMeth C m sp [] E ta tb) σ H xs := fun H1 e Q q =>
  h H1 e _ fun H2 e2 => ⟨a, dx, fs, rfl, e2 _ _ (e _ _ ho), hl, ha H2 (e.trans e2) _ fun H3 e3 => by
    have e4 := (e.trans e2).trans e3
    have q2 := hs H3 e4 Q (fun p H4 hp e5 h5 => q p H4 (fresh_back (e2.trans e3) hp) ((e2.trans e3).trans e5) h5) E
    simpa using q2⟩
end
/-- all but the object at t is kept -/
def ExO (t : Addr) (H H' : Hp) : Prop := ∀ a o, a ≠ t → H a = some o → H' a = some o
theorem ExO.of {t : Addr} {H H' : Hp} (e : Ex H H') : ExO t H H' := fun a o _ h => e a o h
theorem ExO.refl {t : Addr} {H : Hp} : ExO t H H := fun _ _ _ h => h
theorem ExO.trans {t : Addr} {H H1 H2 : Hp} (a : ExO t H H1) (b : ExO t H1 H2) : ExO t H H2 := fun x o n h => b x o n (a x o n h)
theorem ExO.upd {t : Addr} {H H' : Hp} {o : HO} (a : ExO t H H') : ExO t H (upd H' t o) := fun x o n h => by
  rw [upd_ne n]
  exact a x o n h
theorem ExO.mut {t p : Addr} {H H' : Hp} {o : HO} (a : ExO t H H') (h : H p = none) : ExO t H (L2.upd H' p o) := fun x u n hx => by
  rw [upd_ne (ne_of_none hx h)]
  exact a x u n hx
theorem ExO.mono {t : Addr} {H H' : Hp} (a : ExO t H H') (h : H t = none) : Ex H H' := fun x o hx => a x o (ne_of_none hx h) hx
theorem ExO.sq {K : PySem.W.Frag} {t : Addr} {H H' : Hp} {p : Addr} {xs : List V} (e : ExO t H H') (n : p ≠ t) (h : SqL K H p xs) : SqL K H' p xs := by
  rcases h with h | h
  · rcases h with h | ⟨o, h⟩
    · exact Or.inl (Or.inl (e p _ n h))
    · exact Or.inl (Or.inr ⟨o, e p _ n h⟩)
  · exact Or.inr h
/-- a tape: two numbers, the second one below 2147483647 -/
def Tp (o : Option HO) : Prop := ∃ x y : Int, o = some (.lst [.int x, .int y]) ∧ 0 ≤ x ∧ 0 ≤ y ∧ y < 2147483647
end Hm
/-! len(set(xs)), xs ints of any number -/
namespace Hm
open PySem PySem.Spec PyProof.Rows
def fmI (ns : List Int) (i : Nat) : List Int := PyProof.Rows.firstMet (fun i => ns.getD i 0) i
def cntI (ns : List Int) : Nat := (fmI ns ns.length).length
theorem fmI_succ (ns : List Int) (i : Nat) : fmI ns (i + 1) = if (fmI ns i).any (· == ns.getD i 0) then fmI ns i else fmI ns i ++ [ns.getD i 0] := PyProof.Rows.firstMet_succ _ _
theorem fmI_len (ns : List Int) : ∀ i, (fmI ns i).length ≤ i
  | 0 => Nat.le_refl _
  | i + 1 => by
    have h := fmI_len ns i
    rw [fmI_succ]
    split
    · omega
    · rw [List.length_append]
      show _ + 1 ≤ _
      omega
theorem fmI_full (ns : List Int) : ∀ i, i ≤ ns.length → (fmI ns i).length = i → fmI ns i = ns.take i ∧ (ns.take i).Nodup
  | 0, _, _ => ⟨rfl, List.nodup_nil⟩
  | i + 1, hi, h => by
    rw [fmI_succ] at h ⊢
    have hlt : i < ns.length := hi
    have e1 : ns.getD i 0 = ns[i] := by
      rw [List.getD_eq_getElem?_getD, List.getElem?_eq_getElem hlt] <;> rfl
    have e2 : ns.take (i + 1) = ns.take i ++ [ns[i]] := by
      rw [List.take_add_one, List.getElem?_eq_getElem hlt] <;> rfl
    by_cases hb : (fmI ns i).any (· == ns.getD i 0) = true
    · rw [if_pos hb] at h
      have := fmI_len ns i
      omega
    · rw [if_neg hb] at h ⊢
      rw [List.length_append] at h
      have h2 : [ns.getD i 0].length = 1 := rfl
      obtain ⟨q1, q2⟩ := fmI_full ns i (by omega) (by omega)
      rw [q1, e1, e2]
      refine ⟨rfl, ?_⟩
      refine List.nodup_append.mpr ⟨q2, by simp, fun x hx y hy e => ?_⟩
      have hy := List.mem_singleton.mp hy
      refine hb (List.any_eq_true.mpr ⟨x, by rw [q1]; exact hx, ?_⟩)
      rw [e1, e, hy]
      exact beq_self_eq_true _
theorem cntI_iff (ns : List Int) : cntI ns = ns.length ↔ ns.Nodup := by
  constructor
  · intro h
    have := (fmI_full ns ns.length (Nat.le_refl _) h).2
    rwa [List.take_length] at this
  · intro h
    unfold cntI fmI
    rw [RZ.firstMet_nodup h ns.length (Nat.le_refl _), List.take_length]
namespace PSetI
open PySem PySem.Spec PyProof.Rows L2
def tLenI (K : PySem.W.Frag) (ta : TE) : TE := fun σ H Q => ta σ H fun x H1 => ∃ (l : Addr) (ns : List Int), x = .ref l ∧ SqL K H1 l (ns.map V.int) ∧ ns.length ≤ 4000 ∧ Q (.int (cntI ns : Nat)) H1
theorem pe_lenI {X : Cx} {a : Expr} {ta : TE} {p p2 q pos : Pos} (hc : X.calm = true) (hg : Gl X "len") (hm : X.mg "len" = none) (hg2 : Gl X "set") (hm2 : X.mg "set" = none) (ha : PE X a ta)
    (na : starEach [a] X.env = (false, eval a X.env) :: starEach [] X.env := by rfl) : PE X (.Call (.Name "len" p) [.Call (.Name "set" p2) [a] [] q] [] pos) (tLenI X.K ta) := by
  refine ⟨fun pins s σ H Q I h => ?_⟩
  refine Call_ (ld_blt I hg hm PySem.boot_len ?_)
  refine PyProof.Rows.callWith_builtin1 (PyProof.Rows.args_cons ?_ rfl) rfl rfl
  refine Call_ (ld_blt I hg2 hm2 PyProof.Rows.boot_set ?_)
  refine PyProof.Rows.callWith_type1 (PyProof.Rows.args_cons (thn (ha.run pins s σ H _ I h) fun v s1 ⟨x, H1, I1, r1, q1⟩ => PyProof.Rows.args_nil ?_) na) na rfl
  obtain ⟨l, ns, rfl, hq, hl, q1⟩ := q1
  cases r1
  obtain ⟨its, r, pl, hz⟩ := I1.list hq
  have hlen : its.toArray.size = ns.length := by rw [List.size_toArray, ← r.length, List.length_map]
  refine call_set_list (I1.ok.hd hc) pl.isList (by simpa using RZ.intsAre_vals r) (by rw [hlen]; unfold scanBound; omega) fun h' tk hS hk => ?_
  refine PyProof.Rows.args_nil ?_
  rw [hlen] at hS
  obtain ⟨o, es, ep, t, ho, hex, hd, _, _, _, hf, hn⟩ := hS
  have I2 : Inv X pins σ H1 { s1 with heap := h', toks := tk } := I1.kept fun b o e => hk b o (Heap.lt_size e) e
  have hb := fmI_len ns ns.length
  exact call_len_set ho hex hd hf (by rw [hn]; unfold fmI at hb; omega) ⟨.int (cntI ns : Nat), H1, I2.tok _, ⟨_, by rw [hn]; rfl⟩, q1⟩
end PSetI
end Hm
namespace Hm
open PySem PySem.Spec PyProof.Rows L2 Evl
/-! ### the law's draws -/
def sp_Lpick (K : PySem.W.Frag) : Sp := fun vs H Q _ => ∃ (t : Addr) (m : Int), vs = [.ref t, .int m] ∧ Tp (H t) ∧ 1 ≤ m ∧ m ≤ 1000000 ∧
  ∀ (d : Int) H', 0 ≤ d → d < m → Tp (H' t) → ExO t H H' → Q (.int d) H'
abbrev nm_Lpick : List Str := ["_law_tape_here", "_law_many", "_law_digit", "_law_mixed"]
abbrev pr_Lpick : List Str := ["_law_tape_here", "_law_many"]
def t_Lpick (K : PySem.W.Frag) : TS :=
  (tSeq (tIfS (tTest (tOp zGe (tOp (rIxL K) (tVar 0) (tC (.int 0))) (tOp zPow (tC (.int 10)) (tC (.int 18))))) (tSeq (tAsg (tOp zMod (tCB cInt (tCons (tOp (rIxL K) (tVar 0) (tC (.int 0))) tNil)) (tVar 1)) (gName 2))
      (tSeq (tAsg (tOp zDiv (tOp (rIxL K) (tVar 0) (tC (.int 0))) (tVar 1)) (gSub (tVar 0) (tC (.int 0)) rSetL))
      (tRet (tVar 2)))) tNext)
  (tSeq (tAsg (tOp zMod (tCB cInt (tCons (tOp zAdd (tOp zAdd (tOp zMul (tOp (rIxL K) (tVar 0) (tC (.int 1))) (tC (.int 48271))) (tOp zMul (tOp (rIxL K) (tVar 0) (tC (.int 0))) (tC (.int 69621)))) (tC (.int 11))) tNil)) (tC (.int 2147483647))) (gSub (tVar 0) (tC (.int 1)) rSetL))
  (tSeq (tAsg (tOp zMod (tCB cInt (tCons (tOp zAdd (tOp zAdd (tOp zMul (tOp (rIxL K) (tVar 0) (tC (.int 1))) (tOp (rIxL K) (tVar 0) (tC (.int 1)))) (tOp zMul (tOp (rIxL K) (tVar 0) (tC (.int 1))) (tC (.int 40692)))) (tC (.int 7))) tNil)) (tC (.int 2147483399))) (gName 3))
  (tRet (tOp zMod (tCB cInt (tCons (tOp zDiv (tVar 3) (tC (.int 64))) tNil)) (tVar 1))))))
abbrev Wt_Lpick (K : PySem.W.Frag) (vs : List V) (H : Hp) (Q : VK) : Prop := t_Lpick K { nx := fun _ H' => Q .non H', rt := Q } (start nm_Lpick vs) H
theorem ln_Lpick {K : PySem.W.Frag} (vs : List V) (H : Hp) (Q : VK) (E : XK) (h : sp_Lpick K vs H Q E) : vs.length = pr_Lpick.length := by
  obtain ⟨_, _, rfl, _⟩ := h
  rfl
theorem ev_ix0 {K : PySem.W.Frag} {σ : L2.St} {H : Hp} {t : Addr} {x y : Int} {i : Nat} (hs : σ[i]? = some (some (.ref t))) (h : H t = some (.lst [.int x, .int y])) : Ev (tOp (rIxL K) (tVar i) (tC (.int 0))) σ H (.int x) :=
  ev_op (ev_var hs) ev_c (rv_ixL (sq_of h) rfl)
theorem ev_ix1 {K : PySem.W.Frag} {σ : L2.St} {H : Hp} {t : Addr} {x y : Int} {i : Nat} (hs : σ[i]? = some (some (.ref t))) (h : H t = some (.lst [.int x, .int y])) : Ev (tOp (rIxL K) (tVar i) (tC (.int 1))) σ H (.int y) :=
  ev_op (ev_var hs) ev_c (rv_ixL (sq_of h) rfl)
theorem fmod_pos {a b : Int} (h : 0 < b) : 0 ≤ a.fmod b ∧ a.fmod b < b := ⟨Int.fmod_nonneg_of_pos a h, Int.fmod_lt_of_pos a h⟩
theorem fdiv_nn {a b : Int} (ha : 0 ≤ a) (hb : 0 < b) : 0 ≤ a.fdiv b := Int.fdiv_nonneg ha (Int.le_of_lt hb)
theorem rd_Lpick {K : PySem.W.Frag} (F : KF K) (vs : List V) (H : Hp) (Q : VK) (E : XK) (h : sp_Lpick K vs H Q E) : Wt_Lpick K vs H Q := by
  obtain ⟨t, m, rfl, ⟨x, y, ht, hx, hy, hy2⟩, hm, hm2, k⟩ := h
  show t_Lpick K _ [some (.ref t), some (.int m), none, none] H
  have hm0 : m ≠ 0 := by omega
  refine q_when (b := decide ((10 : Int) ^ (18 : Int).toNat ≤ x)) (et_test (ev_op (ev_ix0 rfl ht) (ev_op ev_c ev_c (rv_I ⟨by decide, by decide, by decide⟩)) rv_I0)) (fun hb H1 e1 => ?_) (fun hb H1 e1 => ?_)
  · have ht1 := e1 _ _ ht
    refine q_asg (ev_op (ev_cb (ea_1 (ev_ix0 rfl ht1)) rc_int) (ev_var rfl) (rv_I hm0)) (fun H2 e2 => ?_)
    have ht2 := e2 _ _ ht1
    refine q_setL (j := 0) ht2 (ev_op (ev_ix0 rfl ht2) (ev_var rfl) (rv_I ⟨hm0, by omega⟩)) (ev_var rfl) ev_c (by show 0 < 2; decide) (fun H3 e3 => ?_)
    refine s_ret (ev_var rfl) (fun H4 e4 => ?_)
    obtain ⟨d1, d2⟩ := fmod_pos (a := x) (b := m) (by omega)
    refine k _ _ d1 d2 ⟨_, _, e4 _ _ upd_same, fdiv_nn hx (by omega), hy, hy2⟩ ?_
    exact ((ExO.of (e1.trans (e2.trans e3))).upd).trans (ExO.of e4)
  · have hb := of_decide_eq_false hb
    have hx2 : x < 1000000000000000000 := by
      have : (10 : Int) ^ (18 : Int).toNat = 1000000000000000000 := by decide
      omega
    have ht1 := e1 _ _ ht
    refine q_setL (j := 1) ht1 (ev_op (ev_cb (ea_1 (ev_op (ev_op (ev_op (ev_ix1 rfl ht1) ev_c (rv_I (Or.inr ⟨by decide, by decide⟩))) (ev_op (ev_ix0 rfl ht1) ev_c (rv_I (Or.inr ⟨by decide, by decide⟩))) rv_I0) ev_c rv_I0)) rc_int) ev_c (rv_I (by decide))) (ev_var rfl) ev_c (by show 1 < 2; decide) (fun H2 e2 => ?_)
    obtain ⟨z1, z2⟩ := fmod_pos (a := y * 48271 + x * 69621 + 11) (b := 2147483647) (by decide)
    have ht2 : (upd H2 t (.lst ([V.int x, V.int y].set 1 (V.int ((y * 48271 + x * 69621 + 11).fmod 2147483647))))) t = some (.lst [.int x, .int ((y * 48271 + x * 69621 + 11).fmod 2147483647)]) := upd_same
    have hz : ∀ z : Int, z = (y * 48271 + x * 69621 + 11).fmod 2147483647 → 0 ≤ z ∧ z < 2147483647 := fun z e => by rw [e]; exact ⟨z1, z2⟩
    revert ht2
    generalize (y * 48271 + x * 69621 + 11).fmod 2147483647 = z at *
    intro ht2
    have hz := hz z rfl
    refine q_asg (ev_op (ev_cb (ea_1 (ev_op (ev_op (ev_op (ev_ix1 rfl ht2) (ev_ix1 rfl ht2) (rv_I (Or.inr ⟨by omega, by omega⟩))) (ev_op (ev_ix1 rfl ht2) ev_c (rv_I (Or.inr ⟨by decide, by decide⟩))) rv_I0) ev_c rv_I0)) rc_int) ev_c (rv_I (by decide))) (fun H3 e3 => ?_)
    refine s_ret (ev_op (ev_cb (ea_1 (ev_op (ev_var rfl) ev_c (rv_I ⟨by decide, by decide⟩))) rc_int) (ev_var rfl) (rv_I hm0)) (fun H4 e4 => ?_)
    obtain ⟨d1, d2⟩ := fmod_pos (a := ((z * z + z * 40692 + 7).fmod 2147483399).fdiv 64) (b := m) (by omega)
    refine k _ _ d1 d2 ⟨x, z, e4 _ _ (e3 _ _ ht2), hx, hz.1, hz.2⟩ ?_
    exact ((ExO.of (e1.trans e2)).upd).trans (ExO.of (e3.trans e4))
def sp_Ltape (K : PySem.W.Frag) : Sp := fun vs H Q _ => ∃ (a : Addr) (zs : List Int) (k : Int), vs = [.ref a, .int k] ∧ SqL K H a (zs.map V.int) ∧ 0 ≤ k ∧ k ≤ 100 ∧
  ∀ p H', H p = none → Tp (H' p) → Ex H H' → Q (.ref p) H'
abbrev nm_Ltape : List Str := ["_law_script", "_law_k", "_law_cell"]
abbrev pr_Ltape : List Str := ["_law_script", "_law_k"]
def t_Ltape (K : PySem.W.Frag) : TS :=
  (tSeq (tAsg (tC (.int 0)) (gName 2))
  (tSeq (tIfS (tTest (tOp (rNeD K) (tVar 0) (tLst tNil))) (tAsg (tOp (rIxL K) (tVar 0) (tOp zMod (tCB cInt (tCons (tVar 1) tNil)) (tCB (cLen K) (tCons (tVar 0) tNil)))) (gName 2)) tNext)
  (tRet (tLst (tCons (tCB cAbs (tCons (tVar 2) tNil)) (tCons (tOp zAdd (tOp zMul (tC (.int 7919)) (tVar 1)) (tC (.int 104729))) tNil))))))
abbrev Wt_Ltape (K : PySem.W.Frag) (vs : List V) (H : Hp) (Q : VK) : Prop := t_Ltape K { nx := fun _ H' => Q .non H', rt := Q } (start nm_Ltape vs) H
theorem ln_Ltape {K : PySem.W.Frag} (vs : List V) (H : Hp) (Q : VK) (E : XK) (h : sp_Ltape K vs H Q E) : vs.length = pr_Ltape.length := by
  obtain ⟨_, _, _, rfl, _⟩ := h
  rfl
theorem dpAll_ints {K : PySem.W.Frag} {H : Hp} : ∀ zs : List Int, DpAll K H (zs.map V.int) (zs.map PyData.int)
  | [] => .nil
  | z :: r => .cons (.int z) (dpAll_ints r)
theorem shaped_ints (zs : List Int) : SeqAt.shaped (.list (zs.map PyData.int)) = true := by
  have h : ∀ zs : List Int, PyData.canLayAll0 (zs.map PyData.int) = true ∧ PyData.depthAll (zs.map PyData.int) = 0 := by
    intro zs
    induction zs with
    | nil => exact ⟨by simp [PyData.canLayAll0], by simp [PyData.depthAll]⟩
    | cons n r ih => exact ⟨by simp [PyData.canLayAll0, PyData.canLay0, ih.1], by simp [PyData.depthAll, PyData.depth, ih.2]⟩
  obtain ⟨h1, h2⟩ := h zs
  have e1 : PyData.canLay0 (.list (zs.map PyData.int)) = true := by simp [PyData.canLay0, h1]
  have e2 : PyData.depth (.list (zs.map PyData.int)) ≤ 64 := by simp [PyData.depth, h2]
  unfold SeqAt.shaped
  rw [e1, decide_eq_true e2]
  rfl
theorem eqv_nil (zs : List Int) : PyData.eqv (.list (zs.map PyData.int)) (.list []) = zs.isEmpty := by
  cases zs <;> simp [PyData.eqv, PyData.eqvAll]
theorem rd_Ltape {K : PySem.W.Frag} (F : KF K) (vs : List V) (H : Hp) (Q : VK) (E : XK) (h : sp_Ltape K vs H Q E) : Wt_Ltape K vs H Q := by
  obtain ⟨a, zs, k, rfl, hS, k0, k1, q⟩ := h
  show t_Ltape K _ [some (.ref a), some (.int k), none] H
  refine q_asg ev_c (fun H1 e1 => ?_)
  have hS1 := ex_l e1 hS
  have fin : ∀ (c : Int) (H2 : Hp), Ex H H2 → tRet (tLst (tCons (tCB cAbs (tCons (tVar 2) tNil)) (tCons (tOp zAdd (tOp zMul (tC (.int 7919)) (tVar 1)) (tC (.int 104729))) tNil))) { nx := fun _ H' => Q .non H', rt := Q } [some (.ref a), some (.int k), some (.int c)] H2 := by
    intro c H2 e2
    refine s_retL (el_lst (ea_2 (ev_cb (ea_1 (ev_var rfl)) rc_abs) (ev_op (ev_op ev_c (ev_var rfl) (rv_I (Or.inl ⟨by decide, by decide⟩))) ev_c rv_I0)) (by show 2 ≤ 100000; decide)) (fun p H3 hp e3 h3 => ?_)
    refine q p H3 (fresh_back e2 hp) ⟨_, _, h3, ?_, by dsimp only; omega, by dsimp only; omega⟩ (e2.trans e3)
    split <;> omega
  refine q_when (b := !zs.isEmpty) (et_test (ev_opL (xs := []) (ev_var rfl) (el_lst ea_nil (Nat.zero_le _)) (fun p H2 hp e2 => ?_))) (fun hb H2 e2 => ?_) (fun hb H2 e2 => ?_)
  · rw [← eqv_nil]
    exact rv_neD' (Dp.lst (ex_l e2 hS1) (dpAll_ints zs)) (Dp.lst (sq_of hp) .nil) (shaped_ints zs) (by decide)
  · have hS2 := ex_l e2 hS1
    have hl : 0 < zs.length := by
      cases zs with
      | nil => cases hb
      | cons z r => exact Nat.succ_pos _
    have hl2 : (zs.map V.int).length = zs.length := List.length_map ..
    obtain ⟨m1, m2⟩ := fmod_pos (a := k) (b := ((zs.map V.int).length : Int)) (by omega)
    have hj : (k.fmod ((zs.map V.int).length : Int)).toNat < zs.length := by omega
    have hat : atI (zs.map V.int) (k.fmod ((zs.map V.int).length : Int)) = some (.int (zs[(k.fmod ((zs.map V.int).length : Int)).toNat]'hj)) := by
      refine at_of (j := (k.fmod ((zs.map V.int).length : Int)).toNat) (by omega) ?_
      rw [List.getElem?_map, List.getElem?_eq_getElem hj]
      rfl
    refine s_asg (ev_op (ev_var rfl) (ev_op (ev_cb (ea_1 (ev_var rfl)) rc_int) (ev_cb (ea_1 (ev_var rfl)) (rc_len hS2)) (rv_I (by omega))) (rv_ixL hS2 hat)) (fun H3 e3 => ?_)
    exact fin _ H3 (e1.trans (e2.trans e3))
  · exact fin 0 H2 (e1.trans e2)
end Hm
namespace Hm
open PySem PySem.Spec PyProof.Rows L2 Evl
section
variable {K : PySem.W.Frag} {σ : L2.St} {H : Hp} {ta tb te : TE} {D : Ends} {tz : TS}
theorem q_asgC {sp : Sp} {E : XK} {ta : TA} {vs : List V} {i : Nat} (h : EvA ta σ H vs) (k : ∀ H1, Ex H H1 → sp vs H1 (fun v H2 => tz D (σ.set i (some v)) H2) E) : tSeq (tAsg (tCall sp [] E ta) (gName i)) tz D σ H :=
  h H (Ex.refl H) _ fun H1 e => by
    show sp (vs ++ []) H1 _ E
    rw [List.append_nil]
    exact k H1 e
theorem s_asgC {sp : Sp} {E : XK} {ta : TA} {vs : List V} {i : Nat} (h : EvA ta σ H vs) (k : ∀ H1, Ex H H1 → sp vs H1 (fun v H2 => D.nx (σ.set i (some v)) H2) E) : tAsg (tCall sp [] E ta) (gName i) D σ H :=
  h H (Ex.refl H) _ fun H1 e => by
    show sp (vs ++ []) H1 _ E
    rw [List.append_nil]
    exact k H1 e
theorem s_retC {sp : Sp} {E : XK} {ta : TA} {vs : List V} (h : EvA ta σ H vs) (k : ∀ H1, Ex H H1 → sp vs H1 D.rt E) : tRet (tCall sp [] E ta) D σ H :=
  h H (Ex.refl H) _ fun H1 e => by
    show sp (vs ++ []) H1 _ E
    rw [List.append_nil]
    exact k H1 e
theorem el_cat {xs ys : List V} (ha : EvL ta σ H xs) (hb : EvL tb σ H ys) (hz : xs.length + ys.length ≤ 100000) : EvL (tOp rCat ta tb) σ H (xs ++ ys) := fun H1 e Q q =>
  ha H1 e _ fun p H2 _ e2 h2 => hb H2 (e.trans e2) _ fun p' H3 _ e3 h3 => ⟨p, p', xs, ys, rfl, rfl, e3 _ _ h2, h3, sz_of hz, fun r hr => q r _ (fresh_back (e2.trans e3) hr) ((e2.trans e3).trans (Ex.new hr)) upd_same⟩
end
theorem given_all (n : Nat) (v : Nat → V) : given n (fun _ => true) v = (List.range n).map v := by
  show ((List.range n).filter fun _ => true).map v = _
  rw [List.filter_eq_self.mpr fun _ _ => rfl]
theorem cut_to {xs : List V} {j : Nat} (h : j ≤ xs.length) : cutV xs none (some (j : Int)) = xs.take j := by
  unfold cutV
  rw [HT.sIx_none, HT.sIx_nat, Nat.min_eq_left h]
  rfl
theorem cut_from {xs : List V} {j : Nat} (h : j ≤ xs.length) : cutV xs (some (j : Int)) none = xs.drop j := by
  unfold cutV
  rw [HT.sIx_none, HT.sIx_nat, Nat.min_eq_left h]
  rw [List.take_of_length_le (by rw [List.length_drop]; exact Nat.le_refl _)]
theorem L_take (ns : List Nat) (j : Nat) : (L ns).take j = L (ns.take j) := by unfold L; rw [List.map_take]
theorem L_drop (ns : List Nat) (j : Nat) : (L ns).drop j = L (ns.drop j) := by unfold L; rw [List.map_drop]
theorem perm_out {l : List Nat} {j : Nat} (h : j < l.length) : (fn l j :: (l.take j ++ l.drop (j + 1))).Perm l := by
  have e : l = l.take j ++ fn l j :: l.drop (j + 1) := by
    have h2 : l.drop j = fn l j :: l.drop (j + 1) := by
      rw [List.drop_eq_getElem_cons h]
      have h3 := fn_get h
      rw [List.getElem?_eq_getElem h] at h3
      rw [Option.some.inj h3]
    rw [← h2, List.take_append_drop]
  have h4 : (l.take j ++ fn l j :: l.drop (j + 1)).Perm (fn l j :: (l.take j ++ l.drop (j + 1))) := List.perm_middle
  rw [← e] at h4
  exact h4.symm

def sp_Lnexts (K : PySem.W.Frag) : Sp := fun vs H Q _ => ∃ (t : Addr) (e : Nat), vs = [.ref t, .int (e : Int)] ∧ Tp (H t) ∧ e ≤ 60 ∧
  ∀ p H' ns, H p = none → H' p = some (.lst (L ns)) → IsP ns → ns.length = 2 * e → Tp (H' t) → ExO t H H' → Q (.ref p) H'
abbrev nm_Lnexts : List Str := ["_law_tape_here", "_law_edges", "_law_k", "_law_left", "_law_nexts_here", "_law_at"]
abbrev pr_Lnexts : List Str := ["_law_tape_here", "_law_edges"]
def t_Lnexts (K : PySem.W.Frag) : TS :=
  (tSeq (tAsg (tLc (iRng1 (tCons (tOp zMul (tC (.int 2)) (tVar 1)) tNil)) (gName 2) tYes (tVar 2) [2]) (gName 3))
  (tSeq (tAsg (tLst tNil) (gName 4))
  (tSeq (tFor (iRng1 (tCons (tOp zMul (tC (.int 2)) (tVar 1)) tNil)) (gName 2) (tSeq (tAsg (tCall (sp_Lpick K) [] E0 (tCons (tVar 0) (tCons (tCB (cLen K) (tCons (tVar 3) tNil)) tNil))) (gName 5))
      (tSeq (tDrop (tBM K "list" rAppend (tVar 4) (tCons (tOp (rIxL K) (tVar 3) (tVar 5)) tNil)))
      (tAsg (tOp rCat (tSl (rSlL K) (tVar 3) tNoPart (tPart (tVar 5))) (tSl (rSlL K) (tVar 3) (tPart (tOp zAdd (tVar 5) (tC (.int 1)))) tNoPart)) (gName 3)))))
  (tRet (tVar 4)))))
abbrev Wt_Lnexts (K : PySem.W.Frag) (vs : List V) (H : Hp) (Q : VK) : Prop := t_Lnexts K { nx := fun _ H' => Q .non H', rt := Q } (start nm_Lnexts vs) H
theorem ln_Lnexts {K : PySem.W.Frag} (vs : List V) (H : Hp) (Q : VK) (E : XK) (h : sp_Lnexts K vs H Q E) : vs.length = pr_Lnexts.length := by
  obtain ⟨_, _, rfl, _⟩ := h
  rfl
theorem tp_ne {H : Hp} {t p : Addr} (h : Tp (H t)) (hp : H p = none) : p ≠ t := by
  obtain ⟨_, _, h, _⟩ := h
  exact (ne_of_none h hp).symm
theorem tp_ex {H H' : Hp} {t : Addr} (h : Tp (H t)) (e : Ex H H') : Tp (H' t) := by
  obtain ⟨x, y, h, r⟩ := h
  exact ⟨x, y, e _ _ h, r⟩
theorem rd_Lnexts {K : PySem.W.Frag} (F : KF K) (vs : List V) (H : Hp) (Q : VK) (E : XK) (h : sp_Lnexts K vs H Q E) : Wt_Lnexts K vs H Q := by
  obtain ⟨t, e, rfl, ht, he, k⟩ := h
  show t_Lnexts K _ [some (.ref t), some (.int (e : Int)), none, none, none, none] H
  have hn : ∀ σ H1, σ[1]? = some (some (V.int (e : Int))) → EvA (tCons (tOp zMul (tC (.int 2)) (tVar 1)) tNil) σ H1 [.int (2 * (e : Int))] := fun σ H1 hs => ea_1 (ev_op ev_c (ev_var hs) (rv_I (Or.inl ⟨by decide, by decide⟩)))
  have h2 : ((2 * (e : Int)).toNat) = 2 * e := by omega
  refine q_asgL (xs := L (List.range (2 * e))) ?_ (fun pl H1 hpl e1 h1 => ?_)
  · have := el_lcR1 (σ := [some (.ref t), some (.int (e : Int)), none, none, none, none]) (H := H) (j := 2) (vs := [2]) (t := tYes) (te := tVar 2) (fun _ => true) (fun i => vi i) (hn _ H rfl) (by omega) (fun _ => rfl) (fun i H1 _ _ => et_yes) (fun i H1 _ _ _ => ev_var rfl)
    rw [given_all, h2] at this
    exact this
  refine q_asgL (el_lst ea_nil (Nat.zero_le _)) (fun pn H2 hpn e2 hp2 => ?_)
  have hpn0 : H pn = none := fresh_back e1 hpn
  have hpt : pn ≠ t := tp_ne ht hpn0
  refine q_forR1 (hn _ _ rfl) (by omega) (fun i σ' H' => ∃ (left done : List Nat) (pl : Addr) (v2 v5 : Option V), σ' = [some (.ref t), some (.int (e : Int)), v2, some (.ref pl), some (.ref pn), v5] ∧
      H' pl = some (.lst (L left)) ∧ H' pn = some (.lst (L done)) ∧ pl ≠ pn ∧ pl ≠ t ∧ Tp (H' t) ∧ ExO t H H' ∧ (done ++ left).Perm (List.range (2 * e)) ∧ done.length = i) ?_ ?_ ?_
  · intro H3 e3
    refine ⟨List.range (2 * e), [], pl, _, _, rfl, e3 _ _ (e2 _ _ h1), e3 _ _ hp2, ne_of_none h1 hpn, tp_ne ht hpl, tp_ex (tp_ex (tp_ex ht e1) e2) e3, ExO.of (e1.trans (e2.trans e3)), ?_, rfl⟩
    exact List.Perm.refl _
  · rintro i σ' H' hi ⟨left, done, pl, v2, v5, rfl, a1, a2, a3, a4, a5, a6, a7, a8⟩
    have hlen : done.length + left.length = 2 * e := by
      have := a7.length_eq
      rw [List.length_append, List.length_range] at this
      exact this
    have hleft : 0 < left.length := by omega
    refine q_asgC (ea_2 (ev_var rfl) (ev_cb (ea_1 (ev_var rfl)) (rc_len (sq_of a1)))) (fun H1 e1 => ?_)
    refine ⟨t, _, rfl, tp_ex a5 e1, by rw [L_len]; omega, by rw [L_len]; omega, fun d H2 d0 d1 t2 x2 => ?_⟩
    have b1 : H2 pl = some (.lst (L left)) := x2 _ _ a4 (e1 _ _ a1)
    have b2 : H2 pn = some (.lst (L done)) := x2 _ _ hpt (e1 _ _ a2)
    rw [L_len] at d1
    obtain ⟨j, rfl⟩ : ∃ j : Nat, d = (j : Int) := ⟨d.toNat, by omega⟩
    have hj : j < left.length := by omega
    have hx2 : ExO t H H2 := a6.trans ((ExO.of e1).trans x2)
    refine q_app b2 (ev_var rfl) (ev_op (ev_var rfl) (ev_var rfl) (rv_ixL (sq_of b1) (L_at hj))) (by rw [L_len]; omega) (fun H3 e3 => ?_)
    have c1 : (upd H3 pn (.lst (L done ++ [vi (fn left j)]))) pl = some (.lst (L left)) := by
      rw [upd_ne a3]
      exact e3 _ _ b1
    have el1 := el_sl (K := K) (te := tVar 3) (tl := tNoPart) (th := tPart (tVar 5)) (σ := [some (.ref t), some (.int (e : Int)), some (vi i), some (.ref pl), some (.ref pn), some (vi j)]) (ev_var rfl) eo_none (eo_some (ev_var rfl)) (sq_of c1)
    have el2 := el_sl (K := K) (te := tVar 3) (tl := tPart (tOp zAdd (tVar 5) (tC (.int 1)))) (th := tNoPart) (σ := [some (.ref t), some (.int (e : Int)), some (vi i), some (.ref pl), some (.ref pn), some (vi j)]) (ev_var rfl) (eo_some (ev_op (ev_var rfl) ev_c rv_I0)) eo_none (sq_of c1)
    have ej : ((j : Int) + 1) = ((j + 1 : Nat) : Int) := by omega
    rw [cut_to (by rw [L_len]; omega), L_take] at el1
    simp only [ej] at el2
    rw [cut_from (by rw [L_len]; omega), L_drop] at el2
    refine s_asgL (el_cat el1 el2 (by rw [L_len, L_len, List.length_take, List.length_drop]; omega)) (fun pq H4 hpq e4 h4 => ?_)
    have hq1 : pq ≠ pn := (ne_of_none upd_same hpq).symm
    have t3 : Tp ((upd H3 pn (.lst (L done ++ [vi (fn left j)]))) t) := by
      rw [upd_ne hpt.symm]
      exact tp_ex t2 e3
    have hq2 : pq ≠ t := tp_ne t3 hpq
    refine ⟨left.take j ++ left.drop (j + 1), done ++ [fn left j], pq, _, _, rfl, by rw [h4, L_app], by rw [e4 _ _ upd_same, L_app]; rfl, hq1, hq2, tp_ex t3 e4, ((hx2.trans (ExO.of e3)).mut hpn0).trans (ExO.of e4), ?_, by rw [List.length_append]; show done.length + 1 = i + 1; omega⟩
    refine List.Perm.trans ?_ a7
    rw [List.append_assoc]
    exact List.Perm.append_left _ (perm_out hj)
  · rintro σ' H' ⟨left, done, pl, v2, v5, rfl, a1, a2, a3, a4, a5, a6, a7, a8⟩
    rw [h2] at a8
    have hlen : done.length + left.length = 2 * e := by
      have := a7.length_eq
      rw [List.length_append, List.length_range] at this
      exact this
    have hl0 : left = [] := List.eq_nil_of_length_eq_zero (by omega)
    subst hl0
    rw [List.append_nil] at a7
    refine s_ret (ev_var rfl) (fun H1 e1 => ?_)
    exact k pn H1 done hpn0 (e1 _ _ a2) ⟨by rw [a8]; exact a7⟩ a8 (tp_ex a5 e1) (a6.trans (ExO.of e1))

def sp_Lsize (K : PySem.W.Frag) : Sp := fun vs H Q _ => ∃ t : Addr, vs = [.ref t] ∧ Tp (H t) ∧ ∀ (e : Nat) H', e ≤ 30 → Tp (H' t) → ExO t H H' → Q (.int (e : Int)) H'
abbrev nm_Lsize : List Str := ["_law_tape_here", "_law_choice"]
abbrev pr_Lsize : List Str := ["_law_tape_here"]
def t_Lsize (K : PySem.W.Frag) : TS :=
  (tSeq (tAsg (tCall (sp_Lpick K) [] E0 (tCons (tVar 0) (tCons (tC (.int 32)) tNil))) (gName 1))
  (tSeq (tIfS (tTest (tOp rEq (tVar 1) (tC (.int 0)))) (tRet (tC (.int 30))) tNext)
  (tSeq (tIfS (tTest (tOp zLt (tVar 1) (tC (.int 5)))) (tRet (tCall (sp_Lpick K) [] E0 (tCons (tVar 0) (tCons (tC (.int 13)) tNil)))) tNext)
  (tRet (tCall (sp_Lpick K) [] E0 (tCons (tVar 0) (tCons (tC (.int 8)) tNil)))))))
abbrev Wt_Lsize (K : PySem.W.Frag) (vs : List V) (H : Hp) (Q : VK) : Prop := t_Lsize K { nx := fun _ H' => Q .non H', rt := Q } (start nm_Lsize vs) H
theorem ln_Lsize {K : PySem.W.Frag} (vs : List V) (H : Hp) (Q : VK) (E : XK) (h : sp_Lsize K vs H Q E) : vs.length = pr_Lsize.length := by
  obtain ⟨_, rfl, _⟩ := h
  rfl
theorem rd_Lsize {K : PySem.W.Frag} (F : KF K) (vs : List V) (H : Hp) (Q : VK) (E : XK) (h : sp_Lsize K vs H Q E) : Wt_Lsize K vs H Q := by
  obtain ⟨t, rfl, ht, k⟩ := h
  show t_Lsize K _ [some (.ref t), none] H
  have dr : ∀ (m : Int) σ H2, σ[0]? = some (some (V.ref t)) → 1 ≤ m → m ≤ 30 → Tp (H2 t) → ExO t H H2 → tRet (tCall (sp_Lpick K) [] E0 (tCons (tVar 0) (tCons (tC (.int m)) tNil))) { nx := fun _ H' => Q .non H', rt := Q } σ H2 := by
    intro m σ H2 hs m1 m2 t2 x2
    refine s_retC (ea_2 (ev_var hs) ev_c) (fun H3 e3 => ?_)
    refine ⟨t, m, rfl, tp_ex t2 e3, m1, by omega, fun d H4 d0 d1 t4 x4 => ?_⟩
    obtain ⟨j, rfl⟩ : ∃ j : Nat, d = (j : Int) := ⟨d.toNat, by omega⟩
    exact k j H4 (by omega) t4 (x2.trans ((ExO.of e3).trans x4))
  refine q_asgC (ea_2 (ev_var rfl) ev_c) (fun H1 e1 => ?_)
  refine ⟨t, 32, rfl, tp_ex ht e1, by decide, by decide, fun d H2 d0 d1 t2 x2 => ?_⟩
  have hx2 : ExO t H H2 := (ExO.of e1).trans x2
  refine q_when (b := decide (V.int d = V.int 0)) (et_test (ev_op (ev_var rfl) ev_c (rv_eq rfl))) (fun _ H3 e3 => ?_) (fun _ H3 e3 => ?_)
  · refine s_ret ev_c (fun H4 e4 => ?_)
    exact k 30 H4 (by omega) (tp_ex t2 (e3.trans e4)) (hx2.trans (ExO.of (e3.trans e4)))
  · refine q_when (b := decide (d < 5)) (et_test (ev_op (ev_var rfl) ev_c rv_I0)) (fun _ H4 e4 => ?_) (fun _ H4 e4 => ?_)
    · exact dr 13 _ H4 rfl (by decide) (by decide) (tp_ex t2 (e3.trans e4)) (hx2.trans (ExO.of (e3.trans e4)))
    · exact dr 8 _ H4 rfl (by decide) (by decide) (tp_ex t2 (e3.trans e4)) (hx2.trans (ExO.of (e3.trans e4)))

/-! ### the law's rounds -/
def sp_Ltwin (K : PySem.W.Frag) : Sp := fun vs H Q _ => ∃ h : Nat, vs = [vi h] ∧ ∀ H', Ex H H' → Q (vi (tw h)) H'
abbrev nm_Ltwin : List Str := ["_law_half"]
abbrev pr_Ltwin : List Str := ["_law_half"]
def t_Ltwin (K : PySem.W.Frag) : TS :=
  (tRet (tOp zSub (tOp zAdd (tVar 0) (tC (.int 1))) (tOp zMul (tC (.int 2)) (tOp zMod (tCB cInt (tCons (tVar 0) tNil)) (tC (.int 2))))))
abbrev Wt_Ltwin (K : PySem.W.Frag) (vs : List V) (H : Hp) (Q : VK) : Prop := t_Ltwin K { nx := fun _ H' => Q .non H', rt := Q } (start nm_Ltwin vs) H
theorem ln_Ltwin {K : PySem.W.Frag} (vs : List V) (H : Hp) (Q : VK) (E : XK) (h : sp_Ltwin K vs H Q E) : vs.length = pr_Ltwin.length := by
  obtain ⟨_, rfl, _⟩ := h
  rfl
theorem tw_int (h : Nat) : (h : Int) + 1 - 2 * (h : Int).fmod 2 = ((tw h : Nat) : Int) := by
  rw [Int.fmod_eq_emod_of_nonneg _ (by decide)]
  unfold tw
  split <;> omega
theorem rd_Ltwin {K : PySem.W.Frag} (F : KF K) (vs : List V) (H : Hp) (Q : VK) (E : XK) (h : sp_Ltwin K vs H Q E) : Wt_Ltwin K vs H Q := by
  obtain ⟨h, rfl, k⟩ := h
  show t_Ltwin K _ [some (vi h)] H
  refine s_ret (v := vi (tw h)) (ev_is (ev_op (ev_op (ev_var rfl) ev_c rv_I0) (ev_op ev_c (ev_op (ev_cb (ea_1 (ev_var rfl)) rc_int) ev_c (rv_I (by decide))) (rv_I (Or.inl ⟨by decide, by decide⟩))) rv_I0) (by show V.int ((h : Int) + 1 - 2 * (h : Int).fmod 2) = V.int _; rw [tw_int])) (fun H1 e1 => k H1 e1)
theorem spv_Ltwin {K : PySem.W.Frag} {H : Hp} (h : Nat) : SpV (sp_Ltwin K) [vi h] H (vi (tw h)) := fun H1 _ Q q E => ⟨h, rfl, q⟩

def sp_Lturned (K : PySem.W.Frag) : Sp := fun vs H Q _ => ∃ (a : Addr) (ns : List Nat) (h : Nat), vs = [.ref a, vi h] ∧ SqL K H a (L ns) ∧ IsP ns ∧ ns.length ≤ 1000 ∧ h < ns.length ∧
  ∀ H', Ex H H' → Q (vi (tw (bk ns h))) H'
abbrev nm_Lturned : List Str := ["_law_nexts_here", "_law_half", "_law_k"]
abbrev pr_Lturned : List Str := ["_law_nexts_here", "_law_half"]
def t_Lturned (K : PySem.W.Frag) : TS :=
  (tSeq (tFor (iRng1 (tCons (tCB (cLen K) (tCons (tVar 0) tNil)) tNil)) (gName 2) (tIfS (tTest (tOp rEq (tOp (rIxL K) (tVar 0) (tVar 2)) (tVar 1))) (tRet (tCall (sp_Ltwin K) [] E0 (tCons (tVar 2) tNil))) tNext))
  (tRet (tUn zNeg (tC (.int 1)))))
abbrev Wt_Lturned (K : PySem.W.Frag) (vs : List V) (H : Hp) (Q : VK) : Prop := t_Lturned K { nx := fun _ H' => Q .non H', rt := Q } (start nm_Lturned vs) H
theorem ln_Lturned {K : PySem.W.Frag} (vs : List V) (H : Hp) (Q : VK) (E : XK) (h : sp_Lturned K vs H Q E) : vs.length = pr_Lturned.length := by
  obtain ⟨_, _, _, rfl, _⟩ := h
  rfl
theorem rd_Lturned {K : PySem.W.Frag} (F : KF K) (vs : List V) (H : Hp) (Q : VK) (E : XK) (h : sp_Lturned K vs H Q E) : Wt_Lturned K vs H Q := by
  obtain ⟨a, ns, h, rfl, hS, hP, hl, hh, k⟩ := h
  show t_Lturned K _ [some (.ref a), some (vi h), none] H
  refine q_forR1 (n := (ns.length : Int)) (ea_1 (ev_is (ev_cb (ea_1 (ev_var rfl)) (rc_len hS)) (by rw [L_len]))) (by omega) (fun i σ' H' => ∃ v, σ' = [some (.ref a), some (vi h), v] ∧ Ex H H' ∧ i ≤ bk ns h) ?_ ?_ ?_
  · intro H1 e1
    exact ⟨none, rfl, e1, Nat.zero_le _⟩
  · rintro i σ' H' hi ⟨v, rfl, ex, hb⟩
    have hi' : i < ns.length := by omega
    refine s_when (b := decide (vi (fn ns i) = vi h)) (et_test (ev_op (ev_op (ev_var rfl) (ev_var rfl) (rv_ixL (ex_l ex hS) (L_at hi'))) (ev_var rfl) (rv_eq rfl))) (fun ht H1 e1 => ?_) (fun hf H1 e1 => ?_)
    · have e0 : fn ns i = h := by
        have := of_decide_eq_true ht
        injection this with this
        omega
      have e2 : i = bk ns h := by rw [← e0, bk_fn hP hi']
      refine s_retC (ea_1 (ev_var rfl)) (fun H2 e2' => ?_)
      refine ⟨i, rfl, fun H3 e3 => ?_⟩
      show Q (vi (tw i)) H3
      rw [e2]
      exact k H3 (ex.trans (e1.trans (e2'.trans e3)))
    · refine ⟨_, rfl, ex.trans e1, ?_⟩
      have e0 : i ≠ bk ns h := fun e => by
        refine (of_decide_eq_false hf) ?_
        rw [e, fn_bk hP hh]
      omega
  · rintro σ' H' ⟨v, rfl, ex, hb⟩
    have := bk_lt hP hh
    rw [Int.toNat_natCast] at hb
    omega
theorem spv_Lturned {K : PySem.W.Frag} {H : Hp} {a : Addr} {ns : List Nat} {h : Nat} (hS : SqL K H a (L ns)) (hP : IsP ns) (hl : ns.length ≤ 1000) (hh : h < ns.length) : SpV (sp_Lturned K) [.ref a, vi h] H (vi (tw (bk ns h))) :=
  fun H1 e Q q E => ⟨a, ns, h, rfl, ex_l e hS, hP, hl, hh, q⟩

/-- one step of a face, of a corner -/
def stp (ns : List Nat) (b : Bool) (x : Nat) : Nat := if b then fn ns x else tw (bk ns x)
theorem pf_stp {ns : List Nat} (h : IsP ns) (h2 : ns.length % 2 = 0) (b : Bool) : Pf (stp ns b) ns.length := by
  cases b with
  | true => exact pf_fn h
  | false => exact pf_turn h h2
def sp_Lround (K : PySem.W.Frag) : Sp := fun vs H Q _ => ∃ (a : Addr) (ns : List Nat) (h : Nat) (b : Bool), vs = [.ref a, vi h, .bl b] ∧ SqL K H a (L ns) ∧ IsP ns ∧ ns.length % 2 = 0 ∧ ns.length ≤ 1000 ∧ h < ns.length ∧
  ∀ p H', H p = none → Ex H H' → H' p = some (.lst (L (rnd (stp ns b) ns.length h))) → Q (.ref p) H'
abbrev nm_Lround : List Str := ["_law_nexts_here", "_law_half", "_law_by_face", "_law_found", "_law_after"]
abbrev pr_Lround : List Str := ["_law_nexts_here", "_law_half", "_law_by_face"]
def t_Lround (K : PySem.W.Frag) : TS :=
  (tSeq (tAsg (tLst (tCons (tVar 1) tNil)) (gName 3))
  (tSeq (tAsg (tIf (tB (tVar 2)) (tOp (rIxL K) (tVar 0) (tVar 1)) (tCall (sp_Lturned K) [] E0 (tCons (tVar 0) (tCons (tVar 1) tNil)))) (gName 4))
  (tSeq (tWhile (tAnd (tTest (tOp rNe (tVar 4) (tVar 1))) (tTest (tOp zLe (tCB (cLen K) (tCons (tVar 3) tNil)) (tCB (cLen K) (tCons (tVar 0) tNil))))) (tSeq (tDrop (tBM K "list" rAppend (tVar 3) (tCons (tVar 4) tNil)))
      (tAsg (tIf (tB (tVar 2)) (tOp (rIxL K) (tVar 0) (tVar 4)) (tCall (sp_Lturned K) [] E0 (tCons (tVar 0) (tCons (tVar 4) tNil)))) (gName 4))))
  (tRet (tVar 3)))))
abbrev Wt_Lround (K : PySem.W.Frag) (vs : List V) (H : Hp) (Q : VK) : Prop := t_Lround K { nx := fun _ H' => Q .non H', rt := Q } (start nm_Lround vs) H
theorem ln_Lround {K : PySem.W.Frag} (vs : List V) (H : Hp) (Q : VK) (E : XK) (h : sp_Lround K vs H Q E) : vs.length = pr_Lround.length := by
  obtain ⟨_, _, _, _, rfl, _⟩ := h
  rfl
theorem ev_stp {K : PySem.W.Frag} {σ : L2.St} {H : Hp} {a : Addr} {ns : List Nat} {b : Bool} {i x : Nat} (hS : SqL K H a (L ns)) (hP : IsP ns) (hl : ns.length ≤ 1000) (s0 : σ[0]? = some (some (.ref a))) (s2 : σ[2]? = some (some (.bl b))) (si : σ[i]? = some (some (vi x))) (hx : x < ns.length) :
    Ev (tIf (tB (tVar 2)) (tOp (rIxL K) (tVar 0) (tVar i)) (tCall (sp_Lturned K) [] E0 (tCons (tVar 0) (tCons (tVar i) tNil)))) σ H (vi (stp ns b x)) := by
  refine ev_if (b := b) (et_B (ev_var s2)) (fun hb => ?_) (fun hb => ?_)
  · subst hb
    exact ev_op (ev_var s0) (ev_var si) (rv_ixL hS (L_at hx))
  · subst hb
    exact ev_call (ea_2 (ev_var s0) (ev_var si)) (spv_Lturned hS hP hl hx)
theorem range_map_snoc {α : Type} (f : Nat → α) (k : Nat) : (List.range (k + 1)).map f = (List.range k).map f ++ [f k] := by
  rw [List.range_succ, List.map_append]
  rfl
theorem rd_Lround {K : PySem.W.Frag} (F : KF K) (vs : List V) (H : Hp) (Q : VK) (E : XK) (h : sp_Lround K vs H Q E) : Wt_Lround K vs H Q := by
  obtain ⟨a, ns, h, b, rfl, hS, hP, h2, hl, hh, kk⟩ := h
  show t_Lround K _ [some (.ref a), some (vi h), some (.bl b), none, none] H
  have PF := pf_stp hP h2 b
  obtain ⟨p1, p2, p3⟩ := per_spec PF hh
  have p0 := per_pos (stp ns b) ns.length h
  refine q_asgL (el_lst (ea_1 (ev_var rfl)) (by show 1 ≤ 100000; decide)) (fun p H1 hp e1 h1 => ?_)
  refine q_asg (ev_stp (i := 1) (x := h) (ex_l e1 hS) hP hl rfl rfl rfl hh) (fun H2 e2 => ?_)
  refine q_while (fun m σ' H' => ∃ k, 1 ≤ k ∧ k ≤ per (stp ns b) ns.length h ∧ m = per (stp ns b) ns.length h - k ∧ σ' = [some (.ref a), some (vi h), some (.bl b), some (.ref p), some (vi (itr (stp ns b) k h))] ∧
      H' p = some (.lst (L ((List.range k).map fun j => itr (stp ns b) j h))) ∧ Ex H H') (per (stp ns b) ns.length h - 1) ?_ ?_
  · exact ⟨1, Nat.le_refl _, p0, rfl, rfl, e2 _ _ h1, e1.trans e2⟩
  · rintro m σ' H' ⟨k, k1, k2, rfl, rfl, a1, ex⟩
    refine ⟨_, et_and (et_test (ev_op (ev_var rfl) (ev_var rfl) (rv_ne rfl))) (fun _ => et_test (ev_op (ev_cb (ea_1 (ev_var rfl)) (rc_len (sq_of a1))) (ev_cb (ea_1 (ev_var rfl)) (rc_len (ex_l ex hS))) rv_I0)), fun hb H1 e1 => ?_, fun hb H1 e1 => ?_⟩
    · obtain ⟨b1, b2⟩ := Bool.and_eq_true_iff.mp hb
      have hne : itr (stp ns b) k h ≠ h := fun e => by
        rw [e] at b1
        simp at b1
      have hk : k < per (stp ns b) ns.length h := by
        refine Nat.lt_of_le_of_ne k2 fun e => hne ?_
        rw [e]
        exact p1
      refine ⟨_, fun σ2 H2 hN => ⟨per (stp ns b) ns.length h - (k + 1), by omega, hN⟩, ?_⟩
      refine q_app (e1 _ _ a1) (ev_var rfl) (ev_var rfl) (by rw [L_len, List.length_map, List.length_range]; omega) (fun H2 e2 => ?_)
      have ex2 : Ex H (upd H2 p (.lst (L ((List.range k).map fun j => itr (stp ns b) j h) ++ [vi (itr (stp ns b) k h)]))) := Ex.mut (ex.trans (e1.trans e2)) hp
      refine s_asg (ev_stp (i := 4) (ex_l ex2 hS) hP hl rfl rfl rfl (itr_lt PF hh k)) (fun H3 e3 => ?_)
      refine ⟨k + 1, by omega, by omega, rfl, rfl, ?_, ex2.trans e3⟩
      rw [e3 _ _ upd_same, range_map_snoc, L_app]
      rfl
    · have hk : k = per (stp ns b) ns.length h := by
        refine Classical.byContradiction fun hne => ?_
        have h3 := p3 k (by omega) (by omega)
        have c1 : (!decide (vi (itr (stp ns b) k h) = vi h)) = true := by
          rw [decide_eq_false (fun e => h3 (by injection e with e; omega))]
          rfl
        have c2 : decide (((L ((List.range k).map fun j => itr (stp ns b) j h)).length : Int) ≤ ((L ns).length : Int)) = true := by
          rw [L_len, L_len, List.length_map, List.length_range]
          exact decide_eq_true (by omega)
        have c3 : ((!decide (vi (itr (stp ns b) k h) = vi h)) && decide (((L ((List.range k).map fun j => itr (stp ns b) j h)).length : Int) ≤ ((L ns).length : Int))) = true := by
          rw [c1, c2]
          rfl
        exact Bool.false_ne_true (hb.symm.trans c3)
      refine s_ret (ev_var rfl) (fun H2 e2 => ?_)
      refine kk p H2 hp (ex.trans (e1.trans e2)) ?_
      rw [e2 _ _ (e1 _ _ a1), hk]
      rfl
theorem spl_Lround {K : PySem.W.Frag} {H : Hp} {a : Addr} {ns : List Nat} {h : Nat} {b : Bool} (hS : SqL K H a (L ns)) (hP : IsP ns) (h2 : ns.length % 2 = 0) (hl : ns.length ≤ 1000) (hh : h < ns.length) : SpL (sp_Lround K) [.ref a, vi h, .bl b] H (L (rnd (stp ns b) ns.length h)) :=
  fun H1 e Q q E => ⟨a, ns, h, b, rfl, ex_l e hS, hP, h2, hl, hh, fun p H' hp ex hq => q p H' hp ex hq⟩

def sp_Lrounds (K : PySem.W.Frag) : Sp := fun vs H Q _ => ∃ (a : Addr) (ns : List Nat) (b : Bool), vs = [.ref a, .bl b] ∧ SqL K H a (L ns) ∧ IsP ns ∧ ns.length % 2 = 0 ∧ ns.length ≤ 1000 ∧
  ∀ p H', H p = none → Ex H H' → LLn H H' p (cycs (stp ns b) ns.length ns.length) → Q (.ref p) H'
abbrev nm_Lrounds : List Str := ["_law_nexts_here", "_law_by_face", "_law_found", "_law_half", "_law_members"]
abbrev pr_Lrounds : List Str := ["_law_nexts_here", "_law_by_face"]
def t_Lrounds (K : PySem.W.Frag) : TS :=
  (tSeq (tAsg (tLst tNil) (gName 2))
  (tSeq (tFor (iRng1 (tCons (tCB (cLen K) (tCons (tVar 0) tNil)) tNil)) (gName 3) (tSeq (tAsg (tCall (sp_Lround K) [] E0 (tCons (tVar 0) (tCons (tVar 3) (tCons (tVar 1) tNil)))) (gName 4))
      (tIfS (tTest (tOp rEq (tCB (rMin K) (tCons (tVar 4) tNil)) (tVar 3))) (tDrop (tBM K "list" rAppend (tVar 2) (tCons (tVar 4) tNil))) tNext)))
  (tRet (tVar 2))))
abbrev Wt_Lrounds (K : PySem.W.Frag) (vs : List V) (H : Hp) (Q : VK) : Prop := t_Lrounds K { nx := fun _ H' => Q .non H', rt := Q } (start nm_Lrounds vs) H
theorem ln_Lrounds {K : PySem.W.Frag} (vs : List V) (H : Hp) (Q : VK) (E : XK) (h : sp_Lrounds K vs H Q E) : vs.length = pr_Lrounds.length := by
  obtain ⟨_, _, _, rfl, _⟩ := h
  rfl
theorem rd_Lrounds {K : PySem.W.Frag} (F : KF K) (vs : List V) (H : Hp) (Q : VK) (E : XK) (h : sp_Lrounds K vs H Q E) : Wt_Lrounds K vs H Q := by
  obtain ⟨a, ns, b, rfl, hS, hP, h2, hl, kk⟩ := h
  show t_Lrounds K _ [some (.ref a), some (.bl b), none, none, none] H
  have PF := pf_stp hP h2 b
  refine q_asgL (el_lst ea_nil (Nat.zero_le _)) (fun p H1 hp e1 h1 => ?_)
  refine q_forR1 (n := (ns.length : Int)) (ea_1 (ev_is (ev_cb (ea_1 (ev_var rfl)) (rc_len (ex_l e1 hS))) (by rw [L_len]))) (by omega)
    (fun i σ' H' => ∃ v3 v4 as, σ' = [some (.ref a), some (.bl b), some (.ref p), v3, v4] ∧ Ex H H' ∧ H' p = some (.lst (as.map V.ref)) ∧ LA H' as (cycs (stp ns b) ns.length i) ∧ (∀ x ∈ as, H x = none ∧ x ≠ p) ∧ as.length ≤ i) ?_ ?_ ?_
  · intro H2 e2
    exact ⟨_, _, [], rfl, e1.trans e2, e2 _ _ h1, .nil, fun x hx => (nomatch hx), Nat.le_refl _⟩
  · rintro i σ' H' hi ⟨v3, v4, as, rfl, ex, a1, a2, a3, a4⟩
    have hi' : i < ns.length := by omega
    refine q_asgL (el_call (ea_cons (ev_var rfl) (ea_2 (ev_var rfl) (ev_var rfl))) (spl_Lround (ex_l ex hS) hP h2 hl hi')) (fun pm H2 hpm e2 h2' => ?_)
    have hr0 := per_pos (stp ns b) ns.length i
    have hself := rnd_self PF hi'
    have hne : 0 < (rnd (stp ns b) ns.length i).length := by rw [rnd_length]; exact hr0
    -- the least of the round
    obtain ⟨mm, hm1, hm2⟩ : ∃ mm, mm ∈ rnd (stp ns b) ns.length i ∧ ∀ y ∈ rnd (stp ns b) ns.length i, mm ≤ y := by
      have key : ∀ l : List Nat, l ≠ [] → ∃ mm, mm ∈ l ∧ ∀ y ∈ l, mm ≤ y := by
        intro l
        induction l with
        | nil => intro h; exact absurd rfl h
        | cons x r ih =>
          intro _
          by_cases hr : r = []
          · subst hr
            exact ⟨x, List.mem_cons_self .., fun y hy => by rcases List.mem_cons.mp hy with rfl | hy; exact Nat.le_refl _; cases hy⟩
          · obtain ⟨mm, q1, q2⟩ := ih hr
            by_cases hx : x ≤ mm
            · exact ⟨x, List.mem_cons_self .., fun y hy => by
                rcases List.mem_cons.mp hy with rfl | hy
                · exact Nat.le_refl _
                · exact Nat.le_trans hx (q2 y hy)⟩
            · exact ⟨mm, List.mem_cons_of_mem _ q1, fun y hy => by
                rcases List.mem_cons.mp hy with rfl | hy
                · omega
                · exact q2 y hy⟩
      exact key _ fun e => by rw [e] at hself; cases hself
    have hmin : Ev (tCB (rMin K) (tCons (tVar 4) tNil)) [some (.ref a), some (.bl b), some (.ref p), some (vi i), some (.ref pm)] H2 (vi mm) := by
      refine ev_cb (ea_1 (ev_var rfl)) (rc_min (ns := (rnd (stp ns b) ns.length i).map fun n : Nat => (n : Int)) (by rw [← L_int]; exact sq_of h2') (by rw [List.length_map]; exact hne) fun m' q1 q2 => ?_)
      obtain ⟨z, z1, rfl⟩ := List.mem_map.mp q1
      have := hm2 z z1
      have := q2 (mm : Int) (List.mem_map.mpr ⟨mm, hm1, rfl⟩)
      omega
    refine s_when (b := decide (vi mm = vi i)) (et_test (ev_op hmin (ev_var rfl) (rv_eq rfl))) (fun hb H3 e3 => ?_) (fun hb H3 e3 => ?_)
    · have e0 : mm = i := by
        have := of_decide_eq_true hb
        injection this with this
        omega
      have hmn : isMin (stp ns b) ns.length i = true := isMin_iff.mpr fun y hy => by
        have := hm2 y hy
        omega
      have ex3 := ex.trans (e2.trans e3)
      refine s_app (e3 _ _ (e2 _ _ a1)) (ev_var rfl) (ev_var rfl) (by rw [List.length_map]; omega) (fun H4 e4 => ?_)
      have hpp : pm ≠ p := (ne_of_none a1 hpm).symm
      refine ⟨_, _, as ++ [pm], rfl, Ex.mut (ex3.trans e4) hp, ?_, ?_, fun x hx => ?_, by rw [List.length_append]; show as.length + 1 ≤ i + 1; omega⟩
      · rw [upd_same, List.map_append]
        rfl
      · rw [cycs_yes hmn]
        refine paired_snoc (LA.upd (LA.ex a2 (e2.trans (e3.trans e4))) fun x hx => (a3 x hx).2) ?_
        show upd H4 p _ pm = _
        rw [upd_ne hpp]
        exact e4 _ _ (e3 _ _ h2')
      · rcases List.mem_append.mp hx with hx | hx
        · exact a3 x hx
        · rw [List.mem_singleton.mp hx]
          exact ⟨fresh_back ex hpm, hpp⟩
    · have hmn : ¬ isMin (stp ns b) ns.length i = true := fun hm => by
        refine (of_decide_eq_false hb) ?_
        have h5 := isMin_iff.mp hm mm hm1
        have h6 := hm2 i hself
        have : mm = i := by omega
        rw [this]
      refine ⟨_, _, as, rfl, ex.trans (e2.trans e3), e3 _ _ (e2 _ _ a1), ?_, a3, by omega⟩
      rw [cycs_no hmn]
      exact LA.ex a2 (e2.trans e3)
  · rintro σ' H' ⟨v3, v4, as, rfl, ex, a1, a2, a3, a4⟩
    rw [Int.toNat_natCast] at a2
    refine s_ret (ev_var rfl) (fun H2 e2 => ?_)
    exact kk p H2 hp (ex.trans e2) ⟨as, e2 _ _ a1, LA.ex a2 e2, a3⟩
end Hm
namespace Hm
open PySem PySem.Spec PyProof.Rows L2 Evl
/-! ### the program: what is a mesh -/
def isI : V → Bool
  | .int _ => true
  | _ => false
/-- an int or a bool -/
def IB (v : V) : Prop := (∃ i, v = .int i) ∨ (∃ b, v = .bl b)
def sp_isinteger (K : PySem.W.Frag) : Sp := fun vs H Q _ => ∃ v : V, vs = [v] ∧ IB v ∧ ∀ H', Ex H H' → Q (.bl (isI v)) H'
abbrev nm_isinteger : List Str := ["value"]
abbrev pr_isinteger : List Str := ["value"]
def t_isinteger (K : PySem.W.Frag) : TS :=
  (tRet (tAndV (tCB (rIsi K) (tCons (tVar 0) (tCons (tC (.ty "int")) tNil))) (tNotV (tCB (rIsi K) (tCons (tVar 0) (tCons (tC (.ty "bool")) tNil))))))
abbrev Wt_isinteger (K : PySem.W.Frag) (vs : List V) (H : Hp) (Q : VK) : Prop := t_isinteger K { nx := fun _ H' => Q .non H', rt := Q } (start nm_isinteger vs) H
theorem ln_isinteger {K : PySem.W.Frag} (vs : List V) (H : Hp) (Q : VK) (E : XK) (h : sp_isinteger K vs H Q E) : vs.length = pr_isinteger.length := by
  obtain ⟨_, rfl, _⟩ := h
  rfl
theorem rd_isinteger {K : PySem.W.Frag} (F : KF K) (vs : List V) (H : Hp) (Q : VK) (E : XK) (h : sp_isinteger K vs H Q E) : Wt_isinteger K vs H Q := by
  obtain ⟨v, rfl, hv, k⟩ := h
  show t_isinteger K _ [some v] H
  rcases hv with ⟨i, rfl⟩ | ⟨b, rfl⟩
  · refine s_ret (v := .bl (true && !false)) (ev_andV (ev_cb (ea_2 (ev_var rfl) ev_c) (rc_isi (.ty "int") (fun H1 _ => .base (.int i)) (kit_ty (by decide +kernel)))) (fun _ => ev_notV (ev_cb (ea_2 (ev_var rfl) ev_c) (rc_isi (.ty "bool") (fun H1 _ => .base (.int i)) (kit_ty (by decide +kernel)))))) (fun H1 e1 => k H1 e1)
  · refine s_ret (v := .bl (true && !true)) (ev_andV (ev_cb (ea_2 (ev_var rfl) ev_c) (rc_isi (.ty "int") (fun H1 _ => .base (.bl b)) (kit_ty (by decide +kernel)))) (fun _ => ev_notV (ev_cb (ea_2 (ev_var rfl) ev_c) (rc_isi (.ty "bool") (fun H1 _ => .base (.bl b)) (kit_ty (by decide +kernel)))))) (fun H1 e1 => k H1 e1)
theorem spv_isinteger {K : PySem.W.Frag} {H : Hp} {v : V} (h : IB v) : SpV (sp_isinteger K) [v] H (.bl (isI v)) := fun H1 _ Q q E => ⟨v, rfl, h, q⟩

def dZ (zs : List Int) : PyData := .list (zs.map PyData.int)
theorem eqv_Zs : ∀ zs ys : List Int, PyData.eqvAll (zs.map PyData.int) (ys.map PyData.int) = decide (zs = ys)
  | [], [] => by simp [PyData.eqvAll]
  | [], _ :: _ => by simp [PyData.eqvAll]
  | _ :: _, [] => by simp [PyData.eqvAll]
  | n :: r, m :: s => by
    have h := eqv_Zs r s
    simp only [List.map_cons, PyData.eqvAll, PyData.eqv, h]
    by_cases e : n = m <;> simp [e]
theorem eqv_dZ (zs ys : List Int) : PyData.eqv (dZ zs) (dZ ys) = decide (zs = ys) := by
  unfold dZ
  simp only [PyData.eqv]
  exact eqv_Zs zs ys
theorem rv_eqZ {K : PySem.W.Frag} {H : Hp} {a b : Addr} {ns ms : List Int} (h1 : SqL K H a (ns.map V.int)) (h2 : SqL K H b (ms.map V.int)) : RV (rEqD K) (.ref a) (.ref b) H (.bl (decide (ns = ms))) := by
  rw [← eqv_dZ]
  exact rv_eqD' (Dp.lst h1 (dpAll_ints _)) (Dp.lst h2 (dpAll_ints _)) (shaped_ints _) (shaped_ints _)
theorem el_rg1 {K : PySem.W.Frag} {σ : L2.St} {H : Hp} {te : TE} {n : Nat} (h : Ev te σ H (.int (n : Int))) (hn : n ≤ 100000) : EvL (tLstRg (tRg1 te)) σ H (((List.range n).map fun i : Nat => (i : Int)).map V.int) := fun H1 e Q q =>
  h H1 e _ fun H2 e2 => ⟨(n : Int), rfl, RgOk.of_le (by omega) (by omega) (by omega) (by omega), fun p hp => by
    have e3 : rgV 0 (n : Int) = ((List.range n).map fun i : Nat => (i : Int)).map V.int := by
      unfold rgV
      rw [List.map_map, Int.sub_zero, Int.toNat_natCast]
      refine List.map_congr_left fun i _ => ?_
      show V.int (0 + (i : Int)) = V.int (i : Int)
      rw [Int.zero_add]
    rw [e3]
    exact q p _ (fresh_back e2 hp) (e2.trans (Ex.new hp)) upd_same⟩
section
variable {K : PySem.W.Frag} {σ : L2.St} {H H' : Hp} {ta tb tc te tx : TE} {x y z v : V} {r r' : R2}
theorem ev_chain {a b : Bool} (ha : Ev ta σ H x) (hb : Ev tb σ H y) (hr : RV r x y H (.bl a)) (hc : a = true → Ev tc σ H z) (hr2 : a = true → RV r' y z H (.bl b)) : Ev (tChain r r' ta tb tc) σ H (.bl (a && b)) := fun H1 e Q q =>
  ha H1 e _ fun H2 e2 => hb H2 (e.trans e2) _ fun H3 e3 => hr H3 ((e.trans e2).trans e3) _ fun H4 e4 => ⟨a, rfl, by
    have e5 := ((e.trans e2).trans e3).trans e4
    cases a with
    | false => exact q H4 ((e2.trans e3).trans e4)
    | true => exact hc rfl H4 e5 _ fun H5 e6 => hr2 rfl H5 (e5.trans e6) _ fun H6 e7 => q H6 (((e2.trans e3).trans e4).trans (e6.trans e7))⟩
theorem ev_lenSI {p : Addr} {ns : List Int} (h : Ev ta σ H (.ref p)) (hS : SqL K H p (ns.map V.int)) (hl : ns.length ≤ 4000) : Ev (PSetI.tLenI K ta) σ H (.int (cntI ns : Nat)) := fun H1 e Q q =>
  h H1 e _ fun H2 e2 => ⟨p, ns, rfl, ex_l (e.trans e2) hS, hl, q H2 e2⟩
end
/-- numbers below n, each once -/
def Below (xs : List V) (n : Nat) : Prop := ∃ ns, xs = L ns ∧ ns.Nodup ∧ ∀ x ∈ ns, x < n
def okN (n : Nat) : V → Bool
  | .int i => decide (0 ≤ i) && decide (i < (n : Int))
  | _ => false
theorem okN_ints {n : Nat} : ∀ {xs : List V}, (∀ x ∈ xs, okN n x = true) → ∃ ns : List Nat, xs = L ns ∧ ∀ x ∈ ns, x < n
  | [], _ => ⟨[], rfl, fun _ h => nomatch h⟩
  | x :: r, h => by
    obtain ⟨ns, e, b⟩ := okN_ints (xs := r) fun y hy => h y (List.mem_cons_of_mem _ hy)
    have hx := h x (List.mem_cons_self ..)
    cases x with
    | int i =>
      have hx : (decide (0 ≤ i) && decide (i < (n : Int))) = true := hx
      rw [Bool.and_eq_true] at hx
      have h0 := of_decide_eq_true hx.1
      have h1 := of_decide_eq_true hx.2
      refine ⟨i.toNat :: ns, ?_, fun y hy => ?_⟩
      · rw [e]
        show V.int i :: L ns = V.int ((i.toNat : Nat) : Int) :: L ns
        have e3 : ((i.toNat : Nat) : Int) = i := by omega
        rw [e3]
      · rcases List.mem_cons.mp hy with rfl | hy
        · omega
        · exact b y hy
    | _ => cases hx
theorem okN_L {n : Nat} {ns : List Nat} (h : ∀ x ∈ ns, x < n) : ∀ x ∈ L ns, okN n x = true := by
  intro x hx
  obtain ⟨m, hm, rfl⟩ := List.mem_map.mp hx
  have := h m hm
  show (decide ((0 : Int) ≤ (m : Int)) && decide ((m : Int) < (n : Int))) = true
  rw [decide_eq_true (by omega), decide_eq_true (by omega)]
  rfl
theorem L_inj {a b : List Nat} (h : L a = L b) : a = b := by
  induction a generalizing b with
  | nil => cases b with
    | nil => rfl
    | cons _ _ => cases h
  | cons x r ih => cases b with
    | nil => cases h
    | cons y s =>
      injection h with h1 h2
      injection h1 with h1
      rw [ih h2, show x = y by omega]
theorem nodup_cast {ns : List Nat} : (ns.map fun n : Nat => (n : Int)).Nodup ↔ ns.Nodup := by
  rw [List.nodup_iff_pairwise_ne, List.nodup_iff_pairwise_ne, List.pairwise_map]
  exact ⟨fun h => h.imp fun e q => e (by rw [q]), fun h => h.imp fun e q => e (by omega)⟩
def sp_arehalves (K : PySem.W.Frag) : Sp := fun vs H Q _ => ∃ (a : Addr) (xs : List V) (n : Nat), vs = [.ref a, vi n] ∧ SqL K H a xs ∧ xs.length ≤ 4000 ∧ (∀ x ∈ xs, IB x) ∧
  ∀ b H', (b = true ↔ Below xs n) → Ex H H' → Q (.bl b) H'
abbrev nm_arehalves : List Str := ["numbers", "count", "number"]
abbrev pr_arehalves : List Str := ["numbers", "count"]
def t_arehalves (K : PySem.W.Frag) : TS :=
  (tSeq (tIfS (tNot (tB (tCB (rAll K) (tCons (tLc (iList K (tVar 0)) (gName 2) tYes (tAndV (tCall (sp_isinteger K) [] E0 (tCons (tVar 2) tNil)) (tChain zLe zLt (tC (.int 0)) (tVar 2) (tVar 1))) [2]) tNil)))) (tRet (tC (.bl false))) tNext)
  (tRet (tOp rEq (PSetI.tLenI K (tVar 0)) (tCB (cLen K) (tCons (tVar 0) tNil)))))
abbrev Wt_arehalves (K : PySem.W.Frag) (vs : List V) (H : Hp) (Q : VK) : Prop := t_arehalves K { nx := fun _ H' => Q .non H', rt := Q } (start nm_arehalves vs) H
theorem ln_arehalves {K : PySem.W.Frag} (vs : List V) (H : Hp) (Q : VK) (E : XK) (h : sp_arehalves K vs H Q E) : vs.length = pr_arehalves.length := by
  obtain ⟨_, _, _, rfl, _⟩ := h
  rfl
theorem rd_arehalves {K : PySem.W.Frag} (F : KF K) (vs : List V) (H : Hp) (Q : VK) (E : XK) (h : sp_arehalves K vs H Q E) : Wt_arehalves K vs H Q := by
  obtain ⟨a, xs, n, rfl, hS, hz, hI, k⟩ := h
  show t_arehalves K _ [some (.ref a), some (vi n), none] H
  have hb : ((List.range xs.length).map fun i => okN n (xs.getD i .non)).all id = true ↔ ∀ x ∈ xs, okN n x = true := by
    rw [List.all_eq_true]
    constructor
    · intro h x hx
      obtain ⟨i, hi, e⟩ := List.mem_iff_getElem.mp hx
      have := h (okN n (xs.getD i .non)) (List.mem_map.mpr ⟨i, List.mem_range.mpr hi, rfl⟩)
      rw [List.getD_eq_getElem?_getD, List.getElem?_eq_getElem hi] at this
      rw [← e]
      exact this
    · intro h y hy
      obtain ⟨i, hi, rfl⟩ := List.mem_map.mp hy
      have hi := List.mem_range.mp hi
      show okN n (xs.getD i .non) = true
      rw [List.getD_eq_getElem?_getD, List.getElem?_eq_getElem hi]
      exact h _ (List.getElem_mem hi)
  have hcomp : EvL (tLc (iList K (tVar 0)) (gName 2) tYes (tAndV (tCall (sp_isinteger K) [] E0 (tCons (tVar 2) tNil)) (tChain zLe zLt (tC (.int 0)) (tVar 2) (tVar 1))) [2]) [some (.ref a), some (vi n), none] H (((List.range xs.length).map fun i => okN n (xs.getD i .non)).map V.bl) := by
    have := el_lcL (K := K) (σ := [some (.ref a), some (vi n), none]) (H := H) (j := 2) (vs := [2]) (t := tYes) (tl := tVar 0) (te := tAndV (tCall (sp_isinteger K) [] E0 (tCons (tVar 2) tNil)) (tChain zLe zLt (tC (.int 0)) (tVar 2) (tVar 1))) (fun _ => true) (fun i => .bl (okN n (xs.getD i .non))) (ev_var rfl) hS (by omega) (fun _ => rfl) (fun i x H1 _ _ => et_yes) (fun i x H1 _ hx _ => by
      have e : xs.getD i .non = x := by rw [List.getD_eq_getElem?_getD, hx]; rfl
      rw [e]
      have hib := hI x (List.mem_of_getElem? hx)
      rcases id hib with ⟨z, rfl⟩ | ⟨b, rfl⟩
      · exact ev_is (v := .bl (true && (decide (0 ≤ z) && decide (z < (n : Int))))) (ev_andV (ev_call (ea_1 (ev_var rfl)) (spv_isinteger hib)) (fun _ => ev_chain ev_c (ev_var rfl) rv_I0 (fun _ => ev_var rfl) (fun _ => rv_I0))) (by rw [Bool.true_and]; rfl)
      · exact ev_is (v := .bl (false && false)) (ev_andV (ev_call (ea_1 (ev_var rfl)) (spv_isinteger hib)) (fun hb => nomatch hb)) rfl)
    rw [given_all] at this
    rw [List.map_map]
    exact this
  refine q_when (et_not (et_B (ev_cbN hcomp (fun p H1 hp _ => rc_all (sq_of hp))))) (fun hb1 H1 e1 => ?_) (fun hb1 H1 e1 => ?_)
  · refine s_ret ev_c (fun H2 e2 => k false H2 ⟨fun h => (nomatch h), fun hg => ?_⟩ (e1.trans e2))
    obtain ⟨ns, rfl, _, h2⟩ := hg
    rw [hb.mpr (okN_L h2)] at hb1
    cases hb1
  · have hall : ∀ x ∈ xs, okN n x = true := hb.mp (by
      cases q : ((List.range xs.length).map fun i => okN n (xs.getD i .non)).all id with
      | true => rfl
      | false => rw [q] at hb1; cases hb1)
    obtain ⟨ns, rfl, hlt⟩ := okN_ints hall
    have hS1 := ex_l e1 hS
    have hS2 := hS1
    rw [L_int] at hS2
    rw [L_len] at hz
    refine s_ret (v := .bl (decide (V.int (cntI (ns.map fun n : Nat => (n : Int)) : Nat) = V.int ((L ns).length : Int)))) (ev_op (ev_lenSI (ev_var rfl) hS2 (by rw [List.length_map]; exact hz)) (ev_cb (ea_1 (ev_var rfl)) (rc_len hS1)) (rv_eq rfl)) (fun H2 e2 => ?_)
    refine k _ H2 ?_ (e1.trans e2)
    have hc := cntI_iff (ns.map fun n : Nat => (n : Int))
    rw [List.length_map, nodup_cast] at hc
    rw [decide_eq_true_iff, L_len]
    constructor
    · intro h
      injection h with h
      exact ⟨ns, rfl, hc.mp (by omega), hlt⟩
    · rintro ⟨ms, e, hn, _⟩
      have e := L_inj e
      subst e
      rw [hc.mpr hn]
theorem spv_hT {K : PySem.W.Frag} {H : Hp} {a : Addr} {xs : List V} {n : Nat} (hS : SqL K H a xs) (hl : xs.length ≤ 4000) (hI : ∀ v ∈ xs, IB v) {b : Bool} (h : b = true ↔ Below xs n) : SpV (sp_arehalves K) [.ref a, vi n] H (.bl b) := fun H1 e Q q E =>
  ⟨a, xs, n, rfl, ex_l e hS, hl, hI, fun b' H' hb ex => by
    rw [Bool.eq_iff_iff.mpr (hb.trans h.symm)]
    exact q H' ex⟩
theorem isP_below {ns : List Nat} (hn : ns.Nodup) (h : ∀ x ∈ ns, x < ns.length) : IsP ns := ⟨(List.perm_ext_iff_of_nodup hn List.nodup_range).mpr fun x => by
  rw [List.mem_range]
  refine ⟨h x, fun hx => Classical.byContradiction fun hno => ?_⟩
  have := nodup_le ns.length (x :: ns) (List.nodup_cons.mpr ⟨hno, hn⟩) (fun y hy => by
    rcases List.mem_cons.mp hy with rfl | hy
    · exact hx
    · exact h y hy)
  rw [List.length_cons] at this
  omega⟩
/-- a list of numbers that are the halves of a mesh, each once -/
def Good (xs : List V) : Prop := ∃ ns, xs = L ns ∧ IsP ns ∧ ns.length % 2 = 0
def sp_areallhalves (K : PySem.W.Frag) : Sp := fun vs H Q _ => ∃ (a : Addr) (xs : List V), vs = [.ref a] ∧ SqL K H a xs ∧ xs.length ≤ 4000 ∧ (∀ x ∈ xs, IB x) ∧
  ∀ b H', (b = true ↔ Good xs) → Ex H H' → Q (.bl b) H'
abbrev nm_areallhalves : List Str := ["numbers"]
abbrev pr_areallhalves : List Str := ["numbers"]
def t_areallhalves (K : PySem.W.Frag) : TS :=
  (tRet (tAndV (tOp rEq (tOp zMod (tCB (cLen K) (tCons (tVar 0) tNil)) (tC (.int 2))) (tC (.int 0))) (tCall (sp_arehalves K) [] E0 (tCons (tVar 0) (tCons (tCB (cLen K) (tCons (tVar 0) tNil)) tNil)))))
abbrev Wt_areallhalves (K : PySem.W.Frag) (vs : List V) (H : Hp) (Q : VK) : Prop := t_areallhalves K { nx := fun _ H' => Q .non H', rt := Q } (start nm_areallhalves vs) H
theorem ln_areallhalves {K : PySem.W.Frag} (vs : List V) (H : Hp) (Q : VK) (E : XK) (h : sp_areallhalves K vs H Q E) : vs.length = pr_areallhalves.length := by
  obtain ⟨_, _, rfl, _⟩ := h
  rfl
theorem good_below {xs : List V} : Good xs ↔ xs.length % 2 = 0 ∧ Below xs xs.length := by
  constructor
  · rintro ⟨ns, rfl, hP, h2⟩
    rw [L_len]
    exact ⟨h2, ns, rfl, hP.nodup, fun x hx => hP.mem.mp hx⟩
  · rintro ⟨h2, ns, rfl, hn, h⟩
    rw [L_len] at h2 h
    exact ⟨ns, rfl, isP_below hn h, h2⟩
theorem isI_L (ns : List Nat) : ∀ x ∈ L ns, isI x = true := by
  intro x hx
  obtain ⟨n, _, rfl⟩ := List.mem_map.mp hx
  rfl
theorem ints_of : ∀ {xs : List V}, (∀ x ∈ xs, isI x = true) → ∃ zs : List Int, xs = zs.map V.int
  | [], _ => ⟨[], rfl⟩
  | x :: r, h => by
    obtain ⟨zs, e⟩ := ints_of (xs := r) fun y hy => h y (List.mem_cons_of_mem _ hy)
    have hx := h x (List.mem_cons_self ..)
    cases x with
    | int i => exact ⟨i :: zs, by rw [e]; rfl⟩
    | _ => cases hx
theorem map_int_inj {a b : List Int} (h : a.map V.int = b.map V.int) : a = b := by
  induction a generalizing b with
  | nil => cases b with
    | nil => rfl
    | cons _ _ => cases h
  | cons x r ih => cases b with
    | nil => cases h
    | cons y s =>
      injection h with h1 h2
      injection h1 with h1
      rw [h1, ih h2]
theorem good_ints {zs ns' : List Int} (hp : ns'.Perm zs) (hs : ns'.Pairwise (· ≤ ·)) (h2 : zs.length % 2 = 0) : ns' = (List.range zs.length).map (fun i : Nat => (i : Int)) ↔ Good (zs.map V.int) := by
  constructor
  · intro e
    subst e
    have hz : ∀ z ∈ zs, 0 ≤ z := fun z hz => by
      obtain ⟨i, _, rfl⟩ := List.mem_map.mp (hp.mem_iff.mpr hz)
      omega
    have key : ∀ zs : List Int, (∀ z ∈ zs, 0 ≤ z) → zs = (zs.map Int.toNat).map fun i : Nat => (i : Int) := by
      intro zs
      induction zs with
      | nil => intro _; rfl
      | cons z r ih =>
        intro h
        rw [List.map_cons, List.map_cons, ← ih fun y hy => h y (List.mem_cons_of_mem _ hy)]
        have := h z (List.mem_cons_self ..)
        rw [show (((z.toNat : Nat)) : Int) = z by omega]
    have e := key zs hz
    refine ⟨zs.map Int.toNat, ?_, ⟨?_⟩, by rw [List.length_map]; exact h2⟩
    · rw [L_int, ← e]
    · rw [List.length_map]
      have hq := hp.map Int.toNat
      rw [List.map_map] at hq
      have e3 : (List.range zs.length).map (Int.toNat ∘ fun i : Nat => (i : Int)) = List.range zs.length := by
        rw [List.map_congr_left (g := id) (fun i _ => by show ((i : Nat) : Int).toNat = i; omega), List.map_id]
      rw [e3] at hq
      exact hq.symm
  · rintro ⟨ns, e, hP, _⟩
    rw [L_int] at e
    have e := map_int_inj e
    subst e
    refine List.Perm.eq_of_pairwise (le := (· ≤ ·)) (fun a b _ _ h1 h2 => Int.le_antisymm h1 h2) hs ?_ ?_
    · rw [List.pairwise_map]
      exact List.Pairwise.imp (fun h => by omega) List.pairwise_lt_range
    · rw [List.length_map]
      exact hp.trans (hP.perm.map _)
theorem rcl_sorted {K : PySem.W.Frag} {H : Hp} {a : Addr} {zs : List Int} {r : List Int} (hS : SqL K H a (zs.map V.int)) (hu : ∀ ns' : List Int, ns'.Perm zs → ns'.Pairwise (· ≤ ·) → ns' = r) : RCL (rSortedI K) [.ref a] H (r.map V.int) := fun H1 e Q q =>
  ⟨a, zs, rfl, ex_l e hS, fun ns' p h1 h2 hp => by
    rw [hu ns' h1 h2]
    exact q p _ hp (Ex.new hp) upd_same⟩
theorem sort_ex (zs : List Int) : ∃ r : List Int, r.Perm zs ∧ r.Pairwise (· ≤ ·) ∧ ∀ ns' : List Int, ns'.Perm zs → ns'.Pairwise (· ≤ ·) → ns' = r := by
  refine ⟨zs.mergeSort (fun a b => decide (a ≤ b)), List.mergeSort_perm _ _, ?_, fun ns' h1 h2 => ?_⟩
  · refine List.Pairwise.imp (fun h => of_decide_eq_true h) (List.pairwise_mergeSort (le := fun a b => decide (a ≤ b)) (fun a b c h1 h2 => ?_) (fun a b => ?_) zs)
    · have h1 := of_decide_eq_true h1
      have h2 := of_decide_eq_true h2
      exact decide_eq_true (Int.le_trans h1 h2)
    · rw [Bool.or_eq_true]
      rcases Int.le_total a b with h | h
      · exact .inl (decide_eq_true h)
      · exact .inr (decide_eq_true h)
  · refine List.Perm.eq_of_pairwise (le := (· ≤ ·)) (fun a b _ _ h1 h2 => Int.le_antisymm h1 h2) h2 ?_ (h1.trans (List.mergeSort_perm _ _).symm)
    refine List.Pairwise.imp (fun h => of_decide_eq_true h) (List.pairwise_mergeSort (le := fun a b => decide (a ≤ b)) (fun a b c h1 h2 => ?_) (fun a b => ?_) zs)
    · have h1 := of_decide_eq_true h1
      have h2 := of_decide_eq_true h2
      exact decide_eq_true (Int.le_trans h1 h2)
    · rw [Bool.or_eq_true]
      rcases Int.le_total a b with h | h
      · exact .inl (decide_eq_true h)
      · exact .inr (decide_eq_true h)
theorem rd_areallhalves {K : PySem.W.Frag} (F : KF K) (vs : List V) (H : Hp) (Q : VK) (E : XK) (h : sp_areallhalves K vs H Q E) : Wt_areallhalves K vs H Q := by
  obtain ⟨a, xs, rfl, hS, hz, hI, k⟩ := h
  show t_areallhalves K _ [some (.ref a)] H
  obtain ⟨b, hb⟩ : ∃ b : Bool, b = true ↔ Below xs xs.length := by
    by_cases h : Below xs xs.length
    · exact ⟨true, fun _ => h, fun _ => rfl⟩
    · exact ⟨false, (fun q => nomatch q), fun q => absurd q h⟩
  refine s_ret (v := .bl (decide (V.int ((xs.length : Int).fmod 2) = V.int 0) && b)) (ev_andV (ev_op (ev_op (ev_cb (ea_1 (ev_var rfl)) (rc_len hS)) ev_c (rv_I (by decide))) ev_c (rv_eq rfl)) (fun _ => ev_call (ea_2 (ev_var rfl) (ev_cb (ea_1 (ev_var rfl)) (rc_len hS))) (spv_hT hS hz hI hb))) (fun H1 e1 => k _ H1 ?_ e1)
  rw [good_below, Bool.and_eq_true, hb, decide_eq_true_iff]
  have e : V.int ((xs.length : Int).fmod 2) = V.int 0 ↔ xs.length % 2 = 0 := by
    rw [Int.fmod_eq_emod_of_nonneg _ (by decide)]
    constructor
    · intro h
      injection h with h
      omega
    · intro h
      congr 1
      omega
  rw [e]
end Hm
namespace Hm
open PySem PySem.Spec PyProof.Rows L2 Evl
/-! ### the program: links back, rounds -/
section
variable {K : PySem.W.Frag} {σ : L2.St} {H : Hp} {ta tb te tv tn : TE} {D : Ends} {tz : TS} {y v : V}
theorem replicate_flatten {v : V} : ∀ n : Nat, (List.replicate n [v]).flatten = List.replicate n v
  | 0 => rfl
  | n + 1 => by
    rw [List.replicate_succ, List.flatten_cons, replicate_flatten n, List.replicate_succ]
    rfl
theorem el_rep1 {n : Nat} (hv : Ev tv σ H v) (hn : Ev tn σ H (.int (n : Int))) (hz : n ≤ 100000) : EvL (tOp rRep (tLst (tCons tv tNil)) tn) σ H (List.replicate n v) := fun H1 e Q q =>
  el_lst (ea_1 hv) (by show 1 ≤ 100000; decide) H1 e _ fun p H2 _ e2 h2 => hn H2 (e.trans e2) _ fun H3 e3 => ⟨p, (n : Int), [v], rfl, rfl, e3 _ _ h2, by omega, by omega, sz_of (by show 1 * (n : Int).toNat ≤ 100000; omega), fun r hr => by
    have e4 : (List.replicate ((n : Int).toNat) [v]).flatten = List.replicate n v := by rw [Int.toNat_natCast, replicate_flatten]
    rw [e4]
    exact q r _ (fresh_back (e2.trans e3) hr) ((e2.trans e3).trans (Ex.new hr)) upd_same⟩
theorem q_fld {a C dx : Addr} {fs : List (Str × V)} {f : Str} (hv : Ev tv σ H y) (ha : Ev ta σ H (.ref a)) (ho : H a = some (.ins C dx fs)) (hc : Cls K C) (hn : NoAttr K C f) (hl : fs.length < 1000) (k : ∀ H1, Ex H H1 → tz D σ (upd H1 a (.ins C dx (putF f y fs)))) : tSeq (sFld K ta tv f) tz D σ H :=
  hv H (Ex.refl H) _ fun H1 e1 => ha H1 e1 _ fun H2 e2 => ⟨a, C, dx, fs, rfl, e2 _ _ (e1 _ _ ho), hc, hn, hl, k H2 (e1.trans e2)⟩
theorem q_fldL {a C dx : Addr} {fs : List (Str × V)} {f : Str} {xs : List V} (hv : EvL tv σ H xs) (ha : Ev ta σ H (.ref a)) (ho : H a = some (.ins C dx fs)) (hc : Cls K C) (hn : NoAttr K C f) (hl : fs.length < 1000) (k : ∀ p H1, H p = none → Ex H H1 → H1 p = some (.lst xs) → tz D σ (upd H1 a (.ins C dx (putF f (.ref p) fs)))) : tSeq (sFld K ta tv f) tz D σ H :=
  hv H (Ex.refl H) _ fun p H1 hp e1 h1 => ha H1 e1 _ fun H2 e2 => ⟨a, C, dx, fs, rfl, e2 _ _ (e1 _ _ ho), hc, hn, hl, k p H2 hp (e1.trans e2) (e2 _ _ h1)⟩
theorem s_fldL {a C dx : Addr} {fs : List (Str × V)} {f : Str} {xs : List V} (hv : EvL tv σ H xs) (ha : Ev ta σ H (.ref a)) (ho : H a = some (.ins C dx fs)) (hc : Cls K C) (hn : NoAttr K C f) (hl : fs.length < 1000) (k : ∀ p H1, H p = none → Ex H H1 → H1 p = some (.lst xs) → D.nx σ (upd H1 a (.ins C dx (putF f (.ref p) fs)))) : sFld K ta tv f D σ H :=
  hv H (Ex.refl H) _ fun p H1 hp e1 h1 => ha H1 e1 _ fun H2 e2 => ⟨a, C, dx, fs, rfl, e2 _ _ (e1 _ _ ho), hc, hn, hl, k p H2 hp (e1.trans e2) (e2 _ _ h1)⟩
end
def bkUp (ns : List Nat) (i : Nat) : List Nat := (List.range ns.length).map fun h => if bk ns h < i then bk ns h else 0
theorem bkUp_zero (ns : List Nat) : L (bkUp ns 0) = List.replicate ns.length (.int 0) := by
  unfold L bkUp
  rw [List.map_map]
  refine List.eq_replicate_iff.mpr ⟨by rw [List.length_map, List.length_range], fun b hb => ?_⟩
  obtain ⟨i, _, rfl⟩ := List.mem_map.mp hb
  rfl
theorem bkUp_all {ns : List Nat} (h : IsP ns) : bkUp ns ns.length = prevs ns := by
  unfold bkUp prevs
  refine List.map_congr_left fun x hx => ?_
  rw [if_pos (bk_lt h (List.mem_range.mp hx))]
theorem bkUp_succ {ns : List Nat} (h : IsP ns) {i : Nat} (hi : i < ns.length) : (L (bkUp ns i)).set (fn ns i) (vi i) = L (bkUp ns (i + 1)) := by
  refine List.ext_getElem? fun j => ?_
  have hb : ∀ i, (L (bkUp ns i)).length = ns.length := fun i => by rw [L_len]; unfold bkUp; rw [List.length_map, List.length_range]
  by_cases hj : j < ns.length
  · have gt : ∀ i, (L (bkUp ns i))[j]? = some (vi (if bk ns j < i then bk ns j else 0)) := fun i => by
      unfold L bkUp
      rw [List.map_map, List.getElem?_map, List.getElem?_range hj]
      rfl
    by_cases e : fn ns i = j
    · rw [← e, List.getElem?_set_self (by rw [hb, e]; exact hj), e, gt, ← e, bk_fn h hi, if_pos (by omega)]
    · rw [List.getElem?_set_ne e, gt, gt]
      have hne : bk ns j ≠ i := fun q => e (by rw [← q, fn_bk h hj])
      by_cases q : bk ns j < i
      · rw [if_pos q, if_pos (by omega)]
      · rw [if_neg q, if_neg (by omega)]
  · rw [List.getElem?_eq_none (by rw [List.length_set, hb]; omega), List.getElem?_eq_none (by rw [hb]; omega)]
def sp_inverse (K : PySem.W.Frag) : Sp := fun vs H Q _ => ∃ (a : Addr) (ns : List Nat), vs = [.ref a] ∧ SqL K H a (L ns) ∧ IsP ns ∧ ns.length ≤ 1000 ∧
  ∀ p H', H p = none → Ex H H' → H' p = some (.lst (L (prevs ns))) → Q (.ref p) H'
abbrev nm_inverse : List Str := ["links", "back", "half", "other"]
abbrev pr_inverse : List Str := ["links"]
def t_inverse (K : PySem.W.Frag) : TS :=
  (tSeq (tAsg (tOp rRep (tLst (tCons (tC (.int 0)) tNil)) (tCB (cLen K) (tCons (tVar 0) tNil))) (gName 1))
  (tSeq (tFor (iEnum K (tCons (tVar 0) tNil)) (gTup K 2 (gCons (gName 2) (gCons (gName 3) gNil))) (tAsg (tVar 2) (gSub (tVar 1) (tVar 3) rSetL)))
  (tRet (tVar 1))))
abbrev Wt_inverse (K : PySem.W.Frag) (vs : List V) (H : Hp) (Q : VK) : Prop := t_inverse K { nx := fun _ H' => Q .non H', rt := Q } (start nm_inverse vs) H
theorem ln_inverse {K : PySem.W.Frag} (vs : List V) (H : Hp) (Q : VK) (E : XK) (h : sp_inverse K vs H Q E) : vs.length = pr_inverse.length := by
  obtain ⟨_, _, rfl, _⟩ := h
  rfl
theorem rd_inverse {K : PySem.W.Frag} (F : KF K) (vs : List V) (H : Hp) (Q : VK) (E : XK) (h : sp_inverse K vs H Q E) : Wt_inverse K vs H Q := by
  obtain ⟨a, ns, rfl, hS, hP, hl, k⟩ := h
  show t_inverse K _ [some (.ref a), none, none, none] H
  refine q_asgL (el_rep1 (n := ns.length) ev_c (ev_is (ev_cb (ea_1 (ev_var rfl)) (rc_len hS)) (by rw [L_len])) (by omega)) (fun p H1 hp e1 h1 => ?_)
  rw [← bkUp_zero] at h1
  refine ⟨.ref a, rfl, a, L ns, rfl, ex_l e1 hS, ?_⟩
  refine for_it (walk_enum (xs := L ns)) (fun i σ' H' => ∃ v2 v3, σ' = [some (.ref a), some (.ref p), v2, v3] ∧ Ex H H' ∧ H' p = some (.lst (L (bkUp ns i)))) ⟨_, _, rfl, e1, h1⟩ ?_ ?_ ?_
  · rintro i σ' H' _ ⟨v2, v3, rfl, ex, _⟩
    exact ex_l ex hS
  · rintro i x σ' H2 H3 hi ⟨v2, v3, rfl, ex, hb⟩ ⟨T, x1, x2, rfl, hT, rfl, e2, e3⟩
    rw [L_len] at hi
    have e2 : vi i = x1 := Option.some.inj e2
    have e3 : (L ns)[i]? = some x2 := e3
    rw [L_get hi] at e3
    have e3 := Option.some.inj e3
    subst e2 e3
    have exT : Ex H2 (upd H2 T (.tup [vi i, vi (fn ns i)])) := Ex.new hT
    refine ⟨T, [vi i, vi (fn ns i)], rfl, .inl (.inl upd_same), rfl, vi i, [vi (fn ns i)], rfl, vi (fn ns i), [], rfl, rfl, ?_⟩
    refine s_setL (j := fn ns i) (exT _ _ hb) (ev_var rfl) (ev_var rfl) (ev_var rfl) (by rw [L_len]; unfold bkUp; rw [List.length_map, List.length_range]; exact (pf_fn hP).lt i hi) (fun H4 e4 => ?_)
    refine ⟨_, _, rfl, Ex.mut ((ex.trans exT).trans e4) hp, ?_⟩
    rw [upd_same, bkUp_succ hP hi]
  · rintro σ' H' ⟨v2, v3, rfl, ex, hb⟩
    rw [L_len, bkUp_all hP] at hb
    refine s_ret (ev_var rfl) (fun H2 e2 => k p H2 hp (ex.trans e2) (e2 _ _ hb))
theorem spl_inverse {K : PySem.W.Frag} {H : Hp} {a : Addr} {ns : List Nat} (hS : SqL K H a (L ns)) (hP : IsP ns) (hl : ns.length ≤ 1000) : SpL (sp_inverse K) [.ref a] H (L (prevs ns)) :=
  fun H1 e Q q E => ⟨a, ns, rfl, ex_l e hS, hP, hl, fun p H' hp ex hq => q p H' hp ex hq⟩

def sp_rounds (K : PySem.W.Frag) : Sp := fun vs H Q _ => ∃ (a : Addr) (ns : List Nat), vs = [.ref a] ∧ SqL K H a (L ns) ∧ IsP ns ∧ ns.length ≤ 1000 ∧
  ∀ p H', H p = none → Ex H H' → LLn H H' p (cycs (fn ns) ns.length ns.length) → Q (.ref p) H'
abbrev nm_rounds : List Str := ["links", "found", "seen", "start", "members", "half"]
abbrev pr_rounds : List Str := ["links"]
def t_rounds (K : PySem.W.Frag) : TS :=
  (tSeq (tAsg (tLst tNil) (gName 1))
  (tSeq (tAsg (tOp rRep (tLst (tCons (tC (.bl false)) tNil)) (tCB (cLen K) (tCons (tVar 0) tNil))) (gName 2))
  (tSeq (tFor (iRng1 (tCons (tCB (cLen K) (tCons (tVar 0) tNil)) tNil)) (gName 3) (tIfS (tNot (tB (tOp (rIxL K) (tVar 2) (tVar 3)))) (tSeq (tAsg (tLst tNil) (gName 4))
        (tSeq (tAsg (tVar 3) (gName 5))
        (tSeq (tWhile (tNot (tB (tOp (rIxL K) (tVar 2) (tVar 5)))) (tSeq (tAsg (tC (.bl true)) (gSub (tVar 2) (tVar 5) rSetL))
            (tSeq (tDrop (tBM K "list" rAppend (tVar 4) (tCons (tVar 5) tNil)))
            (tAsg (tOp (rIxL K) (tVar 0) (tVar 5)) (gName 5)))))
        (tDrop (tBM K "list" rAppend (tVar 1) (tCons (tVar 4) tNil)))))) tNext))
  (tRet (tVar 1)))))
abbrev Wt_rounds (K : PySem.W.Frag) (vs : List V) (H : Hp) (Q : VK) : Prop := t_rounds K { nx := fun _ H' => Q .non H', rt := Q } (start nm_rounds vs) H
theorem ln_rounds {K : PySem.W.Frag} (vs : List V) (H : Hp) (Q : VK) (E : XK) (h : sp_rounds K vs H Q E) : vs.length = pr_rounds.length := by
  obtain ⟨_, _, rfl, _⟩ := h
  rfl
theorem bl_get {bs : List Bool} {i : Nat} (h : i < bs.length) : atI (bs.map V.bl) ((i : Nat) : Int) = some (.bl (bs.getD i false)) := by
  refine atI_nat ?_
  rw [List.getElem?_map, List.getD_eq_getElem?_getD, List.getElem?_eq_getElem h]
  rfl
theorem bs_set {bs : List Bool} {i j : Nat} (h : j < bs.length) : (bs.set i true).getD j false = true ↔ bs.getD j false = true ∨ j = i := by
  by_cases e : i = j
  · subst e
    rw [List.getD_eq_getElem?_getD, List.getElem?_set_self h]
    simp
  · rw [List.getD_eq_getElem?_getD, List.getElem?_set_ne e, ← List.getD_eq_getElem?_getD]
    constructor
    · exact .inl
    · rintro (h | h)
      · exact h
      · exact absurd h.symm e
theorem rd_rounds {K : PySem.W.Frag} (F : KF K) (vs : List V) (H : Hp) (Q : VK) (E : XK) (h : sp_rounds K vs H Q E) : Wt_rounds K vs H Q := by
  obtain ⟨a, ns, rfl, hS, hP, hl, kk⟩ := h
  show t_rounds K _ [some (.ref a), none, none, none, none, none] H
  have PF := pf_fn hP
  refine q_asgL (el_lst ea_nil (Nat.zero_le _)) (fun pF H1 hpF e1 h1 => ?_)
  refine q_asgL (el_rep1 (n := ns.length) ev_c (ev_is (ev_cb (ea_1 (ev_var rfl)) (rc_len (ex_l e1 hS))) (by rw [L_len])) (by omega)) (fun pS H2 hpS e2 h2 => ?_)
  have hpS0 : H pS = none := fresh_back e1 hpS
  have hSF : pS ≠ pF := (ne_of_none h1 hpS).symm
  refine q_forR1 (n := (ns.length : Int)) (ea_1 (ev_is (ev_cb (ea_1 (ev_var rfl)) (rc_len (ex_l (e1.trans e2) hS))) (by rw [L_len]))) (by omega)
    (fun i σ' H' => ∃ (v3 v4 v5 : Option V) (as : List Addr) (bs : List Bool), σ' = [some (.ref a), some (.ref pF), some (.ref pS), v3, v4, v5] ∧ Ex H H' ∧ H' pF = some (.lst (as.map V.ref)) ∧ H' pS = some (.lst (bs.map V.bl)) ∧ LA H' as (cycs (fn ns) ns.length i) ∧
      (∀ x ∈ as, H x = none ∧ x ≠ pF ∧ x ≠ pS) ∧ as.length ≤ i ∧ bs.length = ns.length ∧ ∀ j, j < ns.length → (bs.getD j false = true ↔ Sn (fn ns) ns.length i j)) ?_ ?_ ?_
  · intro H3 e3
    refine ⟨_, _, _, [], List.replicate ns.length false, rfl, e1.trans (e2.trans e3), e3 _ _ (e2 _ _ h1), by rw [List.map_replicate]; exact e3 _ _ h2, .nil, fun x hx => (nomatch hx), Nat.le_refl _, List.length_replicate .., fun j hj => ?_⟩
    constructor
    · intro h
      rw [List.getD_eq_getElem?_getD, List.getElem?_replicate] at h
      rw [if_pos hj] at h
      cases h
    · rintro ⟨s, h, _⟩
      exact absurd h (Nat.not_lt_zero _)
  · rintro i σ' H' hi ⟨v3, v4, v5, as, bs, rfl, ex, a1, a2, a3, a4, a5, a6, a7⟩
    have hi' : i < ns.length := by omega
    refine s_when (b := !(bs.getD i false)) (et_not (et_B (ev_op (ev_var rfl) (ev_var rfl) (rv_ixL (sq_of a2) (bl_get (by omega)))))) (fun hb H3 e3 => ?_) (fun hb H3 e3 => ?_)
    · have hns : ¬ Sn (fn ns) ns.length i i := fun h => by
        rw [(a7 i hi').mpr h] at hb
        cases hb
      have hmin : isMin (fn ns) ns.length i = true := by
        refine Classical.byContradiction fun h => hns ((sn_iff_notMin PF hi').mpr h)
      obtain ⟨p1, p2, p3⟩ := per_spec PF hi'
      have p0 := per_pos (fn ns) ns.length i
      refine q_asgL (el_lst ea_nil (Nat.zero_le _)) (fun pM H4 hpM e4 h4 => ?_)
      have hpM0 : H pM = none := fresh_back (ex.trans e3) hpM
      have hMF : pM ≠ pF := (ne_of_none (e3 _ _ a1) hpM).symm
      have hMS : pM ≠ pS := (ne_of_none (e3 _ _ a2) hpM).symm
      have hMa : ∀ x ∈ as, x ≠ pM := LA.fresh (LA.ex a3 e3) hpM
      refine q_asg (ev_var rfl) (fun H5 e5 => ?_)
      refine q_while (fun m σ' H' => ∃ (k : Nat) (bs' : List Bool), k ≤ per (fn ns) ns.length i ∧ m = per (fn ns) ns.length i - k ∧ σ' = [some (.ref a), some (.ref pF), some (.ref pS), some (vi i), some (.ref pM), some (vi (itr (fn ns) k i))] ∧ Ex H H' ∧
        H' pF = some (.lst (as.map V.ref)) ∧ H' pS = some (.lst (bs'.map V.bl)) ∧ H' pM = some (.lst (L ((List.range k).map fun j => itr (fn ns) j i))) ∧ LA H' as (cycs (fn ns) ns.length i) ∧ bs'.length = ns.length ∧
        ∀ j, j < ns.length → (bs'.getD j false = true ↔ Sn (fn ns) ns.length i j ∨ j ∈ (List.range k).map fun j => itr (fn ns) j i)) (per (fn ns) ns.length i) ?_ ?_
      · refine ⟨0, bs, Nat.zero_le _, rfl, rfl, ex.trans (e3.trans (e4.trans e5)), e5 _ _ (e4 _ _ (e3 _ _ a1)), e5 _ _ (e4 _ _ (e3 _ _ a2)), e5 _ _ h4, LA.ex a3 (e3.trans (e4.trans e5)), a6, fun j hj => ?_⟩
        rw [a7 j hj]
        constructor
        · exact .inl
        · rintro (h | h)
          · exact h
          · cases h
      · rintro m σ' H6 ⟨k, bs', k1, rfl, rfl, ex6, b1, b2, b3, b4, b5, b6⟩
        have hlt : itr (fn ns) k i < ns.length := itr_lt PF hi' k
        refine ⟨!(bs'.getD (itr (fn ns) k i) false), et_not (et_B (ev_op (ev_var rfl) (ev_var rfl) (rv_ixL (sq_of b2) (bl_get (by omega))))), fun hb2 H7 e7 => ?_, fun hb2 H7 e7 => ?_⟩
        · have hk : k < per (fn ns) ns.length i := by
            refine Nat.lt_of_le_of_ne k1 fun e => ?_
            have h9 : bs'.getD (itr (fn ns) k i) false = true := (b6 _ hlt).mpr (.inr (by
              rw [e, p1]
              exact List.mem_map.mpr ⟨0, List.mem_range.mpr (by omega), rfl⟩))
            rw [h9] at hb2
            cases hb2
          refine ⟨_, fun σ2 H2 hN => ⟨per (fn ns) ns.length i - (k + 1), by omega, hN⟩, ?_⟩
          refine q_setL (j := itr (fn ns) k i) (e7 _ _ b2) ev_c (ev_var rfl) (ev_var rfl) (by rw [List.length_map]; omega) (fun H8 e8 => ?_)
          have x8 : Ex H (upd H8 pS (.lst ((bs'.map V.bl).set (itr (fn ns) k i) (.bl true)))) := Ex.mut (ex6.trans (e7.trans e8)) hpS0
          have c1 : (upd H8 pS (.lst ((bs'.map V.bl).set (itr (fn ns) k i) (.bl true)))) pM = some (.lst (L ((List.range k).map fun j => itr (fn ns) j i))) := by
            rw [upd_ne hMS]
            exact e8 _ _ (e7 _ _ b3)
          refine q_app c1 (ev_var rfl) (ev_var rfl) (by rw [L_len, List.length_map, List.length_range]; omega) (fun H9 e9 => ?_)
          have x9 : Ex H (upd H9 pM (.lst (L ((List.range k).map fun j => itr (fn ns) j i) ++ [vi (itr (fn ns) k i)]))) := Ex.mut (x8.trans e9) hpM0
          refine s_asg (ev_op (ev_var rfl) (ev_var rfl) (rv_ixL (ex_l x9 hS) (L_at hlt))) (fun H10 e10 => ?_)
          refine ⟨k + 1, bs'.set (itr (fn ns) k i) true, by omega, rfl, rfl, x9.trans e10, ?_, ?_, ?_, ?_, by rw [List.length_set]; exact b5, fun j hj => ?_⟩
          · refine e10 _ _ ?_
            rw [upd_ne hMF.symm]
            refine e9 _ _ ?_
            rw [upd_ne hSF.symm]
            exact e8 _ _ (e7 _ _ b1)
          · refine e10 _ _ ?_
            rw [upd_ne hMS.symm]
            refine e9 _ _ ?_
            rw [upd_same, List.map_set]
          · rw [e10 _ _ upd_same, range_map_snoc, L_app]
            rfl
          · refine LA.ex (LA.upd (LA.ex (LA.upd (LA.ex b4 (e7.trans e8)) fun x hx => (a4 x hx).2.2) e9) hMa) e10
          · rw [bs_set (by omega), b6 j hj, range_map_snoc, List.mem_append, List.mem_singleton]
            constructor
            · rintro ((h | h) | h)
              · exact .inl h
              · exact .inr (.inl h)
              · exact .inr (.inr h)
            · rintro (h | h | h)
              · exact .inl (.inl h)
              · exact .inl (.inr h)
              · exact .inr h
        · have hk : k = per (fn ns) ns.length i := by
            refine Classical.byContradiction fun hne => ?_
            have hkl : k < per (fn ns) ns.length i := by omega
            have h9 : bs'.getD (itr (fn ns) k i) false = true := by
              cases q : bs'.getD (itr (fn ns) k i) false with
              | true => rfl
              | false => rw [q] at hb2; cases hb2
            rcases (b6 _ hlt).mp h9 with h | h
            · exact sn_itr PF hi' hns k h
            · exact rnd_take_nodup PF hi' hkl h
          subst hk
          have x7 := ex6.trans e7
          refine s_app (e7 _ _ b1) (ev_var rfl) (ev_var rfl) (by rw [List.length_map]; omega) (fun H8 e8 => ?_)
          refine ⟨_, _, _, as ++ [pM], bs', rfl, Ex.mut (x7.trans e8) hpF, ?_, ?_, ?_, fun x hx => ?_, by rw [List.length_append]; show as.length + 1 ≤ i + 1; omega, b5, fun j hj => ?_⟩
          · rw [upd_same, List.map_append]
            rfl
          · rw [upd_ne hSF]
            exact e8 _ _ (e7 _ _ b2)
          · rw [cycs_yes hmin]
            refine paired_snoc (LA.upd (LA.ex b4 (e7.trans e8)) fun x hx => (a4 x hx).2.1) ?_
            show upd H8 pF _ pM = _
            rw [upd_ne hMF]
            exact e8 _ _ (e7 _ _ b3)
          · rcases List.mem_append.mp hx with hx | hx
            · exact a4 x hx
            · rw [List.mem_singleton.mp hx]
              exact ⟨hpM0, hMF, hMS⟩
          · rw [b6 j hj, sn_succ hi']
            exact Iff.rfl
    · have hb' : bs.getD i false = true := by
        cases q : bs.getD i false with
        | true => rfl
        | false => rw [q] at hb; cases hb
      have hsn := (a7 i hi').mp hb'
      have hmin : ¬ isMin (fn ns) ns.length i = true := (sn_iff_notMin PF hi').mp hsn
      refine ⟨_, _, _, as, bs, rfl, ex.trans e3, e3 _ _ a1, e3 _ _ a2, ?_, a4, by omega, a6, fun j hj => ?_⟩
      · rw [cycs_no hmin]
        exact LA.ex a3 e3
      · rw [a7 j hj, sn_succ hi']
        constructor
        · exact .inl
        · rintro (h | h)
          · exact h
          · obtain ⟨s, s1, s2, s3⟩ := hsn
            exact ⟨s, s1, s2, rnd_trans PF s2 s3 h⟩
  · rintro σ' H' ⟨v3, v4, v5, as, bs, rfl, ex, a1, a2, a3, a4, a5, a6, a7⟩
    rw [Int.toNat_natCast] at a3
    refine s_ret (ev_var rfl) (fun H2 e2 => ?_)
    exact kk pF H2 hpF (ex.trans e2) ⟨as, e2 _ _ a1, LA.ex a3 e2, fun x hx => ⟨(a4 x hx).1, (a4 x hx).2.1⟩⟩
end Hm
namespace Hm
open PySem PySem.Spec PyProof.Rows L2 Evl
/-! ### own ==, len, in -/
section
variable {X : Cx} {CX : CXT} {n : Nat} {C f : Addr} {fd : FuncData} {ps : List Str} {sp : Sp} {E : XK}
/-- a def of the written part, called somewhere below the running body -/
theorem own_run {A : Around} {pins : List (Addr × Obj)} {σ : L2.St} {H : Hp} {s : Shared} {Q : VK} {us : List Value} {vs : List V} (F : FnOk X.prog X.w X.K X.mg X.base CX n f fd ps sp) (hr : Room n A) (hfr : A.frames = X.A.frames)
    (hb : Binds X.K fd ps []) (hx : Passes CX X E) (I : Inv X pins σ H s) (r : Vals vs us) (h : sp vs H Q E) : wpAny (model X.prog X.w) A (call (.ref f) us) (EP X pins σ Q) X.xe s := by
  have e0 : Env0 X.prog X.w X.K X.mg X.base A X.stack s H := by
    have e := I.env0
    exact ⟨by rw [hfr]; exact e.frames, e.mod, e.bs, e.bsz, e.funs, e.frf, e.hok, e.bare⟩
  have hl := F.len _ _ _ _ h
  have hb2 : BindsTo s fd ⟨us, []⟩ (ps.zip us) := by
    have q := hb s us I.kIn (by rw [List.append_nil, ← r.length]; exact hl)
    rw [List.append_nil] at q
    exact q
  refine wpAny_call (codeAny_mono (F.run A X.stack s H ⟨us, []⟩ us vs Q E hr e0 hb2 r h) fun r s' hq => ?_)
  cases r with
  | error e => exact hx pins σ H s e s' I hq
  | ok fl =>
    cases fl with
    | ret w => exact I.after hq
    | next => exact False.elim hq
    | brk => exact False.elim hq
    | cont => exact False.elim hq
/-- what stands on the right of an own == -/
inductive Rgt (K : PySem.W.Frag) (C : Addr) (H : Hp) : V → Prop where
  | ins {b dx : Addr} {fs : List (Str × V)} (e : H b = some (.ins C dx fs)) : Rgt K C H (.ref b)
  | lst {b : Addr} {xs : List V} (e : H b = some (.lst xs)) (h : PySem.W.subIn K (.type "list") (.ref C) = some false) : Rgt K C H (.ref b)
  | int (i : Int) (h : PySem.W.subIn K (.type "int") (.ref C) = some false) : Rgt K C H (.int i)
theorem rgt_ok {pins : List (Addr × Obj)} {σ : L2.St} {H : Hp} {s : Shared} {y : V} {u : Value} (I : Inv X pins σ H s) (r : RelV y u) (h : Rgt X.K C H y) : ∃ tb, PySem.W.Looks (model X.prog X.w) s.heap (typeOf u) tb ∧ PySem.W.notFirst X.K C tb = true := by
  cases h with
  | ins e =>
    cases r
    obtain ⟨mA, J, _⟩ := ins_get I.hok e
    obtain ⟨od, J, _⟩ := J.look
    exact ⟨_, J.type, by simp [PySem.W.notFirst]⟩
  | lst e h =>
    cases r
    obtain ⟨_, its, k, _, e2⟩ := (show ObjOk X.prog X.w H s.heap _ (.lst _) from I.hok _ _ e)
    exact ⟨.type "list", (PySem.W.Looks.ld e2).andThen .now, by simp [PySem.W.notFirst, h]⟩
  | int i h =>
    obtain ⟨t, rfl⟩ := r
    exact ⟨.type "int", .now, by simp [PySem.W.notFirst, h]⟩
def rOwnEq (K : PySem.W.Frag) (C : Addr) (sp : Sp) (E : XK) : R2 := fun x y H Q => ∃ (a dx : Addr) (fs : List (Str × V)), x = .ref a ∧ H a = some (.ins C dx fs) ∧ Rgt K C H y ∧ sp [.ref a, y] H (fun v H' => ∃ b, v = .bl b ∧ Q (.bl b) H') E
theorem op_own_eq (F : FnOk X.prog X.w X.K X.mg X.base CX n f fd ps sp) (hs : PySem.W.findIn X.K (.ref C) "__eq__" = some (some (.ref f))) (hf : PySem.W.isFn X.K (.ref f) = true) (hb : Binds X.K fd ps []) (hx : Passes CX X E) (hr : Room n X.A) : OpR X (compareOp .Eq) (rOwnEq X.K C sp E) := by
  intro pins s σ H x y v u Q I rx ry hq
  obtain ⟨a, dx, fs, rfl, ha, hg, h⟩ := hq
  cases rx
  obtain ⟨mA, J, _⟩ := ins_get I.hok ha
  obtain ⟨od, J, _⟩ := J.look
  obtain ⟨m, hF⟩ := I.fr
  obtain ⟨tb, l1, l2⟩ := rgt_ok I ry hg
  show wpAny (model X.prog X.w) X.A (richCompare .Eq (.ref a) u) (EP X pins σ Q) X.xe s
  refine PySem.W.cmp_K (op := .Eq) (tb := tb) hr.units0 hF I.ok.mod.kin J l1 l2 hs hf ?_
  refine wpAny_mono (own_run (vs := [V.ref a, y]) F hr rfl hb hx I (.cons (show RelV (V.ref a) (Value.ref a) from rfl) (.cons ry .nil)) h) (fun r s' z => ?_) fun _ _ x => x
  obtain ⟨v', H', I', rv, b, rfl, q⟩ := z
  cases rv
  exact ⟨.bl b, H', I', rfl, q⟩
def rOwnLen (C : Addr) (sp : Sp) (E : XK) : List V → Hp → VK → Prop := fun xs H Q => ∃ (a dx : Addr) (fs : List (Str × V)), xs = [.ref a] ∧ H a = some (.ins C dx fs) ∧ sp [.ref a] H (fun v H' => ∃ k : Nat, v = .int (k : Int) ∧ k < 1000000 ∧ Q (.int (k : Int)) H') E
theorem call_own_len (F : FnOk X.prog X.w X.K X.mg X.base CX n f fd ps sp) (hs : PySem.W.findIn X.K (.ref C) "__len__" = some (some (.ref f))) (hf : PySem.W.isFn X.K (.ref f) = true) (hb : Binds X.K fd ps []) (hx : Passes CX X E) (hr : Room (n + 1) X.A) : CallR X (.builtin "len") (rOwnLen C sp E) := by
  intro pins s σ H xs us Q I r h
  obtain ⟨a, dx, fs, rfl, ha, h⟩ := h
  cases r with
  | cons ra rr =>
    cases rr
    cases ra
    obtain ⟨mA, J, _⟩ := ins_get I.hok ha
    obtain ⟨od, J, _⟩ := J.look
    obtain ⟨m, hF⟩ := I.fr
    refine PySem.W.len_K hF I.ok.mod.kin J hs hf ?_
    refine wpAny_mono (own_run (vs := [V.ref a]) F hr.in1 rfl hb hx I (.cons (show RelV (V.ref a) (Value.ref a) from rfl) .nil) h) (fun r s' z => ?_) fun _ _ x => x
    obtain ⟨v', H', I', rv, k, rfl, hk, q⟩ := z
    obtain ⟨t, rfl⟩ := rv
    exact ⟨⟨by omega, by omega⟩, .int (k : Int), H', I'.tok _, ⟨_, rfl⟩, q⟩
def rOwnIn (C : Addr) (sp : Sp) (E : XK) (neg : Bool) : R2 := fun x y H Q => ∃ (a dx : Addr) (fs : List (Str × V)), y = .ref a ∧ H a = some (.ins C dx fs) ∧ sp [.ref a, x] H (fun v H' => ∃ b, v = .bl b ∧ Q (.bl (if neg then !b else b)) H') E
theorem op_own_in (F : FnOk X.prog X.w X.K X.mg X.base CX n f fd ps sp) (hs : PySem.W.findIn X.K (.ref C) "__contains__" = some (some (.ref f))) (hf : PySem.W.isFn X.K (.ref f) = true) (hb : Binds X.K fd ps []) (hx : Passes CX X E) (hr : Room n X.A) : OpR X (compareOp .In) (rOwnIn C sp E false) := by
  intro pins s σ H x y v u Q I rx ry hq
  obtain ⟨a, dx, fs, rfl, ha, h⟩ := hq
  cases ry
  obtain ⟨mA, J, _⟩ := ins_get I.hok ha
  obtain ⟨od, J, _⟩ := J.look
  obtain ⟨m, hF⟩ := I.fr
  refine PySem.W.in_K hF I.ok.mod.kin J hs hf ?_
  refine wpAny_mono (own_run (vs := [V.ref a, x]) F hr rfl hb hx I (.cons (show RelV (V.ref a) (Value.ref a) from rfl) (.cons rx .nil)) h) (fun r s' z => ?_) fun _ _ x => x
  obtain ⟨v', H', I', rv, b, rfl, q⟩ := z
  cases rv
  exact wpAny_truthy_bool ⟨.bl b, H', I', rfl, q⟩
theorem op_own_notIn (F : FnOk X.prog X.w X.K X.mg X.base CX n f fd ps sp) (hs : PySem.W.findIn X.K (.ref C) "__contains__" = some (some (.ref f))) (hf : PySem.W.isFn X.K (.ref f) = true) (hb : Binds X.K fd ps []) (hx : Passes CX X E) (hr : Room n X.A) : OpR X (compareOp .NotIn) (rOwnIn C sp E true) := by
  intro pins s σ H x y v u Q I rx ry hq
  obtain ⟨a, dx, fs, rfl, ha, h⟩ := hq
  cases ry
  obtain ⟨mA, J, _⟩ := ins_get I.hok ha
  obtain ⟨od, J, _⟩ := J.look
  obtain ⟨m, hF⟩ := I.fr
  refine PySem.W.notIn_K hF I.ok.mod.kin J hs hf ?_
  refine wpAny_mono (own_run (vs := [V.ref a, x]) F hr rfl hb hx I (.cons (show RelV (V.ref a) (Value.ref a) from rfl) (.cons rx .nil)) h) (fun r s' z => ?_) fun _ _ x => x
  obtain ⟨v', H', I', rv, b, rfl, q⟩ := z
  cases rv
  exact wpAny_truthy_bool ⟨.bl (!b), H', I', rfl, q⟩
end
end Hm
namespace Hm
open PySem PySem.Spec PyProof.Rows L2 NdefX
/-! ### own errors whose __init__ begins with super().__init__(text) -/
abbrev VI : String := "ValueError.__init__"
/-- what the written part says of the class at C and of its __init__ at fI -/
structure SupF (P : Program) (K : PySem.W.Frag) (C fI : Addr) (qual : Str) (params : Arguments) (body : List Stmt) (scope : Scope) (fd : FuncData) : Prop where
  fn : ∃ (oc : Value) (od an : Option Addr) (osl : Array (Option Value)) (kV doc pm ct : Value) (cda cc : Addr), fd = PySem.W.fnX "__init__" qual params body scope [("__class__", cc)] .none kV doc pm an (.ref cda) ct ∧ K.lookup fI = some ⟨oc, od, .func fd, osl⟩ ∧
    PySem.W.codeIn K (.ref cda) qual = true ∧ (∃ (ccl : Value) (cdd : Option Addr) (vs : Array Value) (ccs : Array (Option Value)) (file : Str) (tf : Tok), K.lookup cda = some ⟨ccl, cdd, .fields vs, ccs⟩ ∧ vs[2]? = some (.str file tf) ∧ ((P.main.file : Str) == file) = true) ∧
    ∃ (cl : Value) (cld : Option Addr) (csl : Array (Option Value)), K.lookup cc = some ⟨cl, cld, .cell (some (.ref C)), csl⟩
  sub : PySem.W.mroIn K C (.ref C) = some true
  sup : PySem.W.nsIn K mainGlobals "super" = some none
  opq : PySem.W.nsIn K cStatics "thirdparty.any" = some none
  ini : PySem.W.ks_superIn K C C "__init__" = some (some (.builtin VI))
  vB : PySem.W.subIn K (.ref C) (.type "ValueError") = some true
  top : (P.main.scope.names.lookup ("super" : Str)).isSome = false
  oex : OexC K C
theorem cell_ne {K : PySem.W.Frag} {C cc : Addr} {cd : ClassData} {o : Obj} {v : Option Value} (h1 : PySem.W.clsIn K C = some cd) (h2 : K.lookup cc = some o) (h3 : o.data = .cell v) : True := trivial
theorem sup_fn {CX : CXT} {P : Program} {w : World} {K : PySem.W.Frag} {mg : Str → Option Value} {base : Heap} {C fI : Addr} {qual : Str} {params : Arguments} {scope : Scope} {fd : FuncData} {N ps : List Str} {k : Nat} {sp : Sp}
    {e : Expr} {rest : List Stmt} {p0 p1 p2 p3 p4 : Pos} {ar : Arg}
    (SF : SupF P K C fI qual params (.Expr (.Call (.Attribute (.Call (.Name "super" p0) [] [] p1) "__init__" p2) [e] [] p3) p4 :: rest) scope fd)
    (S : NScope N ps ["__class__"] scope) (hp : (params.posonlyargs ++ params.args).head? = some ar) (hN0 : N[0]? = some ar.arg) (hps : 0 < ps.length) (hsl : scope.names.lookup ("super" : Str) = some .globalImplicit)
    (len : ∀ vs H Q E, sp vs H Q E → vs.length = ps.length)
    (hbody : ∀ (F : NF) (A : Around) (outer : List Env) (s : Shared) (H : Hp) (vs : List V) (Q : VK) (E : XK), F.qual = qual → F.scope = scope → Room k (A.deeper (envF F fI s.heap.objs.size)) → sp vs H Q E →
      ∃ (x : Addr) (ta : TA) (t : TS), vs[0]? = some (.ref x) ∧ H x = some (exo x C none) ∧ PA (ncx CX P w K mg base N F fI A outer s H E) [e] ta ∧ PSs (ncx CX P w K mg base N F fI A outer s H E) rest t ∧
        ta (startF N vs [none]) H (fun ws H1 => ws.length ≤ 1000 ∧ H1 x = some (exo x C none) ∧ t { nx := fun _ H' => Q .non H', rt := Q } (startF N vs [none]) H1))
    (hswap : ∀ (env : Env), swapsWith (.Call (.Attribute (.Call (.Name "super" p0) [] [] p1) "__init__" p2) [e] [] p3) none p4.line env = pure false)
    (hstar : ∀ env : Env, starEach [e] env = (false, eval e env) :: starEach [] env)
    (hev : ∀ env : Env, ∃ pl : Sem Bool, eval (.Call (.Attribute (.Call (.Name "super" p0) [] [] p1) "__init__" p2) [e] [] p3) env = (do
      let ov ← attributeBase (.Call (.Name "super" p0) [] [] p1) "__init__" env (eval (.Call (.Name "super" p0) [] [] p1) env)
      standAt p2.atName
      let (f, first) ← holding [ov] (getMethod ov "__init__" pl)
      callWith p3 f first (backTo p3 (starEach [e] env)) [])) :
    FnOk P w K mg base CX (k + 1) fI fd ps sp := by
  refine ⟨len, fun A outer s H args us vs Q E hr e0 hb r hsp => ?_⟩
  obtain ⟨oc, od, an, osl, kV, doc, pm, ct, cda, cc, rfl, lk, hcd, ⟨ccl, cdd, fvs, ccs, file, tf, lkc, hvs, hfile⟩, cl, cld, csl, lcc⟩ := SF.fn
  have hl := len _ _ _ _ hsp
  have KX : K.In s.heap := e0.mod.kin.keeps fun b o e => (e0.bs b o e).1
  have lim : s.heap.NoLimit := e0.mod.nolimit.keeps fun b o e => (e0.bs b o e).1
  refine codeAny_call_function hr.depth (KX _ _ lk) rfl S.co S.gen rfl (PySem.W.codeRec_of KX hcd) (hb _ _ _ _ ?_)
  refine wpAny_newFunctionEnv S.nocell (fun ⟨n, _⟩ hy => S.par n (List.of_mem_zip hy).1) (fun h₁ hns hsb => ⟨lim.fresh _ hsb, ?_⟩) S.kind
  have kp : ∀ b o, s.heap.get? b = some o → h₁.get? b = some o := fun b o e => hsb.extBut b o (Nat.ne_of_lt (Heap.lt_size e)) (Heap.get?_push_of_some _ e)
  let F : NF := ⟨"__init__", qual, params, (.Expr (.Call (.Attribute (.Call (.Name "super" p0) [] [] p1) "__init__" p2) [e] [] p3) p4 :: rest), scope, [("__class__", cc)], cda⟩
  have hccH : H cc = none := (e0.bs cc _ (e0.mod.kin _ _ lcc)).2
  have cells : CellsAt F.cl ["__class__"] [none] s.heap H := by
    refine ⟨rfl, fun y c hy => ?_, fun x y c hx hy => ?_, fun i y hy => ?_⟩
    · by_cases q : y = "__class__"
      · subst q
        have : some cc = some c := hy
        cases this
        exact ⟨hccH, _, _, KX _ _ lcc, rfl⟩
      · have : (none : Option Addr) = some c := by
          have h2 : List.lookup y [(("__class__" : Str), cc)] = some c := hy
          rw [List.lookup_cons] at h2
          have q2 : (y == ("__class__" : Str)) = false := by simpa using q
          rw [q2] at h2
          exact h2
        cases this
    · have one : ∀ z, List.lookup z [(("__class__" : Str), cc)] = some c → z = "__class__" := fun z h2 => by
        by_cases q : z = "__class__"
        · exact q
        · rw [List.lookup_cons] at h2
          have q2 : (z == ("__class__" : Str)) = false := by simpa using q
          rw [q2] at h2
          cases h2
      rw [one x hx, one y hy]
    · match i, hy with
      | 0, hy =>
        cases hy
        exact ⟨cc, rfl, fun v hv => by cases hv⟩
  obtain ⟨x, ta, t, hv0, hx, ha, ht, hq⟩ := hbody F A outer s H vs Q E rfl rfl (hr.deeper _) hsp
  have I : Inv (ncx CX P w K mg base N F fI A outer s H E) [] (startF N vs [none]) H { s with heap := h₁, toks := s.toks + (ps.zip us).length } := inv_startN S hr.hd e0 hl r cells hns kp
  show codeAny _ _ (.func F.body (envF F fI s.heap.objs.size)) _ _
  have KX1 : K.In h₁ := KX.keeps kp
  have hkc : scope.names.lookup ("__class__" : Str) = some .free := S.frk _ (List.mem_cons_self ..)
  have hka : scope.names.lookup ar.arg = some .local := by
    refine S.par _ ?_
    have h1 : (ps ++ [("__class__" : Str)])[0]? = some ar.arg := by
      rw [← S.pre, List.getElem?_take_of_lt (by simp)]
      exact hN0
    rw [List.getElem?_append_left hps] at h1
    exact List.mem_of_getElem? h1
  obtain ⟨nm, qn, Nc, bs, bm, sn, sub, ab, col, dd, k0, k1, k2, k3, k5, hC, hbm⟩ := SF.oex.cls
  have hcl : PySem.W.clsIn K C = some { name := nm, bases := bs, mro := .ref C :: bm, ns := Nc, qualname := qn, hasDict := true, slotNames := sn, subclasses := sub, abstract := ab, collection := col, hasDel := false } := by unfold PySem.W.clsIn; rw [hC] <;> rfl
  obtain ⟨t1, hxo⟩ := exo_at I.hok hx
  have hxo : h₁.get? x = some ({ cls := .ref C, dict := none, data := .fields #[.ref t1, .none, .none, .none, .bool false, .none] } : Obj) := hxo
  have hxC : x ≠ C := fun q => by
    subst q
    have h2 := KX1 _ _ hC
    rw [hxo] at h2
    cases h2
  refine ks_codeAny_funcAt (ks_wpAt_execs_cons (ks_wpAt_mono (Q := fun f s' => f = .next ∧ ∃ H', Inv (ncx CX P w K mg base N F fI A outer s H E) [] (startF N vs [none]) H' s' ∧ t { nx := fun _ H' => Q .non H', rt := Q } (startF N vs [none]) H') ?first (fun f s' z => ?rest) (fun _ _ z => z)))
  case rest =>
    obtain ⟨hf, H', J, q⟩ := z
    subst hf
    refine wpAt_of_wpAny (wpAny_mono (ht.run [] s' _ H' _ J q) (fun fl s' hs => ?_) fun e s' hs => hs)
    have fin : ∀ {σ' : L2.St} {H' : Hp} {v : V} {u : Value}, Inv (ncx CX P w K mg base N F fI A outer s H E) [] σ' H' s' → L2.RelV v u → Q v H' → CE outer P w H s Q u s' :=
      fun {σ' H' v u} J rv q => ⟨v, H', J.os, J.bare, J.base, J.hok, rv, q⟩
    cases fl with
    | ret u =>
      obtain ⟨v, σ', H', J, rv, q⟩ := hs
      exact fin J rv q
    | next =>
      obtain ⟨σ', H', J, q⟩ := hs
      exact fin (v := V.non) (u := Value.none) J rfl q
    | brk =>
      obtain ⟨_, _, _, q⟩ := hs
      exact False.elim q
    | cont =>
      obtain ⟨_, _, _, q⟩ := hs
      exact False.elim q
  case first =>
    obtain ⟨pl, hev'⟩ := hev (envF F fI s.heap.objs.size)
    refine ks_wpAt_Expr_any (ks_wpAt_MethodCall (ks_wpAt_super_base (env := envF F fI s.heap.objs.size) hsl hkc rfl rfl (kp _ _ (KX _ _ lk)) rfl hp rfl (kp _ _ (KX _ _ lkc)) rfl hvs hfile SF.top ?_) hev') (by unfold interactive; rw [show (envF F fI s.heap.objs.size).scope.kind = .function from S.kind]; rfl) (hswap _)
    obtain ⟨mb, b1, b2⟩ := e0.mod.blt
    have kpb : ∀ b o, base.get? b = some o → h₁.get? b = some o := fun b o e => kp b o (e0.bs b o e).1
    have lsup : ∀ {QQ : Value → Shared → Prop} {EE : Value → Shared → Prop}, QQ (.type "super") { s with heap := h₁, toks := s.toks + (ps.zip us).length } → wpAny (model P w) (A.deeper (envF F fI s.heap.objs.size)) (loadGlobal (envF F fI s.heap.objs.size) "super") QQ EE { s with heap := h₁, toks := s.toks + (ps.zip us).length } := fun {QQ EE} q =>
      PySem.Calls.loadGlobal_builtin (env := envF F fI s.heap.objs.size) (e0.mod.glob.keeps kpb) (PySem.W.mg_none_of e0.mod.kin e0.mod.glob SF.sup) (b1.keeps kpb) ((b2 _ (by decide +kernel)).trans PyProof.Rows.Boot.«super») q
    refine PySem.W.ks_loadName_global (env := envF F fI s.heap.objs.size) S.kind hsl (lsup ⟨rfl, ?_⟩)
    refine wpAny_loadName_free (env := envF F fI s.heap.objs.size) S.kind hkc rfl (c := cc) ⟨_, KX1 _ _ lcc, rfl⟩ ?_
    obtain ⟨u0, us', rfl, hu0⟩ : ∃ u0 us', us = u0 :: us' ∧ u0 = Value.ref x := by
      cases r with
      | nil => cases hv0
      | @cons v0 u0 vs' us' r0 rr =>
        have : v0 = V.ref x := Option.some.inj hv0
        subst this
        exact ⟨_, _, rfl, r0⟩
    subst hu0
    have hself : (ps.zip (Value.ref x :: us')).reverse.lookup ar.arg = some (.ref x) := by
      have ndP : ps.Nodup := by
        have q := S.nd.sublist (List.take_sublist (ps.length + 1) N)
        have q2 : N.take (ps.length + 1) = ps ++ [("__class__" : Str)] := S.pre
        rw [q2] at q
        exact (List.nodup_append.mp q).1
      refine zip_look (i := 0) ndP ?_ rfl
      have h1 : (ps ++ [("__class__" : Str)])[0]? = some ar.arg := by
        rw [← S.pre, List.getElem?_take_of_lt (by simp)]
        exact hN0
      rw [List.getElem?_append_left hps] at h1
      exact h1
    refine wpAny_loadName_local (env := envF F fI s.heap.objs.size) S.kind hka hns hself ?_
    refine ks_wpAny_isType_cls (KX1 _ _ hC) rfl ⟨rfl, ?_⟩
    refine ks_wpAny_call_super (KX1 _ _ hC) rfl hxo rfl (fun c e => by cases e) (PySem.W.looks_mroIn KX1 SF.sub) (fun h2 e2 k2 => ?_)
    have KX2 : K.In h2 := KX1.keeps k2
    have hx2 := k2 _ _ hxo
    have hI : PySem.W.Looks (model P w) h2 (isInstance (.ref x) (.type "ValueError")) true := PySem.W.Looks.andThen ((PySem.W.Looks.ld hx2).andThen .now) (PySem.W.looks_subIn KX2 SF.vB)
    have hini : PySem.W.alongIn K "__init__" (((Value.ref C :: bm).dropWhile (· != .ref C)).drop 1) = some (some (.builtin VI)) := by
      have q := SF.ini
      unfold PySem.W.ks_superIn at q
      rw [hcl] at q
      exact q
    refine PySem.W.kxs_getMethod PySem.W.kxs_ValueError e2 (PySem.W.looks_opaque KX2 SF.opq) (l₀ := .ref C :: bm) (fun A Q E s k q => wpAny_bind ((PySem.W.looks_clsIn KX2 hcl) A _ E s k (wpAny_pure q))) rfl KX2 hini hI hxC rfl ?_
    have u2 : (h2.push (PySem.W.kxs_mw VI x)).get? h2.objs.size = some (PySem.W.kxs_mw VI x) := Heap.get?_push_at rfl rfl
    have k3' : ∀ b o, h₁.get? b = some o → (h2.push (PySem.W.kxs_mw VI x)).get? b = some o := fun b o e => Heap.get?_push_of_some _ (k2 _ _ e)
    have J0 := I.kept (t' := s.toks + (ps.zip (Value.ref x :: us')).length + 1) k3'
    have hu : h₁.objs.size ≤ h2.objs.size := Nat.le_of_lt (Heap.lt_size e2)
    have J1 : Inv (ncx CX P w K mg base N F fI A outer s H E) [(h2.objs.size, PySem.W.kxs_mw VI x)] (startF N vs [none]) H { s with heap := h2.push (PySem.W.kxs_mw VI x), toks := s.toks + (ps.zip (Value.ref x :: us')).length + 1 } :=
      J0.pins_of fun p hp => by
        rw [List.mem_singleton.mp hp]
        exact ⟨u2, I.hok.fresh hu, Nat.ne_of_gt (Nat.lt_of_lt_of_le I.lt hu), I.nofs hu, fun v q => by cases q⟩
    have hrun := ha.run p3 _ _ _ H _ J1 hq
    have hst : starEach [e] (ncx CX P w K mg base N F fI A outer s H E).env = (false, eval e (envF F fI s.heap.objs.size)) :: starEach [] (envF F fI s.heap.objs.size) := hstar _
    rw [hst] at hrun
    show wpAny _ _ (callWith p3 (Value.ref h2.objs.size) [] (backTo p3 (starEach [e] (envF F fI s.heap.objs.size))) []) _ _ _
    rw [hstar]
    refine PySem.W.kxs_callWith (i := VI) (x := x) rfl (PySem.Calls.evalArgs_plain (wpAny_mono hrun (fun ws s1 z => ?_) fun _ _ z => z))
    obtain ⟨wvs, H1, J2, r2, hw, hx1, hq1⟩ := z
    have hu1 : s1.heap.get? h2.objs.size = some (PySem.W.kxs_mw VI x) := (J2.pin (h2.objs.size, PySem.W.kxs_mw VI x) (List.mem_append_right _ (List.mem_singleton.mpr rfl))).1
    refine ⟨hu1, ?_⟩
    obtain ⟨t2, hxo2⟩ := exo_at J2.hok hx1
    have hC2 := J2.kIn _ _ hC
    have hwl : ws.length ≤ sizeLine := by
      rw [← r2.length, sizeLine_eq]
      omega
    obtain ⟨hp2, g2, d2, tk2, os2⟩ := s1
    refine wpAny_call (codeAny_of_tree ?_)
    show wpAny _ _ (callAny (.ref h2.objs.size) ⟨ws, []⟩) _ _ _
    simp only [callAny]
    refine wpAny_bind (wpAny_load hu1 ?_)
    simp only [PySem.W.kxs_mw, show (Value.type "method-wrapper" == Value.type "method" || Value.type "method-wrapper" == Value.type "builtin_function_or_method" || Value.type "method-wrapper" == Value.type "method-wrapper") = true by decide, if_true]
    refine PySem.W.KFB.if_so (by decide) ?_
    refine wpAny_bind (PySem.W.check_bound_init PySem.F.excBase_ValueError.toExcCallFacts hC2 hxo2 rfl ?_)
    refine wpAny_bind (wpAny_pure (wpAny_pure ?_))
    refine ⟨plainId_quiet PySem.F.excBase_ValueError.init.plain _, codeAny_builtin PySem.F.excBase_ValueError.initEntry ?_⟩
    refine PySem.W.exc_init_tree (cls := .ref C) (t0 := t2) (dv := none) (c2 := .none) (c3 := .none) (b4 := .bool false) hxo2 hwl (fun h3 k3 hx3 _ => ?_)
    have J3 := J2.write (t' := tk2) (x := x) (e := x) (o := exo x C none) (by rw [hx1]; exact True.intro) (.inl rfl) k3 ⟨_, hx3⟩ (exo_ok hx3)
    have eu : upd H1 x (exo x C none) = H1 := by
      funext b
      by_cases hb : b = x
      · rw [hb, upd_same, hx1]
      · rw [upd_ne hb]
    rw [eu] at J3
    exact ⟨trivial, H1, J3.pins_of (fun p hp => by cases hp), hq1⟩
end Hm
namespace Hm
open PySem PySem.Spec PyProof.Rows L2 NdefX
/-! ### making such an error, raising it, catching it -/
/-- C(), C's own __init__ keeping sp and setting no attribute -/
def tMk0 (C : Addr) (sp : Sp) : L2.St → Hp → XK → Prop := fun σ H Q => ∀ a, H a = none → sp [.ref a] (upd H a (exo a C none)) (fun v H2 => v = .non ∧ H2 a = some (exo a C none) ∧ Q (.ref C) none (del H2 a)) (fun _ _ _ => False)
section
variable {X : Cx}
theorem pmk_sup0 {CX : CXT} {x : Str} {C fI : Addr} {k : Nat} {fd : FuncData} {ps : List Str} {sp : Sp} {p pos : Pos} (T : OexC X.K C) (iC : PySem.W.findIn X.K (.ref C) "__init__" = some (some (.ref fI))) (tI : PySem.W.typeIn X.K (.ref fI) = some (.type "function"))
    (F1 : FnOk X.prog X.w X.K X.mg X.base CX k fI fd ps sp) (hr : Room (k + 1) X.A) (hb : Binds X.K fd ps []) (hx : Passes CX X (fun _ _ _ => False)) (hg : Gl X x) (hm : X.mg x = some (.ref C))
    (hdb : (x == ("__debug__" : Str)) = false := by decide) : L2.PMk X (.Call (.Name x p) [] [] pos) (tMk0 C sp) := by
  intro pins s σ H Q I h
  obtain ⟨nm, q, N, bs, bm, sn, sub, ab, col, dd, k0, k1, k2, k3, k5, hC, hbm⟩ := T.cls
  refine wpAny_Call_Name_kw (ld_glob I hg hm ?_ hdb)
  refine PySem.W.callWith_K0 I.kIn T.kC ?_
  obtain ⟨hp, g, dr, tk, os⟩ := s
  have hsz : hp.objs.size ≤ hp.objs.size + 1 := Nat.le_succ _
  have hn : H (hp.objs.size + 1) = none := I.hok.fresh hsz
  have hq := h (hp.objs.size + 1) hn
  have kk : ∀ b o, hp.get? b = some o → ((hp.push (PySem.W.kdv_tup [])).push (PySem.HandSPX.excO C hp.objs.size)).get? b = some o := fun b o e => Heap.get?_push_of_some _ (Heap.get?_push_of_some _ e)
  have hget : ((hp.push (PySem.W.kdv_tup [])).push (PySem.HandSPX.excO C hp.objs.size)).get? (hp.objs.size + 1) = some (PySem.HandSPX.excO C hp.objs.size) := by heap_get
  have I2 : Inv X pins σ (upd H (hp.objs.size + 1) (exo (hp.objs.size + 1) C none)) ⟨(hp.push (PySem.W.kdv_tup [])).push (PySem.HandSPX.excO C hp.objs.size), g, dr, tk, os⟩ :=
    I.laid (t' := tk) (a := hp.objs.size + 1) (o := exo (hp.objs.size + 1) C none) (h' := (hp.push (PySem.W.kdv_tup [])).push (PySem.HandSPX.excO C hp.objs.size)) kk hsz (exo_ok hget)
  have r2 : Vals [V.ref (hp.objs.size + 1)] [Value.ref (hp.objs.size + 1)] := .cons rfl .nil
  have hl : ([Value.ref (hp.objs.size + 1)] ++ []).length = ps.length := (F1.len _ _ _ _ hq)
  refine wpAny_call (PySem.HandSPX.call_own F.excBase_ValueError (fun Y => PySem.HandSPX.refsVE_contains Y bm hbm) (I.kIn _ _ hC) (PySem.W.looks_findIn I.kIn iC) (fun self => PySem.W.bind_fn I.kIn self tI) (by decide)
    (codeAny_mono (F1.run _ X.stack _ _ ⟨[Value.ref (hp.objs.size + 1)], []⟩ [Value.ref (hp.objs.size + 1)] _ _ (fun _ _ _ => False) (hr.make C [] []) (I2.env0.make C [] []) (by
      have b := hb ⟨(hp.push (PySem.W.kdv_tup [])).push (PySem.HandSPX.excO C hp.objs.size), g, dr, tk, os⟩ [Value.ref (hp.objs.size + 1)] I2.kIn hl
      simpa using b) r2 hq) fun r s' hq' => ?_))
  cases r with
  | error er => exact hx pins σ _ _ er s' I2 hq'
  | ok fl =>
    cases fl with
    | ret u =>
      obtain ⟨v, H2, os2, bare2, un2, hok2, rv, ev, ea, q2⟩ := hq'
      subst ev
      obtain ⟨h2, g2, d2, t2, os'⟩ := s'
      refine ⟨rv, ?_⟩
      obtain ⟨t0, hoe⟩ := exo_at hok2 ea
      obtain ⟨G, g1', g2'⟩ := restrict h2 fun b => decide (b ≠ hp.objs.size + 1)
      have gk : ∀ b, b ≠ hp.objs.size + 1 → G.get? b = h2.get? b := fun b hb => g1' b (decide_eq_true hb)
      have ge : G.get? (hp.objs.size + 1) = none := g2' _ (by simp)
      have nha : ∀ {b : Addr} {o : Obj}, hp.get? b = some o → b ≠ hp.objs.size + 1 := fun {b o} z => Nat.ne_of_lt (Nat.lt_succ_of_lt (Heap.lt_size z))
      have up : ∀ {b : Addr}, b ≠ hp.objs.size + 1 → H b = none → upd H (hp.objs.size + 1) (exo (hp.objs.size + 1) C none) b = none := fun {b} hb n => by rw [upd_ne hb]; exact n
      have U : Un (frs X.stack) [] H (del H2 (hp.objs.size + 1)) hp G := {
        keep := fun b o z n hf hx => by
          rw [gk b (nha z)]
          exact un2.keep b o (kk b o z) (up (nha z) n) hf hx
        slot := fun b o z n hf hx => by
          rw [gk b (nha z)]
          exact un2.slot b o (kk b o z) (up (nha z) n) hf hx
        free := fun b o z n hx => by
          rw [del_ne (nha z)]
          exact un2.free b o (kk b o z) (up (nha z) n) hx
        there := fun b o z hx => by
          rw [gk b (nha z)]
          exact un2.there b o (kk b o z) hx
        tups := fun b xs z => by
          rw [del_ne (ne_of_none z hn)]
          exact un2.tups b xs (by rw [upd_ne (ne_of_none z hn)]; exact z)
        frzs := fun b o v z => by
          rw [del_ne (ne_of_none z hn)]
          exact un2.frzs b o v (by rw [upd_ne (ne_of_none z hn)]; exact z)
        tbls := fun b ps z => by
          rw [del_ne (ne_of_none z hn)]
          exact un2.tbls b ps (by rw [upd_ne (ne_of_none z hn)]; exact z) }
      have hok3 : HOk X.prog X.w (del H2 (hp.objs.size + 1)) G := fun b o z => by
        have hba : b ≠ hp.objs.size + 1 := fun e => by
          rw [e, del_same] at z
          cases z
        rw [del_ne hba] at z
        have noa : ∀ {c : Addr}, H2 c = some (.own b) → c ≠ hp.objs.size + 1 := fun {c} hc => at_ne ea hc exo_own
        exact (hok2 b o z).stay (fun c v hc y => by
            have hca : c ≠ hp.objs.size + 1 := by
              rcases hc with hc | hc
              · rw [hc]
                exact hba
              · exact noa hc
            rw [gk c hca]
            exact y)
          (fun c hc => by rw [del_ne (noa hc)]; exact hc) (fun c xs hc => by rw [del_ne (at_ne ea hc exo_tup)]; exact hc)
      have J : Inv X pins σ (del H2 (hp.objs.size + 1)) ⟨G, g2, d2, t2, os'⟩ := I.call' (ch := []) os2 U hok3 bare2 (fun b z => absurd z (by simp))
      exact ⟨hp.objs.size + 1, _, _, ⟨G, g2, d2, t2, os'⟩, _, .ref C, none, rfl, J, fun b o z => by
        by_cases hba : b = hp.objs.size + 1
        · rw [hba, ge] at z
          cases z
        · exact (gk b hba).symm.trans z, ge, hoe, ⟨rfl, rfl⟩, rfl, rfl, del_same, rfl, bare2, raises_own T.exC T.tyC, q2⟩
    | next => exact False.elim hq'
    | brk => exact False.elim hq'
    | cont => exact False.elim hq'
/-- what a callee lets out is taken, at the slots as they stand -/
theorem passes_len {W : WX} (tk : L2.Takes X W) : Passes (L2.CX X.prog X.w) X (fun cls d H => ∀ σ, σ.length = X.N.length → W cls d σ H) := fun _ σ _ _ e s' I c => tk e s' (L2.XE.of_call I (fun _ _ _ h => h σ I.len) c)
end
end Hm
namespace Hm
open PySem PySem.Spec PyProof.Rows L2 NdefX
/-! ### further facts of the head: own errors, isinstance -/
/-- the address of a class's own __init__ -/
def iA (K : PySem.W.Frag) (x : Str) : Addr := He.ma K (He.ga K x) "__init__"
/-- an own error's __init__, as data -/
structure CloD where
  x : Str
  qual : Str
  params : Arguments
  body : List Stmt
  scope : Scope
abbrev CloV : Type := Option (Str × Str × Arguments × FuncBody × Scope × Addr × Addr)
def cloW (K : PySem.W.Frag) (x : Str) : CloV := match K.lookup (iA K x) with
  | some ⟨_, _, .func fd, _⟩ => some (fd.name, fd.qualname, fd.params, fd.body, fd.scope, fd.globals, fd.builtins)
  | _ => none
def CloD.val (d : CloD) : CloV := some ("__init__", d.qual, d.params, .stmts d.body, d.scope, mainGlobals, builtinsNs)
def cellB (K : PySem.W.Frag) (x : Str) (cl : List (Str × Addr)) : Bool := match cl with
  | [(nm, cc)] => decide (nm = "__class__") && (match K.lookup cc with
    | some ⟨_, _, .cell (some (.ref c)), _⟩ => decide (c = He.ga K x)
    | _ => false)
  | _ => false
def fileB (K : PySem.W.Frag) (file : Str) (cd : Value) : Bool := match cd with
  | .ref cda => (match K.lookup cda with
    | some ⟨_, _, .fields vs, _⟩ => (match (vs[2]? : Option Value) with
      | some (.str f _) => file == f
      | _ => false)
    | _ => false)
  | _ => false
def noneB (v : Value) : Bool := match v with
  | .none => true
  | _ => false
def supB (file : Str) (K : PySem.W.Frag) (x : Str) : Bool := match K.lookup (iA K x) with
  | some ⟨_, _, .func fd, _⟩ => cellB K x fd.closure && (noneB fd.defaults && (PySem.W.codeIn K fd.code fd.qualname && fileB K file fd.code))
  | _ => false
def oexB (K : PySem.W.Frag) (C : Addr) : Bool := match K.lookup C with
  | some ⟨.type "type", _, .cls cd, sl⟩ => (match cd.mro, sl.toList with
    | .ref C' :: bm, [_, _, _, _, some (.builtin n), _] => C' == C && n == "ValueError.__new__" && !cd.hasDel && cd.hasDict && PySem.HandSPX.refsVE bm
    | _, _ => false)
  | _ => false
inductive Tn where
  | own (x : Str)
  | ty (n : String)
def Tn.v (K : PySem.W.Frag) : Tn → Value
  | .own x => .ref (He.ga K x)
  | .ty n => .type n
inductive Fx where
  | sup (x : Str)
  | exc (x : Str)
  | kit (a b : Tn) (r : Bool)
  | sub (a : Tn) (x : Str) (r : Bool)
  | ins (x : Str)
  | exm (x y : Str) (b : Bool)
  | spc (x m : Str)
  | kits (xs : List Str)
  | kitTo (xs : List Str) (b : Tn)
def objClass : Value := .builtin "object.__class__"
def Fx.ok (file : Str) (K : PySem.W.Frag) : Fx → Bool
  | .sup x => supB file K x && (oexB K (He.ga K x) && (decide (PySem.W.mroIn K (He.ga K x) (.ref (He.ga K x)) = some true) && (He.eqO (PySem.W.nsIn K mainGlobals "super") (some none) && (He.eqO (PySem.W.nsIn K cStatics "thirdparty.any") (some none) &&
      (He.eqO (PySem.W.ks_superIn K (He.ga K x) (He.ga K x) "__init__") (some (some (.builtin VI))) && (decide (PySem.W.subIn K (.ref (He.ga K x)) (.type "ValueError") = some true) && (He.eqO (PySem.W.findIn K (.ref (He.ga K x)) "__setattr__") (some (some (.builtin "object.__setattr__"))) &&
      (decide (PySem.W.subIn K (.ref (He.ga K x)) (.type "BaseException") = some true) && (decide (PySem.W.typeIn K (.ref (He.ga K x)) = some (.type "type")) && (PySem.W.keepIn K (.ref (He.ga K x)) &&
      (He.eqO (PySem.W.findIn K (.ref (He.ga K x)) "__init__") (some (some (.ref (iA K x)))) && decide (PySem.W.typeIn K (.ref (iA K x)) = some (.type "function")))))))))))))
  | .exc x => He.eqO (PySem.W.findIn K (.ref (He.ga K x)) "__getattribute__") (some (some (.builtin "BaseException.__getattribute__"))) && (He.eqO (PySem.W.findIn K (.ref (He.ga K x)) "__getattr__") (some none) &&
      (decide (PySem.W.subIn K (.ref (He.ga K x)) (.type "BaseException") = some true) && (PySem.W.hasDictIn K (He.ga K x) && (He.eqO (PySem.W.findIn K (.ref (He.ga K x)) "__class__") (some (some objClass)) &&
      (He.eqO (PySem.W.specialIn K objClass "__get__") (some (some (.builtin "getset_descriptor.__get__"))) && (decide (PySem.W.takesIn K objClass = some true) && decide (PySem.W.mroIn K (He.ga K x) (.type "object") = some true)))))))
  | .kit a b r => decide (PySem.W.kitOne K (a.v K) (b.v K) = some r)
  | .sub a x r => decide (PySem.W.subIn K (a.v K) (.ref (He.ga K x)) = some r)
  | .ins x => He.eqO (PySem.W.findIn K (.ref (He.ga K x)) "__class__") (some (some objClass)) && (He.eqO (PySem.W.specialIn K objClass "__get__") (some (some (.builtin "getset_descriptor.__get__"))) && (decide (PySem.W.takesIn K objClass = some true) && decide (PySem.W.mroIn K (He.ga K x) (.type "object") = some true)))
  | .exm x y b => decide (PySem.W.exmOne K (.ref (He.ga K x)) (.ref (He.ga K y)) = some b)
  | .kits xs => xs.all fun x => xs.all fun y => decide (PySem.W.kitOne K (.ref (He.ga K x)) (.ref (He.ga K y)) = some (decide (x = y)))
  | .kitTo xs b => xs.all fun x => decide (PySem.W.kitOne K (.ref (He.ga K x)) (b.v K) = some true)
  | .spc x m => He.eqO (PySem.W.findIn K (.ref (He.ga K x)) m) (some (some (.ref (He.ma K (He.ga K x) m)))) && PySem.W.isFn K (.ref (He.ma K (He.ga K x) m))
section
variable {file : Str} {K : PySem.W.Frag} {x : Str}
theorem oexB_ok {C : Addr} (q : oexB K C = true) : ∃ nm q N bs bm sn sub ab col dd k0 k1 k2 k3 k5, K.lookup C = some (excClassObj nm q C N bs bm true sn sub ab col dd k0 k1 k2 k3 k5 "ValueError.__new__") ∧ PySem.HandSPX.refsVE bm = true := by
  unfold oexB at q
  split at q
  · rename_i dd cd sl ho
    split at q
    · rename_i C' bm k0 k1 k2 k3 n k5 hm hs
      simp only [Bool.and_eq_true, beq_iff_eq, Bool.not_eq_true'] at q
      obtain ⟨⟨⟨⟨rfl, rfl⟩, hdel⟩, hdct⟩, ht⟩ := q
      obtain ⟨nm, bs, mro, ns, qn, hd, sn, sub, ab, col, del⟩ := cd
      dsimp only at hm hdel hdct
      subst hm hdel hdct
      have hsl : sl = #[k0, k1, k2, k3, some (.builtin "ValueError.__new__"), k5] := by
        obtain ⟨l⟩ := sl
        simp only at hs
        rw [hs]
      subst hsl
      exact ⟨nm, qn, ns, bs, bm, sn, sub, ab, col, dd, k0, k1, k2, k3, k5, ho, ht⟩
    · cases q
  · cases q
/-- of an own error: its class, its __init__ -/
structure SupX (P : Program) (K : PySem.W.Frag) (d : CloD) (fd : FuncData) : Prop where
  F : SupF P K (He.ga K d.x) (iA K d.x) d.qual d.params d.body d.scope fd
  iC : PySem.W.findIn K (.ref (He.ga K d.x)) "__init__" = some (some (.ref (iA K d.x)))
  tI : PySem.W.typeIn K (.ref (iA K d.x)) = some (.type "function")
  fx : ∃ cl kV doc pm an cdv ct, fd = PySem.W.fnX "__init__" d.qual d.params d.body d.scope cl .none kV doc pm an cdv ct
theorem sup_of {P : Program} {d : CloD} (e : cloW K d.x = d.val) (h : (Fx.sup d.x).ok P.main.file K = true) (top : (P.main.scope.names.lookup ("super" : Str)).isSome = false) : ∃ fd, SupX P K d fd := by
  obtain ⟨h1, h⟩ := He.ba h
  obtain ⟨h2, h⟩ := He.ba h
  obtain ⟨h3, h⟩ := He.ba h
  obtain ⟨h4, h⟩ := He.ba h
  obtain ⟨h5, h⟩ := He.ba h
  obtain ⟨h6, h⟩ := He.ba h
  obtain ⟨h7, h⟩ := He.ba h
  obtain ⟨h8, h⟩ := He.ba h
  obtain ⟨h9, h⟩ := He.ba h
  obtain ⟨h10, h⟩ := He.ba h
  obtain ⟨h11, h⟩ := He.ba h
  obtain ⟨h12, h13⟩ := He.ba h
  unfold cloW at e
  unfold supB at h1
  cases q : K.lookup (iA K d.x) with
  | none =>
    rw [q] at h1
    cases h1
  | some o =>
    obtain ⟨oc, od, dt, osl⟩ := o
    rw [q] at h1 e
    cases dt with
    | func fd =>
      obtain ⟨n1, n2, n3, n4, n5, n6, n7, n8, n9, n10, n11, n12, n13, n14, n15⟩ := fd
      have e2 : (some (n1, n2, n3, n4, n5, n6, n15) : CloV) = some (("__init__" : Str), d.qual, d.params, FuncBody.stmts d.body, d.scope, mainGlobals, builtinsNs) := e
      simp only [Option.some.injEq, Prod.mk.injEq] at e2
      obtain ⟨g1, g2, g3, g4, g5, g6, g7⟩ := e2
      subst g1 g2 g3 g4 g5 g6 g7
      have c1 : (cellB K d.x n7 && (noneB n8 && (PySem.W.codeIn K n13 d.qual && fileB K P.main.file n13))) = true := h1
      obtain ⟨k1, c1⟩ := He.ba c1
      obtain ⟨k2, c1⟩ := He.ba c1
      obtain ⟨k3, k4⟩ := He.ba c1
      have z8 : n8 = .none := by
        unfold noneB at k2
        split at k2
        · rfl
        · cases k2
      subst z8
      unfold cellB at k1
      split at k1
      · rename_i nm cc
        obtain ⟨m1, m2⟩ := He.ba k1
        have m1 := of_decide_eq_true m1
        subst m1
        split at m2
        · rename_i ccl cld c csl hcc
          have m2 := of_decide_eq_true m2
          subst m2
          clear c1
          unfold fileB at k4
          cases n13 with
          | ref cda =>
            dsimp only at k4
            split at k4
            · rename_i xcl xdd vs xsl hcd
              split at k4
              · rename_i f tf hvs
                exact ⟨_, ⟨⟨oc, od, n12, osl, n9, n10, n11, n14, cda, cc, rfl, q, k3, ⟨xcl, xdd, vs, xsl, f, tf, hcd, hvs, k4⟩, ccl, cld, csl, hcc⟩, of_decide_eq_true h3, He.eqO_ok h4, He.eqO_ok h5, He.eqO_ok h6, of_decide_eq_true h7, top,
                  ⟨oexB_ok h2, He.eqO_ok h8, of_decide_eq_true h9, of_decide_eq_true h10, h11⟩⟩, He.eqO_ok h12, of_decide_eq_true h13, _, _, _, _, _, _, _, rfl⟩
              · cases k4
            · cases k4
          | _ => cases k4
        · cases m2
      · cases k1
    | _ => cases h1
theorem exc_of (h : (Fx.exc x).ok file K = true) : ExcC K (He.ga K x) := by
  obtain ⟨h1, h⟩ := He.ba h
  obtain ⟨h2, h⟩ := He.ba h
  obtain ⟨h3, h⟩ := He.ba h
  obtain ⟨h4, h⟩ := He.ba h
  obtain ⟨h5, h⟩ := He.ba h
  obtain ⟨h6, h⟩ := He.ba h
  obtain ⟨h7, h8⟩ := He.ba h
  exact ⟨He.eqO_ok h1, He.eqO_ok h2, of_decide_eq_true h3, h4, He.eqO_ok h5, He.eqO_ok h6, of_decide_eq_true h7, of_decide_eq_true h8⟩
theorem kit_ok {a b : Tn} {r : Bool} (h : (Fx.kit a b r).ok file K = true) : PySem.W.kitOne K (a.v K) (b.v K) = some r := of_decide_eq_true h
theorem sub_ok {a : Tn} {r : Bool} (h : (Fx.sub a x r).ok file K = true) : PySem.W.subIn K (a.v K) (.ref (He.ga K x)) = some r := of_decide_eq_true h
theorem exm_ok {y : Str} {b : Bool} (h : (Fx.exm x y b).ok file K = true) : PySem.W.exmOne K (.ref (He.ga K x)) (.ref (He.ga K y)) = some b := of_decide_eq_true h
/-- instances of the class answer isinstance -/
structure InsF (K : PySem.W.Frag) (C : Addr) : Prop where
  ha : PySem.W.findIn K (.ref C) "__class__" = some (some (.builtin "object.__class__"))
  hn : PySem.W.specialIn K (.builtin "object.__class__") "__get__" = some (some (.builtin "getset_descriptor.__get__"))
  ht : PySem.W.takesIn K (.builtin "object.__class__") = some true
  hm : PySem.W.mroIn K C (.type "object") = some true
theorem ins_of (h : (Fx.ins x).ok file K = true) : InsF K (He.ga K x) := by
  obtain ⟨h1, h⟩ := He.ba h
  obtain ⟨h2, h⟩ := He.ba h
  obtain ⟨h3, h4⟩ := He.ba h
  exact ⟨He.eqO_ok h1, He.eqO_ok h2, of_decide_eq_true h3, of_decide_eq_true h4⟩
theorem kits_of {xs : List Str} (h : (Fx.kits xs).ok file K = true) : ∀ x ∈ xs, ∀ y ∈ xs, PySem.W.kitOne K (.ref (He.ga K x)) (.ref (He.ga K y)) = some (decide (x = y)) := fun x hx y hy =>
  of_decide_eq_true (List.all_eq_true.mp (List.all_eq_true.mp h x hx) y hy)
theorem kitTo_of {xs : List Str} {b : Tn} (h : (Fx.kitTo xs b).ok file K = true) : ∀ x ∈ xs, PySem.W.kitOne K (.ref (He.ga K x)) (b.v K) = some true := fun x hx => of_decide_eq_true (List.all_eq_true.mp h x hx)
theorem spc_of {m : Str} (h : (Fx.spc x m).ok file K = true) : PySem.W.findIn K (.ref (He.ga K x)) m = some (some (.ref (He.ma K (He.ga K x) m))) ∧ PySem.W.isFn K (.ref (He.ma K (He.ga K x) m)) = true := by
  obtain ⟨h1, h2⟩ := He.ba h
  exact ⟨He.eqO_ok h1, h2⟩
end
/-! ### the Hook -/
abbrev AlS : Type := He.AlD × Bool × List CloV
def obsS (fa : List He.Fa) (fn : List He.DefD) (fx : List Fx) (cl : List CloD) (file : Str) (K : PySem.W.Frag) : AlS := (He.obsD fa fn K, fx.all fun f => f.ok file K, cl.map fun d => cloW K d.x)
def valS (fn : List He.DefD) (cl : List CloD) : AlS := (He.valD fn, true, cl.map CloD.val)
def SaysS (fa : List He.Fa) (fn : List He.DefD) (fx : List Fx) (cl : List CloD) (file : Str) (K : PySem.W.Frag) : Prop := obsS fa fn fx cl file K = valS fn cl
def partS (g : Addr → Option Obj) (n : Nat) : PySem.W.Frag := He.frG g (cStatics :: He.asD g n)
def obsSG (n : Nat) (fa : List He.Fa) (fn : List He.DefD) (fx : List Fx) (cl : List CloD) (file : Str) (g : Addr → Option Obj) : AlS := obsS fa fn fx cl file (partS g n)
def hookS (n : Nat) (fa : List He.Fa) (fn : List He.DefD) (fx : List Fx) (cl : List CloD) (file : Str) : PySem.W.Hook where
  α := AlS
  obs := fun s => obsSG n fa fn fx cl file s.heap.get?
  val := fun _ => valS fn cl
  says := fun _ h => ∃ K : PySem.W.Frag, K.In h ∧ SaysS fa fn fx cl file K
  of := fun _ _ e => ⟨_, He.frG_in, e⟩
  keeps := fun _ _ _ ⟨K, hK, c⟩ k => ⟨K, PySem.W.Frag.In.keeps hK k, c⟩
section
variable {fa : List He.Fa} {fn : List He.DefD} {fx : List Fx} {cl : List CloD} {file : Str} {K : PySem.W.Frag} {n : Nat}
theorem obsSG_eq {g : Addr → Option Obj} {s : Shared} (h : ∀ a, g a = s.heap.get? a) : obsSG n fa fn fx cl file g = (hookS n fa fn fx cl file).obs s := by
  have e : g = s.heap.get? := funext h
  rw [e] <;> rfl
theorem SaysS.d (c : SaysS fa fn fx cl file K) : He.SaysD fa fn K := congrArg (fun z : AlS => z.1) c
theorem SaysS.fact (c : SaysS fa fn fx cl file K) (i : Nat) {f : Fx} (h : fx[i]? = some f := by rfl) : f.ok file K = true :=
  List.all_eq_true.mp (congrArg (fun z : AlS => z.2.1) c : (fx.all fun f => f.ok file K) = true) f (List.mem_of_getElem? h)
theorem SaysS.clo (c : SaysS fa fn fx cl file K) (i : Nat) {d : CloD} (h : cl[i]? = some d := by rfl) : cloW K d.x = d.val := by
  have e : cl.map (fun d => cloW K d.x) = cl.map CloD.val := congrArg (fun z : AlS => z.2.2) c
  have e2 : (cl.map fun d => cloW K d.x)[i]? = (cl.map CloD.val)[i]? := by rw [e]
  rw [List.getElem?_map, List.getElem?_map, h] at e2
  exact Option.some.inj e2
end
end Hm
namespace PySem
namespace HmPX
open PySem.W PySem.Calls PyProof.Rows PySem.HandSPX
/-! ### own errors made with keywords -/
section
variable {M : Model} {A : Around} {E : Value → Shared → Prop} {h : Heap} {g : Array GenState} {d : Drawn} {t : Nat} {os : OsState}
variable {nm q : Str} {C N : Addr} {bs bm bmB : List Value} {hdct : Bool} {sn : List Str} {sub : List Value} {ab : Bool} {col : Option Bool} {dd : Option Addr} {k0 k1 k2 k3 k5 : Option Value} {B newId initId : String}
theorem check_new_kw (F : ExcBaseFacts B newId initId bmB) (hT : ∀ X : String, bm.contains (.type X) = bmB.contains (.type X)) {rest : List Value} {kw : List (Str × Value)} {Q : Unit → Shared → Prop}
    (hC : h.get? C = some (excClassObj nm q C N bs bm hdct sn sub ab col dd k0 k1 k2 k3 k5 newId)) (hq : Q () ⟨h, g, d, t, os⟩) : wpAny M A (checkBuiltinCall newId ⟨.ref C :: rest, kw⟩) Q E ⟨h, g, d, t, os⟩ := by
  have hcont : (Value.ref C :: bm).contains (.type B) = true := by rw [List.contains_cons, hT, F.hasB, Bool.or_true]
  have hstar := F.noStar
  simp only [checkBuiltinCall, F.newKind, F.newSplit, F.newRow]
  repeat (first | refine wpAny_loadPart_at hC ?_ | (refine wpAny_isSubtype_exc hC ?_; rw [hcont]) | refine wpAny_staticBase_exc hC ?_ | refine wpAny_madeBy_exc hC ?_ | simp only [bne_self_eq_false, Bool.false_eq_true, if_false] | wp_step)
  exact hq
end
section
variable {prog : Program} {w : World} {A : Around} {E : Value → Shared → Prop} {R : Result → Shared → Prop} {h : Heap} {g : Array GenState} {d : Drawn} {t : Nat} {os : OsState}
variable {nm q : Str} {C N : Addr} {bs bm bmB : List Value} {hdct : Bool} {sn : List Str} {sub : List Value} {ab : Bool} {col : Option Bool} {dd : Option Addr} {k0 k1 k2 k3 k5 : Option Value} {B newId initId : String}
theorem new_kw (F : ExcBaseFacts B newId initId bmB) (hT : ∀ X : String, bm.contains (.type X) = bmB.contains (.type X)) {rest : List Value} {kw : List (Str × Value)}
    (hC : h.get? C = some (excClassObj nm q C N bs bm hdct sn sub ab col dd k0 k1 k2 k3 k5 newId))
    (hq : R (.ok (.ret (.ref (h.objs.size + 1)))) ⟨(h.push { cls := .type "tuple", data := .seq rest.toArray }).push
      { cls := .ref C, data := .fields #[.ref h.objs.size, .none, .none, .none, .bool false, .none] }, g, d, t, os⟩) (hrest : rest.length ≤ sizeLine) :
    codeAny (model prog w) A (.builtin newId ⟨.ref C :: rest, kw⟩) R ⟨h, g, d, t, os⟩ := by
  have hends := F.ends
  have hcB : (Value.ref C :: bm).contains (.type B) = true := by rw [List.contains_cons, hT, F.hasB, Bool.or_true]
  have hcA : (Value.ref C :: bm).contains (.type "AttributeError") = false := by rw [List.contains_cons, hT, F.noAttr]; rfl
  have hcN : (Value.ref C :: bm).contains (.type "NameError") = false := by rw [List.contains_cons, hT, F.noName]; rfl
  refine codeAny_builtinAt F.entry ?_
  unfold Builtin.«BaseException.__new__»
  refine wpAt_bind ?_
  show wpAt _ _ _ (stack >>= _) _ _ _
  refine wpAt_bind (wpAt_stack fun p below => wpAt_of_wpAny ?_)
  wp_walk
  refine wpAt_of_wpAny ?_
  rw [F.owner]
  repeat (first | with_reducible refine wpAny_madeHere_exc F.canon hC ?_ | with_reducible refine wpAny_loadPart_at hC ?_ | (with_reducible refine wpAny_isSubtype_exc hC ?_; first | rw [hcB] | rw [hcA] | rw [hcN]) | wp_step)
  show R _ _
  rw [Heap.size_push]
  exact hq
theorem type_call_kw (F : ExcBaseFacts B newId initId bmB) (hT : ∀ X : String, bm.contains (.type X) = bmB.contains (.type X)) {rest : List Value} {kw : List (Str × Value)} {fI : Addr} {Q : Fin → Shared → Prop}
    (hC : h.get? C = some (excClassObj nm q C N bs bm hdct sn sub ab col dd k0 k1 k2 k3 k5 newId))
    (hi : W.Looks (model prog w) h (typeLookup (.ref C) "__init__") (some (.ref fI))) (hb : ∀ self, W.Looks (model prog w) h (bindSpecial (.ref fI) self) (.ref fI, [self])) (hrest : rest.length ≤ sizeLine)
    (hq : codeAny (model prog w) A (.call (.ref fI) ⟨.ref (h.objs.size + 1) :: rest, kw⟩)
      (fun r s' => match r with | .ok (.ret v) => v = .none ∧ Q (.done (.ret (.ref (h.objs.size + 1)))) s' | .ok _ => False | .error e => E e s')
      ⟨(h.push (W.kdv_tup rest)).push (excO C h.objs.size), g, d, t, os⟩) :
    wpAny (model prog w) A (Builtin.«type.__call__» ⟨.ref C :: rest, kw⟩) Q E ⟨h, g, d, t, os⟩ := by
  repeat (first | with_reducible refine wpAny_loadPart_at hC ?_ | with_reducible refine wpAny_madeBy_exc hC ?_ | wp_step)
  refine codeAny_call_builtin_code (Code.quiet_builtin _ F.quiet) (check_new_kw F hT hC ?_)
  refine new_kw F hT hC ?_ hrest
  show wpAny _ _ _ _ _ _
  have k : ∀ b o, h.get? b = some o → ((h.push (W.kdv_tup rest)).push (excO C h.objs.size)).get? b = some o := fun b o e => Heap.get?_push_of_some _ (Heap.get?_push_of_some _ e)
  have hC₁ := k _ _ hC
  have hget : ((h.push (W.kdv_tup rest)).push (excO C h.objs.size)).get? (h.objs.size + 1) = some (excO C h.objs.size) := by heap_get
  have hcC : (Value.ref C :: bm).contains (.ref C) = true := by simp
  have i1 := hi.keeps k
  have b1 := (hb (.ref (h.objs.size + 1))).keeps k
  unfold isInstance
  repeat (first | with_reducible refine wpAny_loadPart_at hget ?_ | (with_reducible refine wpAny_isSubtype_exc hC₁ ?_; rw [hcC]) | wp_step)
  show wpAny _ _ (typeLookup (.ref C) _) _ _ _
  refine i1.at ?_
  refine wpAny_holding (wpAny_bind (b1.at ?_))
  refine wpAny_bind (wpAny_call (codeAny_mono hq fun r s' z => ?_))
  rcases r with e | (v | _ | _ | _) <;> first | exact z | exact z.elim | skip
  obtain ⟨rfl, z⟩ := z
  first
    | exact wpAny_pure (wpAny_pure z)
    | (wp_walk; exact z)
theorem call_kw (F : ExcBaseFacts B newId initId bmB) (hT : ∀ X : String, bm.contains (.type X) = bmB.contains (.type X)) {rest : List Value} {kw : List (Str × Value)} {fI : Addr}
    (hC : h.get? C = some (excClassObj nm q C N bs bm hdct sn sub ab col dd k0 k1 k2 k3 k5 newId))
    (hi : W.Looks (model prog w) h (typeLookup (.ref C) "__init__") (some (.ref fI))) (hb : ∀ self, W.Looks (model prog w) h (bindSpecial (.ref fI) self) (.ref fI, [self])) (hrest : rest.length ≤ sizeLine)
    (hq : codeAny (model prog w) (A.under (.builtin "type.__call__" ⟨.ref C :: rest, kw⟩)) (.call (.ref fI) ⟨.ref (h.objs.size + 1) :: rest, kw⟩) (W.InitBack (h.objs.size + 1) R)
      ⟨(h.push (W.kdv_tup rest)).push (excO C h.objs.size), g, d, t, os⟩) :
    codeAny (model prog w) A (.call (.ref C) ⟨rest, kw⟩) R ⟨h, g, d, t, os⟩ := by
  have f1 := tc_lookup
  have f2 := tc_bind (.ref C)
  have hTy : (⟨h, g, d, t, os⟩ : Shared).TypeIs (.ref C) "type" := ⟨_, hC, rfl⟩
  refine codeAny_of_tree ?_
  show wpAny _ _ (callAny (.ref C) _) _ _ _
  repeat (any_goals (first | assumption | with_reducible refine wpAny_loadPart_at hC ?_ | wp_step))
  refine ⟨rfl, ?_⟩
  refine codeAny_call_builtin_at (Code.quiet_builtin _ (by decide +kernel)) entry_typeCall (wpAny_check_type_call_sub hC (type_call_kw F hT hC hi hb hrest ?_))
  refine codeAny_mono hq fun r s' z => ?_
  rcases r with e | (v | _ | _ | _) <;> exact z
end
/-! ### isinstance of an own error with a dict -/
section
variable {prog : Program} {w : World} {A : Around} {E : Value → Shared → Prop} {s : Shared} {K : Frag} {x D : Addr} {ox : Obj} {od : Option Obj}
theorem findObj_dataD {C : Addr} {name : Str} {a g : Value} (hc : (clsIn K C).isSome = true) (ha : findIn K (.ref C) name = some (some a)) (hg : specialIn K a "__get__" = some (some g)) (ht : takesIn K a = some true) : findObj K C od name = some (.bind g a) := by
  obtain ⟨cd, hc⟩ := Option.isSome_iff_exists.mp hc
  unfold findObj
  rw [hc, Option.bind_some, ha, Option.bind_some]
  simp [hg, ht]
theorem kin_classD {Q : Option Value → Shared → Prop} (hga : findIn K (.ref D) "__getattribute__" = some (some (.builtin "BaseException.__getattribute__"))) (hgt : findIn K (.ref D) "__getattr__" = some none) (hsub : subIn K (.ref D) (.type "BaseException") = some true)
    (hdct : hasDictIn K D = true) (ha : findIn K (.ref D) "__class__" = some (some (.builtin "object.__class__")))
    (hn : specialIn K (.builtin "object.__class__") "__get__" = some (some (.builtin "getset_descriptor.__get__"))) (htk : takesIn K (.builtin "object.__class__") = some true) (hm : mroIn K D (.type "object") = some true)
    (X : K.In s.heap) (I : InstAt s.heap x ox D od) (h : Q (some (.ref D)) { s with toks := s.toks + 1 }) : wpAny (model prog w) A (getAttr? (.ref x) "__class__") Q E s := by
  have hf : findObj K D od "__class__" = some (.bind (.builtin "getset_descriptor.__get__") (.builtin "object.__class__")) := findObj_dataD (by obtain ⟨cd, hc, _⟩ := any_some hdct; rw [hc]; rfl) ha hn htk
  obtain ⟨hp, g, d, t, os⟩ := s
  have L0 := I.type (M := model prog w)
  have L1 := looks_findIn (M := model prog w) X hga
  have L2 := looks_findIn (M := model prog w) X hgt
  have L3 := looks_find (M := model prog w) X I hf
  have sub : Looks (model prog w) hp (isInstance (.ref x) (.type "BaseException")) true := L0.andThen (looks_subIn X hsub)
  have hx0 : (false && onTheHeap (Value.builtin "BaseException.__getattribute__")) = false := rfl
  have hx2 : (Value.builtin "BaseException.__getattribute__" == Value.builtin "object.__getattribute__") = false := by decide +kernel
  have hx1 : (onTheHeap (Value.ref D) && Value.builtin "BaseException.__getattribute__" == Value.builtin "object.__getattribute__") = false := by rw [hx2]; rfl
  unfold getAttr? getAttrBy? getAttrBy
  refine wpAny_bind (wpAny_mkText (wpAny_bind (wpAny_attempt (wpAny_holding (wpAny_bind (L0.at (wpAny_bind (L1.at ?_))))))))
  show wpAny _ _ (if (onTheHeap (Value.ref D) && Value.builtin "BaseException.__getattribute__" == Value.builtin "object.__getattribute__") = true then _ else _) _ _ _
  rw [hx1, if_neg Bool.false_ne_true]
  unfold getAttrByItsOwn hookBefore
  refine wpAny_bind ?_
  rw [if_pos (show onTheHeap (Value.ref D) = true from rfl)]
  refine L2.at ?_
  refine wpAny_bind (wpAny_attempt (wpAny_holding ?_))
  unfold callGetattribute
  rw [hx0, if_neg Bool.false_ne_true]
  unfold boundAndCalled
  rw [PySem.F.excAttr_ValueError.ga.bind (.ref x)]
  refine wpAny_bind (wpAny_pure ?_)
  show wpAny _ _ (call (.builtin "BaseException.__getattribute__") [.ref x, .str "__class__" t]) _ _ _
  refine wpAny_call (codeAny_call_builtin PySem.F.excAttr_ValueError.ga.plain PySem.F.entry_bexc_ga ?_)
  refine @check_slot (model prog w) _ _ ⟨hp, g, d, t + 1, os⟩ "BaseException.__getattribute__" "BaseException" "__getattribute__" (.ref x) [.str "__class__" t] [] _ (by decide +kernel) (by decide +kernel) sub (PySem.F.args_bexc_ga (.ref x) (.str "__class__" t)) ?_
  unfold Builtin.«object.__getattribute__»
  refine wpAny_bind (wpAny_of_eq (a := ((Value.ref x : Value), [Value.str "__class__" t])) (by first | rfl | (simp only [slotArgs]; rfl)) ?_)
  refine wpAny_bind (wpAny_pure (wpAny_bind (L0.at (wpAny_bind (L3.at ?_)))))
  show wpAny _ _ (holding [Value.builtin "object.__class__"] (call (.builtin "getset_descriptor.__get__") [.builtin "object.__class__", .ref x, .ref D]) >>= ret) _ _ _
  refine wpAny_bind (wpAny_holding (wpAny_call (class_get (s := ⟨hp, g, d, t + 1, os⟩) (ox := ox) (od := od) X I hm ?_)))
  refine wpAny_pure ?_
  show wpAny _ _ (handedOut (.ref D)) _ _ _
  rw [handedOut_of (v := .ref D) rfl]
  first
    | exact wpAny_pure (wpAny_pure h)
    | exact wpAny_pure h
    | exact wpAny_pure (wpAny_bind (wpAny_pure (wpAny_pure h)))
theorem kitx_errD (hga : findIn K (.ref D) "__getattribute__" = some (some (.builtin "BaseException.__getattribute__"))) (hgt : findIn K (.ref D) "__getattr__" = some none) (hsub : subIn K (.ref D) (.type "BaseException") = some true) (hdct : hasDictIn K D = true) (ha : findIn K (.ref D) "__class__" = some (some (.builtin "object.__class__")))
    (hn : specialIn K (.builtin "object.__class__") "__get__" = some (some (.builtin "getset_descriptor.__get__"))) (htk : takesIn K (.builtin "object.__class__") = some true) (hm : mroIn K D (.type "object") = some true) :
    KitX K (.ref x) (.ref D) (fun h => InstAt h x ox D od) where
  ty := fun _ _ _ I => I.type
  it := fun _ _ X _ => by
    obtain ⟨cdD, hcD, _⟩ := any_some hdct
    unfold clsIn at hcD
    split at hcD
    · rename_i c' d' cd' sl' ho
      intro A' Q' E' s' k q
      unfold isType loadHead
      exact wpAny_bind (wpAny_loadPart (k _ _ (X _ _ ho)) (wpAny_pure q))
    · cases hcD
  ne := fun h tp dd its n sl X htp => by
    obtain ⟨cdD, hcD, _⟩ := any_some hdct
    refine Bool.eq_false_iff.mpr fun q => ?_
    have e : D = tp := Value.ref.inj (beq_iff_eq.mp q)
    subst e
    unfold clsIn at hcD
    split at hcD
    · rename_i c' d' cd' sl' ho
      have z := (X _ _ ho).symm.trans htp
      cases z
    · cases hcD
  ca := fun X I k => kin_classD hga hgt hsub hdct ha hn htk hm X I k
end
end HmPX
end PySem
namespace Hm
open PySem PySem.Spec PyProof.Rows L2 Evl NdefX
/-! ### errors as values -/
/-- at a an error of the class at C, not raised, with the attributes fs -/
def ErrAt (H : Hp) (a C : Addr) (fs : List (Str × V)) : Prop := (fs = [] ∧ H a = some (exo a C none)) ∨ ∃ d, H a = some (exo a C (some d)) ∧ H d = some (exd d fs)
theorem ErrAt.ex {H H' : Hp} {a C : Addr} {fs : List (Str × V)} (h : ErrAt H a C fs) (e : Ex H H') : ErrAt H' a C fs := by
  rcases h with ⟨h, q⟩ | ⟨d, q, r⟩
  · exact .inl ⟨h, e _ _ q⟩
  · exact .inr ⟨d, e _ _ q, e _ _ r⟩
/-- C(e, .., k = v, ..), an own error -/
def tMkE (C : Addr) (n m : Nat) (sp : Sp) (gV : List V → List V → List V) (t tk : TA) : TE := fun σ H Q => t σ H fun vs H1 => tk σ H1 fun zs H2 => vs.length = n ∧ zs.length = m ∧
  ∀ a, H2 a = none → sp (gV (.ref a :: vs) zs) (upd H2 a (exo a C none)) (fun v H3 => v = .non ∧ Q (.ref a) H3) (fun _ _ _ => False)
section
variable {X : Cx} {CX : CXT} {k n : Nat} {fI C : Addr} {fd : FuncData} {ps ks : List Str} {sp : Sp} {x : Str} {p pos : Pos} {e : Expr} {es : List Expr} {kws : List Keyword} {t tk : TA} {g : List Value → List Value → List Value} {gV : List V → List V → List V}
theorem run_mkE {pins : List (Addr × Obj)} {σ : L2.St} {H : Hp} {s : Shared} {Q : VK} {us ws : List Value} {vs zs : List V} (T : OexC X.K C) (iC : PySem.W.findIn X.K (.ref C) "__init__" = some (some (.ref fI))) (tI : PySem.W.typeIn X.K (.ref fI) = some (.type "function"))
    (F1 : FnOk X.prog X.w X.K X.mg X.base CX k fI fd ps sp) (hr : Room (k + 1) X.A) (hb : KBn X.K fd ps (n + 1) ks g gV) (hn : n ≤ 1000)
    (hx : Passes CX X (fun _ _ _ => False)) (I : Inv X pins σ H s) (r : Vals vs us) (rz : Vals zs ws) (l1 : vs.length = n) (l2 : zs.length = ks.length)
    (h : ∀ a, H a = none → sp (gV (.ref a :: vs) zs) (upd H a (exo a C none)) (fun v H2 => v = .non ∧ Q (.ref a) H2) (fun _ _ _ => False)) :
    wpAny (model X.prog X.w) X.A (call (.ref C) us (ks.zip ws)) (EP X pins σ Q) X.xe s := by
  obtain ⟨nm, q, N, bs, bm, sn, sub, ab, col, dd, k0, k1, k2, k3, k5, hC, hbm⟩ := T.cls
  obtain ⟨hp, gg, dr, tk, os⟩ := s
  have hsz : hp.objs.size ≤ hp.objs.size + 1 := Nat.le_succ _
  have hno : H (hp.objs.size + 1) = none := I.hok.fresh hsz
  have hq := h (hp.objs.size + 1) hno
  have kk : ∀ b o, hp.get? b = some o → ((hp.push (PySem.W.kdv_tup us)).push (PySem.HandSPX.excO C hp.objs.size)).get? b = some o := fun b o e => Heap.get?_push_of_some _ (Heap.get?_push_of_some _ e)
  have hget : ((hp.push (PySem.W.kdv_tup us)).push (PySem.HandSPX.excO C hp.objs.size)).get? (hp.objs.size + 1) = some (PySem.HandSPX.excO C hp.objs.size) := by heap_get
  have I2 : Inv X pins σ (upd H (hp.objs.size + 1) (exo (hp.objs.size + 1) C none)) ⟨(hp.push (PySem.W.kdv_tup us)).push (PySem.HandSPX.excO C hp.objs.size), gg, dr, tk, os⟩ :=
    I.laid (t' := tk) (a := hp.objs.size + 1) (o := exo (hp.objs.size + 1) C none) (h' := (hp.push (PySem.W.kdv_tup us)).push (PySem.HandSPX.excO C hp.objs.size)) kk hsz (exo_ok hget)
  have r1 : Vals (V.ref (hp.objs.size + 1) :: vs) (Value.ref (hp.objs.size + 1) :: us) := .cons rfl r
  have r2 := hb.rel r1 rz
  have e1 : (Value.ref (hp.objs.size + 1) :: us).length = n + 1 := r1.length.symm.trans (congrArg Nat.succ l1)
  have hus : us.length ≤ sizeLine := by
    rw [← Paired.length r, l1, sizeLine_eq]
    omega
  refine wpAny_call (PySem.HmPX.call_kw F.excBase_ValueError (fun Y => PySem.HandSPX.refsVE_contains Y bm hbm) (I.kIn _ _ hC) (PySem.W.looks_findIn I.kIn iC) (fun self => PySem.W.bind_fn I.kIn self tI) hus
    (codeAny_mono (F1.run _ X.stack _ _ ⟨Value.ref (hp.objs.size + 1) :: us, ks.zip ws⟩ (g (Value.ref (hp.objs.size + 1) :: us) ws) _ _ (fun _ _ _ => False) (hr.make C us (ks.zip ws)) (I2.env0.make C us (ks.zip ws)) (hb.to _ (Value.ref (hp.objs.size + 1) :: us) ws I2.kIn e1 (rz.length.symm.trans l2)) r2 hq) fun r s' hq' => ?_))
  cases r with
  | error er => exact hx pins σ _ _ er s' I2 hq'
  | ok fl =>
    cases fl with
    | ret u =>
      obtain ⟨v, H', I3, rv, ev, q3⟩ := I2.after hq'
      subst ev
      exact ⟨rv, ⟨V.ref (hp.objs.size + 1), H', I3, rfl, q3⟩⟩
    | next => exact False.elim hq'
    | brk => exact False.elim hq'
    | cont => exact False.elim hq'
/-- C() -/
theorem pe_mkE0 (T : OexC X.K C) (iC : PySem.W.findIn X.K (.ref C) "__init__" = some (some (.ref fI))) (tI : PySem.W.typeIn X.K (.ref fI) = some (.type "function"))
    (F1 : FnOk X.prog X.w X.K X.mg X.base CX k fI fd ps sp) (hr : Room (k + 1) X.A) (hg : Gl X x) (hm : X.mg x = some (.ref C)) (hb : KBn X.K fd ps 1 [] g gV) (hx : Passes CX X (fun _ _ _ => False))
    (hdb : (x == ("__debug__" : Str)) = false := by decide) : PE X (.Call (.Name x p) [] [] pos) (tMkE C 0 0 sp gV tNil tNil) := by
  refine ⟨fun pins s σ H Q I h => ?_⟩
  refine wpAny_Call_Name_kw (ld_glob I hg hm ?_ hdb)
  refine PySem.W.callWith_K0 I.kIn T.kC ?_
  obtain ⟨_, _, h⟩ := (show (0 : Nat) = 0 ∧ (0 : Nat) = 0 ∧ _ from h)
  exact run_mkE (us := []) (vs := []) (ws := []) (zs := []) (n := 0) (ks := []) T iC tI F1 hr hb (by decide) hx I .nil .nil rfl rfl h
/-- C(e, ..) -/
theorem pe_mkE (hn : n ≤ 1000) (T : OexC X.K C) (iC : PySem.W.findIn X.K (.ref C) "__init__" = some (some (.ref fI))) (tI : PySem.W.typeIn X.K (.ref fI) = some (.type "function"))
    (F1 : FnOk X.prog X.w X.K X.mg X.base CX k fI fd ps sp) (hr : Room (k + 1) X.A) (hg : Gl X x) (hm : X.mg x = some (.ref C)) (hb : KBn X.K fd ps (n + 1) [] g gV) (hx : Passes CX X (fun _ _ _ => False)) (ha : PA X (e :: es) t)
    (hdb : (x == ("__debug__" : Str)) = false := by decide) (he : starEach (e :: es) X.env = (false, eval e X.env) :: starEach es X.env := by rfl) (hpl : (backTo pos (starEach es X.env)).any (·.1) = false := by rfl) :
    PE X (.Call (.Name x p) (e :: es) [] pos) (tMkE C n 0 sp gV t tNil) := by
  refine ⟨fun pins s σ H Q I h => ?_⟩
  refine wpAny_Call_Name_kw (ld_glob I hg hm ?_ hdb)
  refine PySem.W.callWith_K (h₀ := X.base) I.ok.mod.kin T.kC (thn (ha.run pos pins s σ H _ I h) fun us s1 ⟨vs, H1, I1, r1, hz, _, q1⟩ => ⟨I1.kIn, ?_⟩) he hpl
  exact run_mkE (ws := []) (zs := []) (n := n) (ks := []) T iC tI F1 hr hb hn hx I1 r1 .nil hz rfl q1
/-- C(k = v, ..) -/
theorem pe_mkEK (T : OexC X.K C) (iC : PySem.W.findIn X.K (.ref C) "__init__" = some (some (.ref fI))) (tI : PySem.W.typeIn X.K (.ref fI) = some (.type "function"))
    (F1 : FnOk X.prog X.w X.K X.mg X.base CX k fI fd ps sp) (hr : Room (k + 1) X.A) (hg : Gl X x) (hm : X.mg x = some (.ref C)) (hb : KBn X.K fd ps 1 ks g gV) (hx : Passes CX X (fun _ _ _ => False)) (hkw : PK X kws tk)
    (hall : (backToKw pos (keywordEach kws X.env)).all (·.1.isSome) = true := by rfl) (hks : (backToKw pos (keywordEach kws X.env)).filterMap (·.1) = ks := by rfl) (hdb : (x == ("__debug__" : Str)) = false := by decide)
    (hpl : ((backTo pos (starEach [] X.env)).any (·.1) || (backToKw pos (keywordEach kws X.env)).any (·.1.isNone)) = false := by rfl) :
    PE X (.Call (.Name x p) [] kws pos) (tMkE C 0 ks.length sp gV tNil tk) := by
  refine ⟨fun pins s σ H Q I h => ?_⟩
  refine wpAny_Call_Name_kw (ld_glob I hg hm ?_ hdb)
  refine PySem.W.callWith_KW0 (h₀ := X.base) I.ok.mod.kin T.kC hall ?_ hpl
  refine thn (hkw.run pos pins s σ H _ I h) fun ws s2 ⟨zs, H2, I2, rz, l1, l2, q2⟩ => ⟨I2.kIn, ?_⟩
  rw [hks]
  exact run_mkE (us := []) (vs := []) (n := 0) T iC tI F1 hr hb (by decide) hx I2 .nil rz rfl l2 q2
end
/-- values by place, then keywords in the parameters' order turned about -/
abbrev gR {α : Type} (us ws : List α) : List α := us ++ ws.reverse
theorem vals_rev : ∀ {vs : List V} {us : List Value}, Vals vs us → Vals vs.reverse us.reverse
  | _, _, .nil => .nil
  | _, _, .cons h k => by
    rw [List.reverse_cons, List.reverse_cons]
    exact (vals_rev k).append (.cons h .nil)
theorem kbn_of {K : PySem.W.Frag} {fd : FuncData} {ps ks : List Str} {n : Nat} (h : ∀ us ws : List Value, us.length = n → ws.length = ks.length → bindArgs fd ⟨us, ks.zip ws⟩ = pure (ps.zip (gR us ws))) : KBn K fd ps n ks gR gR :=
  ⟨fun s us ws _ l1 l2 => BindsTo.of_looks fun M => .of_pure (h us ws l1 l2), fun r1 r2 => r1.append (vals_rev r2)⟩
/-! ### f-strings -/
def tFs (ts : List TE) : TE := fun σ H Q => tJs ts Str.empty σ H fun out H1 => Q (.str out) H1
inductive FsL (σ : L2.St) (H : Hp) : List TE → Prop where
  | nil : FsL σ H []
  | cons {t : TE} {ts : List TE} {y : Str} (h : Ev t σ H (.str y)) (l : y.length ≤ 2000) (r : FsL σ H ts) : FsL σ H (t :: ts)
theorem FsL.ex {σ : L2.St} {H H' : Hp} {ts : List TE} (h : FsL σ H ts) (e : Ex H H') : FsL σ H' ts := by
  induction h with
  | nil => exact .nil
  | cons h l r ih => exact .cons (fun H1 e1 => h H1 (e.trans e1)) l ih
theorem fs_run {σ : L2.St} {ts : List TE} : ∀ {H : Hp} {acc : Str}, FsL σ H ts → acc.length + 2000 * ts.length ≤ 50000 → ∃ out, ∀ H1, Ex H H1 → ∀ Q : Str → Hp → Prop, (∀ H2, Ex H1 H2 → Q out H2) → tJs ts acc σ H1 Q := by
  induction ts with
  | nil => exact fun {H acc} _ _ => ⟨acc, fun H1 _ Q q => q H1 (Ex.refl H1)⟩
  | cons t ts ih =>
    intro H acc h hl
    cases h with
    | @cons _ _ y h l r =>
      rw [List.length_cons] at hl
      have hy : (acc ++ y).length = acc.length + y.length := PySem.Str.length_append acc y
      obtain ⟨out, q⟩ := ih (acc := acc ++ y) r (by omega)
      exact ⟨out, fun H1 e1 Q k => h H1 e1 _ fun H2 e2 => ⟨y, rfl, by rw [hy, sizeLine_eq]; omega, q H2 (e1.trans e2) Q fun H3 e3 => k H3 (e2.trans e3)⟩⟩
theorem fs_ev {σ : L2.St} {H : Hp} {ts : List TE} (h : FsL σ H ts) (hl : ts.length ≤ 10) : ∃ out, Ev (tFs ts) σ H (.str out) := by
  obtain ⟨out, q⟩ := fs_run (acc := Str.empty) h (by show 0 + _ ≤ _; omega)
  exact ⟨out, fun H1 e1 Q k => q H1 e1 _ k⟩
theorem ev_fmtI {σ : L2.St} {H : Hp} {te : TE} {i : Int} (h : Ev te σ H (.int i)) (hi : i.natAbs.log2 < 1900) : Ev (tFmt te) σ H (.str (toString i)) := fun H1 e1 Q q => h H1 e1 _ fun H2 e2 => .inr ⟨i, rfl, by omega, q H2 e2⟩
theorem ev_fmtS {σ : L2.St} {H : Hp} {te : TE} {y : Str} (h : Ev te σ H (.str y)) (hy : y.length ≤ 2000) : Ev (tFmt te) σ H (.str y) := fun H1 e1 Q q => h H1 e1 _ fun H2 e2 => .inl ⟨y, rfl, by rw [sizeLine_eq]; omega, q H2 e2⟩
theorem int_len {i : Int} (hi : i.natAbs.log2 < 1900) : (Str.ofString (toString i)).length ≤ 2000 := by
  have e := int_text_length_le (k := 1900) (by decide) hi
  rw [PySem.ofString_length]; omega
/-- what is known of the object at such an error -/
theorem inst_err {X : Cx} {pins : List (Addr × Obj)} {σ : L2.St} {H : Hp} {s : Shared} {a C : Addr} {fs : List (Str × V)} (I : Inv X pins σ H s) (h : ErrAt H a C fs) : ∃ (ox : Obj) (od : Option Obj), PySem.W.InstAt s.heap a ox C od := by
  rcases h with ⟨_, q⟩ | ⟨d, q, r⟩
  · obtain ⟨t1, e⟩ := exo_at I.hok q
    exact ⟨_, none, ⟨e, rfl, rfl, True.intro⟩⟩
  · obtain ⟨t1, e⟩ := exo_at I.hok q
    obtain ⟨mA, ⟨o, es, ep, ho, _⟩, _⟩ := exd_at I.hok r
    exact ⟨_, some o, ⟨e, rfl, rfl, ho⟩⟩
/-- isinstance(e, c) -/
def rIsErr (K : PySem.W.Frag) : List V → Hp → VK → Prop := fun xs H Q => ∃ (a D : Addr) (fs : List (Str × V)) (c : V) (cv : Value) (b : Bool), xs = [.ref a, c] ∧ ErrAt H a D fs ∧ ExcC K D ∧ (∀ u, RelV c u → u = cv) ∧ PySem.W.kitOne K (.ref D) cv = some b ∧ Q (.bl b) H
theorem call_isErr {X : Cx} : CallR X (.builtin "isinstance") (rIsErr X.K) := by
  intro pins s σ H xs us Q I r h
  obtain ⟨a, D, fs, c, cv, b, rfl, ea, C, hcv, e, q⟩ := h
  cases r with
  | cons rx rr =>
    cases rr with
    | cons rt rr =>
      cases rr
      cases rx
      have ec := hcv _ rt
      subst ec
      obtain ⟨ox, od, J⟩ := inst_err I ea
      exact PySem.W.kia_one (PySem.HmPX.kitx_errD C.hg C.hk C.hs C.hd C.ha C.hn C.ht C.hm) I.kIn J e (fun z => nomatch z) fun tk => ⟨.bl b, H, I.kept (t' := tk) fun _ _ z => z, rfl, q⟩
/-- e.f of such an error -/
def tErF (K : PySem.W.Frag) (f : Str) (te : TE) : TE := fun σ H Q => te σ H fun x H1 => ∃ (a C : Addr) (fs : List (Str × V)) (v : V), x = .ref a ∧ ErrAt H1 a C fs ∧ ExcC K C ∧ PySem.W.findIn K (.ref C) f = some none ∧ fs.lookup f = some v ∧ Q v H1
theorem pe_erF {X : Cx} {e : Expr} {te : TE} {pos : Pos} {n : Str} (he : PE X e te) (hb : attributeBase e n X.env (eval e X.env) = eval e X.env := by rfl) : PE X (.Attribute e n pos) (tErF X.K n te) := by
  refine ⟨fun pins s σ H Q I h => ?_⟩
  refine attr_of hb (thn (he.run pins s σ H _ I h) fun u s1 hh => ?_)
  obtain ⟨x, H1, I1, rx, a, C, fs, v, ex, ea, T, hno, l, q⟩ := hh
  subst ex
  obtain rfl : u = Value.ref a := rx
  rcases ea with ⟨rfl, _⟩ | ⟨d, ea, ed⟩
  · cases l
  obtain ⟨t1, e1⟩ := exo_at I1.hok ea
  obtain ⟨mA, hns, hr⟩ := exd_at I1.hok ed
  obtain ⟨od, ho, hl⟩ := lookIn_ns hns
  obtain ⟨u, hu, ru⟩ := RelO.some_of (v := v) (o := mA n) (by rw [← l]; exact hr n)
  have J : PySem.W.InstAt s1.heap a _ C (some od) := ⟨e1, rfl, rfl, ho⟩
  exact HandSPX.exc_get I1.kIn J T.hg T.hk T.hs (PySem.W.findObj_own T.hd hno rfl (by rw [hl, hu])) (handed_of ru) ⟨v, H1, I1.tok _, ru, q⟩
end Hm
namespace Hm
open PySem PySem.Spec PyProof.Rows L2 Evl
/-! ### the program: the class Mesh -/
def mfs (l1 l2 l3 : Addr) : List (Str × V) := putF "_turns" (.ref l3) (putF "_prevs" (.ref l2) (putF "_nexts" (.ref l1) []))
theorem s12 : ¬ (("_nexts" : Str) = "_prevs") := by decide +kernel
theorem s13 : ¬ (("_nexts" : Str) = "_turns") := by decide +kernel
theorem s23 : ¬ (("_prevs" : Str) = "_turns") := by decide +kernel
theorem mfs_n (l1 l2 l3 : Addr) : (mfs l1 l2 l3).lookup ("_nexts" : Str) = some (.ref l1) := by
  unfold mfs
  rw [lookup_putF, if_neg s13, lookup_putF, if_neg s12, lookup_putF, if_pos rfl]
theorem mfs_p (l1 l2 l3 : Addr) : (mfs l1 l2 l3).lookup ("_prevs" : Str) = some (.ref l2) := by
  unfold mfs
  rw [lookup_putF, if_neg s23, lookup_putF, if_pos rfl]
theorem mfs_t (l1 l2 l3 : Addr) : (mfs l1 l2 l3).lookup ("_turns" : Str) = some (.ref l3) := by
  unfold mfs
  rw [lookup_putF, if_pos rfl]
theorem mfs_no {m : Str} (l1 l2 l3 : Addr) (h1 : ¬ m = "_nexts") (h2 : ¬ m = "_prevs") (h3 : ¬ m = "_turns") : (mfs l1 l2 l3).lookup m = none := by
  unfold mfs
  rw [lookup_putF, if_neg h3, lookup_putF, if_neg h2, lookup_putF, if_neg h1]
  rfl
theorem putF_len (f : Str) (v : V) : ∀ fs : List (Str × V), (putF f v fs).length ≤ fs.length + 1
  | [] => Nat.le_refl _
  | (g, x) :: r => by
    unfold putF
    split
    · exact Nat.le_succ _
    · have := putF_len f v r
      simp only [List.length_cons]
      omega
def MeshAt (K : PySem.W.Frag) (H : Hp) (x : Addr) (ns : List Nat) : Prop := ∃ dx l1 l2 l3 : Addr, H x = some (.ins (He.ga K "Mesh") dx (mfs l1 l2 l3)) ∧
  H l1 = some (.lst (L ns)) ∧ H l2 = some (.lst (L (prevs ns))) ∧ H l3 = some (.lst (L (turns ns)))
theorem MeshAt.ex {K : PySem.W.Frag} {H H' : Hp} {x : Addr} {ns : List Nat} (h : MeshAt K H x ns) (e : Ex H H') : MeshAt K H' x ns := by
  obtain ⟨dx, l1, l2, l3, a, b, c, d⟩ := h
  exact ⟨dx, l1, l2, l3, e _ _ a, e _ _ b, e _ _ c, e _ _ d⟩
/-- the same, its lists not tracked by H0 -/
def MeshN (K : PySem.W.Frag) (H0 H : Hp) (x : Addr) (ns : List Nat) : Prop := ∃ dx l1 l2 l3 : Addr, H x = some (.ins (He.ga K "Mesh") dx (mfs l1 l2 l3)) ∧
  H l1 = some (.lst (L ns)) ∧ H l2 = some (.lst (L (prevs ns))) ∧ H l3 = some (.lst (L (turns ns))) ∧ H0 l1 = none ∧ H0 l2 = none ∧ H0 l3 = none
theorem MeshN.at {K : PySem.W.Frag} {H0 H : Hp} {x : Addr} {ns : List Nat} (h : MeshN K H0 H x ns) : MeshAt K H x ns := by
  obtain ⟨dx, l1, l2, l3, a, b, c, d, _⟩ := h
  exact ⟨dx, l1, l2, l3, a, b, c, d⟩
theorem MeshN.ex {K : PySem.W.Frag} {H0 H H' : Hp} {x : Addr} {ns : List Nat} (h : MeshN K H0 H x ns) (e : Ex H H') : MeshN K H0 H' x ns := by
  obtain ⟨dx, l1, l2, l3, a, b, c, d, f⟩ := h
  exact ⟨dx, l1, l2, l3, e _ _ a, e _ _ b, e _ _ c, e _ _ d, f⟩
theorem MeshN.back {K : PySem.W.Frag} {H0 H1 H : Hp} {x : Addr} {ns : List Nat} (h : MeshN K H1 H x ns) (e : Ex H0 H1) : MeshN K H0 H x ns := by
  obtain ⟨dx, l1, l2, l3, a, b, c, d, f, g, i⟩ := h
  exact ⟨dx, l1, l2, l3, a, b, c, d, fresh_back e f, fresh_back e g, fresh_back e i⟩
theorem MeshN.upd {K : PySem.W.Frag} {H0 H : Hp} {x p : Addr} {ns : List Nat} {o u : HO} (h : MeshN K H0 H x ns) (hp : H0 p = some u) (hx : H0 x = none) : MeshN K H0 (upd H p o) x ns := by
  obtain ⟨dx, l1, l2, l3, a, b, c, d, f, g, i⟩ := h
  exact ⟨dx, l1, l2, l3, by rw [upd_ne (ne_of_none hp hx).symm]; exact a, by rw [upd_ne (ne_of_none hp f).symm]; exact b, by rw [upd_ne (ne_of_none hp g).symm]; exact c, by rw [upd_ne (ne_of_none hp i).symm]; exact d, f, g, i⟩
/-- a list of next halves of a mesh, of bearable length -/
structure MP (ns : List Nat) : Prop where
  p : IsP ns
  two : ns.length % 2 = 0
  len : ns.length ≤ 1000
theorem nat_xor_1 (n : Nat) : n ^^^ 1 = tw n := by
  have h1 : (n ^^^ 1) / 2 = n / 2 := by rw [Nat.xor_div_two]; simp
  have h2 := Nat.xor_mod_two_eq_one (a := n) (b := 1)
  unfold tw
  by_cases q : (n ^^^ 1) % 2 = 1
  · have := h2.mp q
    split <;> omega
  · have := fun w => q (h2.mpr w)
    split <;> omega
theorem xor_tw (n : Nat) : Builtin.bitXor (n : Int) 1 = ((tw n : Nat) : Int) := by
  rw [Bits.bitXor_pp (by omega) (by decide), ← nat_xor_1]
  rfl
theorem itr_congr {f g : Nat → Nat} {N : Nat} (P : Pf f N) (e : ∀ x, x < N → f x = g x) {x : Nat} (hx : x < N) (k : Nat) : itr f k x = itr g k x := by
  induction k with
  | zero => rfl
  | succ k ih =>
    show f (itr f k x) = g (itr g k x)
    rw [← ih]
    exact e _ (itr_lt P hx k)
theorem per_congr {f g : Nat → Nat} {N : Nat} (P : Pf f N) (e : ∀ x, x < N → f x = g x) {x : Nat} (hx : x < N) : per f N x = per g N x := by
  unfold per
  have : (fun k => itr f (k + 1) x == x) = fun k => itr g (k + 1) x == x := by
    funext k
    rw [itr_congr P e hx]
  rw [this]
theorem rnd_congr {f g : Nat → Nat} {N : Nat} (P : Pf f N) (e : ∀ x, x < N → f x = g x) {x : Nat} (hx : x < N) : rnd f N x = rnd g N x := by
  unfold rnd
  rw [per_congr P e hx]
  exact List.map_congr_left fun k _ => itr_congr P e hx k
theorem cycs_congr {f g : Nat → Nat} {N : Nat} (P : Pf f N) (e : ∀ x, x < N → f x = g x) : cycs f N N = cycs g N N := by
  unfold cycs
  have h1 : (List.range N).filter (isMin f N) = (List.range N).filter (isMin g N) := by
    refine List.filter_congr fun x hx => ?_
    unfold isMin
    rw [rnd_congr P e (List.mem_range.mp hx)]
  rw [h1]
  refine List.map_congr_left fun x hx => ?_
  exact rnd_congr P e (List.mem_range.mp (List.mem_filter.mp hx).1)
/-- the faces, the corners -/
def cyc (ns : List Nat) (b : Bool) : List (List Nat) := cycs (stp ns b) ns.length ns.length
theorem cyc_faces (ns : List Nat) : cycs (fn ns) ns.length ns.length = cyc ns true := rfl
theorem cyc_corners {ns : List Nat} (h : IsP ns) (h2 : ns.length % 2 = 0) : cycs (fn (turns ns)) (turns ns).length (turns ns).length = cyc ns false := by
  have h3 := pf_fn (isP_turns h h2)
  rw [turns_len] at h3 ⊢
  exact cycs_congr h3 fun x hx => fn_turns hx

def tRz (C : Addr) (sp : Sp) (E : XK) : TS := fun _ σ H => tMk0 C sp σ H E
def sp_NotAMeshinit (K : PySem.W.Frag) : Sp := fun vs H Q _ => ∃ x : Addr, vs = [.ref x] ∧ H x = some (exo x (He.ga K "NotAMesh") none) ∧ Q .non H
abbrev nm_NotAMeshinit : List Str := ["self", "__class__"]
abbrev pr_NotAMeshinit : List Str := ["self"]
theorem ln_NotAMeshinit {K : PySem.W.Frag} (vs : List V) (H : Hp) (Q : VK) (E : XK) (h : sp_NotAMeshinit K vs H Q E) : vs.length = pr_NotAMeshinit.length := by
  obtain ⟨_, rfl, _⟩ := h
  rfl
theorem del_upd {H : Hp} {a : Addr} {o : HO} (h : H a = none) : del (L2.upd H a o) a = H := by
  funext b
  by_cases q : b = a
  · rw [q, del_same, h]
  · rw [del_ne q, upd_ne q]
theorem rz_NotAMesh {K : PySem.W.Frag} {E : XK} {D : Ends} {σ : L2.St} {H : Hp} (k : E (.ref (He.ga K "NotAMesh")) none H) : tRz (He.ga K "NotAMesh") (sp_NotAMeshinit K) E D σ H := fun a ha =>
  ⟨a, rfl, upd_same, rfl, upd_same, by rw [del_upd ha]; exact k⟩
def sp_Meshinit (K : PySem.W.Frag) : Sp := fun vs H Q E => ∃ (x dx a : Addr) (xs : List V), vs = [.ref x, .ref a] ∧ H x = some (.ins (He.ga K "Mesh") dx []) ∧ SqL K H a xs ∧ xs.length ≤ 1000 ∧ (∀ v ∈ xs, IB v) ∧
  (∀ ns, xs = L ns → MP ns → ∀ H', MeshN K H H' x ns → ExO x H H' → Q .non H') ∧ (¬ Good xs → ∀ H', Ex H H' → E (.ref (He.ga K "NotAMesh")) none H')
abbrev nm_Meshinit : List Str := ["self", "nexts", "links", "half"]
abbrev pr_Meshinit : List Str := ["self", "nexts"]
def t_Meshinit (K : PySem.W.Frag) (E : XK) : TS :=
  (tSeq (tAsg (tCB (cList K) (tCons (tVar 1) tNil)) (gName 2))
  (tSeq (tIfS (tNot (tB (tCall (sp_areallhalves K) [] E0 (tCons (tVar 2) tNil)))) (tRz (He.ga K "NotAMesh") (sp_NotAMeshinit K) E) tNext)
  (tSeq (sFld K (tVar 0) (tVar 2) "_nexts")
  (tSeq (sFld K (tVar 0) (tCall (sp_inverse K) [] E0 (tCons (tVar 2) tNil)) "_prevs")
  (sFld K (tVar 0) (tLc (iList K (tFld K (tVar 0) "_prevs")) (gName 3) tYes (tOp zXor (tVar 3) (tC (.int 1))) [3]) "_turns")))))
abbrev Wt_Meshinit (K : PySem.W.Frag) (vs : List V) (H : Hp) (Q : VK) (E : XK) : Prop := t_Meshinit K E { nx := fun _ H' => Q .non H', rt := Q } (start nm_Meshinit vs) H
theorem ln_Meshinit {K : PySem.W.Frag} (vs : List V) (H : Hp) (Q : VK) (E : XK) (h : sp_Meshinit K vs H Q E) : vs.length = pr_Meshinit.length := by
  obtain ⟨_, _, _, _, rfl, _⟩ := h
  rfl
theorem good_L {ns : List Nat} (h : MP ns) : Good (L ns) := ⟨ns, rfl, h.p, h.two⟩
theorem ib_L (ns : List Nat) : ∀ x ∈ L ns, IB x := fun x hx => by
  obtain ⟨n, _, rfl⟩ := List.mem_map.mp hx
  exact .inl ⟨_, rfl⟩
theorem spv_ahT {K : PySem.W.Frag} {H : Hp} {a : Addr} {xs : List V} (hS : SqL K H a xs) (hl : xs.length ≤ 1000) (hI : ∀ v ∈ xs, IB v) (h : Good xs) : SpV (sp_areallhalves K) [.ref a] H (.bl true) := fun H1 e Q q E =>
  ⟨a, xs, rfl, ex_l e hS, by omega, hI, fun b H' hb ex => by
    rw [hb.mpr h]
    exact q H' ex⟩
theorem spv_ahF {K : PySem.W.Frag} {H : Hp} {a : Addr} {xs : List V} (hS : SqL K H a xs) (hl : xs.length ≤ 1000) (hI : ∀ v ∈ xs, IB v) (h : ¬ Good xs) : SpV (sp_areallhalves K) [.ref a] H (.bl false) := fun H1 e Q q E =>
  ⟨a, xs, rfl, ex_l e hS, by omega, hI, fun b H' hb ex => by
    have : b = false := by
      cases b with
      | false => rfl
      | true => exact absurd (hb.mp rfl) h
    rw [this]
    exact q H' ex⟩
theorem rd_Meshinit {K : PySem.W.Frag} (F : KF K) (vs : List V) (H : Hp) (Q : VK) (E : XK) (h : sp_Meshinit K vs H Q E) : Wt_Meshinit K vs H Q E := by
  obtain ⟨x, dx, a, xs, rfl, hx, hS, hxl, hI, kg, kb⟩ := h
  show t_Meshinit K E _ [some (.ref x), some (.ref a), none, none] H
  refine q_asgL (el_cb (ea_1 (ev_var rfl)) (rcl_list hS)) (fun l1 H1 hl1 e1 h1 => ?_)
  by_cases hg : Good xs
  case neg =>
    refine q_when (b := !false) (et_not (et_B (ev_call (ea_1 (ev_var rfl)) (spv_ahF (sq_of h1) hxl hI hg)))) (fun _ H2 e2 => rz_NotAMesh (kb hg H2 (e1.trans e2))) (fun hb => nomatch hb)
  obtain ⟨ns, rfl, hP, h2⟩ := id hg
  have hM : MP ns := ⟨hP, h2, by rw [L_len] at hxl; exact hxl⟩
  have k := kg ns rfl hM
  have hxl1 : l1 ≠ x := (ne_of_none hx hl1).symm
  refine q_when (b := !true) (et_not (et_B (ev_call (ea_1 (ev_var rfl)) (spv_ahT (sq_of h1) hxl hI hg)))) (fun hb => nomatch hb) (fun _ H2 e2 => ?_)
  refine q_fld (C := He.ga K "Mesh") (dx := dx) (fs := []) (ev_var rfl) (ev_var rfl) (e2 _ _ (e1 _ _ hx)) F.cl F.n1 (by decide) (fun H3 e3 => ?_)
  have c3 : (upd H3 x (.ins (He.ga K "Mesh") dx (putF "_nexts" (.ref l1) []))) l1 = some (.lst (L ns)) := by
    rw [upd_ne hxl1]
    exact e3 _ _ (e2 _ _ h1)
  refine q_fldL (el_call (ea_1 (ev_var rfl)) (spl_inverse (sq_of c3) hM.p hM.len)) (ev_var rfl) upd_same F.cl F.n2 (by have := putF_len "_nexts" (.ref l1) []; simp only [List.length_nil] at this; omega) (fun l2 H4 hl2 e4 h4 => ?_)
  have hxl2 : l2 ≠ x := (ne_of_none upd_same hl2).symm
  have hl12 : l1 ≠ l2 := ne_of_none c3 hl2
  have d1 : (upd H4 x (.ins (He.ga K "Mesh") dx (putF "_prevs" (.ref l2) (putF "_nexts" (.ref l1) [])))) l1 = some (.lst (L ns)) := by
    rw [upd_ne hxl1]
    exact e4 _ _ c3
  have d2 : (upd H4 x (.ins (He.ga K "Mesh") dx (putF "_prevs" (.ref l2) (putF "_nexts" (.ref l1) [])))) l2 = some (.lst (L (prevs ns))) := by
    rw [upd_ne hxl2]
    exact h4
  have hlk : (putF "_prevs" (V.ref l2) (putF "_nexts" (V.ref l1) [])).lookup ("_prevs" : Str) = some (.ref l2) := by
    rw [lookup_putF, if_pos rfl]
  have hcomp : EvL (tLc (iList K (tFld K (tVar 0) "_prevs")) (gName 3) tYes (tOp zXor (tVar 3) (tC (.int 1))) [3]) [some (.ref x), some (.ref a), some (.ref l1), none] (upd H4 x (.ins (He.ga K "Mesh") dx (putF "_prevs" (.ref l2) (putF "_nexts" (.ref l1) [])))) (L (turns ns)) := by
    have := el_lcL (K := K) (σ := [some (.ref x), some (.ref a), some (.ref l1), none]) (H := upd H4 x (.ins (He.ga K "Mesh") dx (putF "_prevs" (.ref l2) (putF "_nexts" (.ref l1) [])))) (j := 3) (vs := [3]) (tl := tFld K (tVar 0) "_prevs") (t := tYes) (te := tOp zXor (tVar 3) (tC (.int 1))) (fun _ => true) (fun i => vi (fn (turns ns) i))
      (ev_fld (ev_var rfl) upd_same F.cl F.n2 hlk) (sq_of d2) (by rw [L_len, prevs_len]; have := hM.len; omega) (fun _ => rfl) (fun i y H1 _ _ => et_yes) (fun i y H1 _ hy _ => by
        obtain ⟨q1, rfl⟩ := L_item hy
        rw [prevs_len] at q1
        refine ev_is (ev_op (ev_var rfl) ev_c rv_I0) ?_
        show V.int (Builtin.bitXor (fn (prevs ns) i : Int) 1) = _
        rw [xor_tw, fn_prevs q1, fn_turns q1])
    rw [given_all] at this
    have e : (List.range (L (prevs ns)).length).map (fun i => vi (fn (turns ns) i)) = L (turns ns) := by
      refine List.ext_getElem? fun j => ?_
      rw [L_len, prevs_len]
      by_cases hj : j < ns.length
      · rw [List.getElem?_map, List.getElem?_range hj, L_get (by rw [turns_len]; exact hj)]
        rfl
      · rw [List.getElem?_eq_none (by rw [List.length_map, List.length_range]; omega), List.getElem?_eq_none (by rw [L_len, turns_len]; omega)]
    rw [e] at this
    exact this
  refine s_fldL hcomp (ev_var rfl) upd_same F.cl F.n3 (by have := putF_len "_nexts" (.ref l1) []; have := putF_len "_prevs" (.ref l2) (putF "_nexts" (.ref l1) []); simp only [List.length_nil] at *; omega) (fun l3 H5 hl3 e5 h5 => ?_)
  have hxl3 : l3 ≠ x := (ne_of_none upd_same hl3).symm
  have bkx : ∀ {l : Addr} {H' : Hp}, ExO x H H' → l ≠ x → H' l = none → H l = none := fun {l H'} e n q => by
    cases w : H l with
    | none => rfl
    | some o =>
      rw [e l o n w] at q
      cases q
  refine k _ ⟨dx, l1, l2, l3, upd_same, ?_, ?_, ?_, hl1, bkx (ExO.of (e1.trans (e2.trans e3))).upd hxl2 hl2, bkx (((ExO.of (e1.trans (e2.trans e3))).upd).trans (ExO.of e4)).upd hxl3 hl3⟩ ?_
  · rw [upd_ne hxl1]
    exact e5 _ _ d1
  · rw [upd_ne hxl2]
    exact e5 _ _ d2
  · rw [upd_ne hxl3]
    exact h5
  · exact ((((ExO.of (e1.trans (e2.trans e3))).upd).trans (ExO.of e4)).upd.trans (ExO.of e5)).upd
section
variable {K : PySem.W.Frag} {σ : L2.St} {H : Hp} {ta tb te : TE} {D : Ends} {tz : TS}
/-- i = Mesh(l) -/
theorem q_mesh {i : Nat} {a : Addr} {ns : List Nat} {E : XK} (h : Ev te σ H (.ref a)) (hS : SqL K H a (L ns)) (hM : MP ns) (k : ∀ x H1, H x = none → MeshN K H H1 x ns → Ex H H1 → tz D (σ.set i (some (.ref x))) H1) :
    tSeq (tAsg (tMake (He.ga K "Mesh") (sp_Meshinit K) [] E (tCons te tNil)) (gName i)) tz D σ H :=
  h H (Ex.refl H) _ fun H1 e1 => fun x dx hx hdx hne => by
    have hx0 := fresh_back e1 hx
    have ex : Ex H1 (upd (upd H1 dx (.own x)) x (.ins (He.ga K "Mesh") dx [])) := fun b o q => by
      rw [upd_ne (ne_of_none q hx), upd_ne (ne_of_none q hdx)]
      exact q
    refine ⟨x, dx, a, L ns, rfl, upd_same, ex_l (e1.trans ex) hS, by rw [L_len]; exact hM.len, ib_L ns, fun ms hms _ H2 m x2 => ⟨rfl, ?_⟩, fun hn => absurd (good_L hM) hn⟩
    obtain rfl := L_inj hms
    refine k x H2 hx0 (m.back (e1.trans ex)) fun b o q => ?_
    have hb : b ≠ x := ne_of_none q hx0
    exact x2 b o hb (ex b o (e1 b o q))
end
def sp_Meshafter (K : PySem.W.Frag) : Sp := fun vs H Q _ => ∃ (x : Addr) (ns : List Nat) (h : Nat), vs = [.ref x, vi h] ∧ MeshAt K H x ns ∧ h < ns.length ∧ ∀ H', Ex H H' → Q (vi (fn ns h)) H'
abbrev nm_Meshafter : List Str := ["self", "half"]
abbrev pr_Meshafter : List Str := ["self", "half"]
def t_Meshafter (K : PySem.W.Frag) : TS :=
  (tRet (tOp (rIxL K) (tFld K (tVar 0) "_nexts") (tVar 1)))
abbrev Wt_Meshafter (K : PySem.W.Frag) (vs : List V) (H : Hp) (Q : VK) : Prop := t_Meshafter K { nx := fun _ H' => Q .non H', rt := Q } (start nm_Meshafter vs) H
theorem ln_Meshafter {K : PySem.W.Frag} (vs : List V) (H : Hp) (Q : VK) (E : XK) (h : sp_Meshafter K vs H Q E) : vs.length = pr_Meshafter.length := by
  obtain ⟨_, _, _, rfl, _⟩ := h
  rfl
theorem rd_Meshafter {K : PySem.W.Frag} (F : KF K) (vs : List V) (H : Hp) (Q : VK) (E : XK) (h : sp_Meshafter K vs H Q E) : Wt_Meshafter K vs H Q := by
  obtain ⟨x, ns, h, rfl, ⟨dx, l1, l2, l3, a, b, c, d⟩, hh, k⟩ := h
  show t_Meshafter K _ [some (.ref x), some (vi h)] H
  exact s_ret (ev_op (ev_fld (ev_var rfl) a F.cl F.n1 (mfs_n _ _ _)) (ev_var rfl) (rv_ixL (sq_of b) (L_at hh))) (fun H1 e1 => k H1 e1)
def sp_Meshbefore (K : PySem.W.Frag) : Sp := fun vs H Q _ => ∃ (x : Addr) (ns : List Nat) (h : Nat), vs = [.ref x, vi h] ∧ MeshAt K H x ns ∧ h < ns.length ∧ ∀ H', Ex H H' → Q (vi (bk ns h)) H'
abbrev nm_Meshbefore : List Str := ["self", "half"]
abbrev pr_Meshbefore : List Str := ["self", "half"]
def t_Meshbefore (K : PySem.W.Frag) : TS :=
  (tRet (tOp (rIxL K) (tFld K (tVar 0) "_prevs") (tVar 1)))
abbrev Wt_Meshbefore (K : PySem.W.Frag) (vs : List V) (H : Hp) (Q : VK) : Prop := t_Meshbefore K { nx := fun _ H' => Q .non H', rt := Q } (start nm_Meshbefore vs) H
theorem ln_Meshbefore {K : PySem.W.Frag} (vs : List V) (H : Hp) (Q : VK) (E : XK) (h : sp_Meshbefore K vs H Q E) : vs.length = pr_Meshbefore.length := by
  obtain ⟨_, _, _, rfl, _⟩ := h
  rfl
theorem rd_Meshbefore {K : PySem.W.Frag} (F : KF K) (vs : List V) (H : Hp) (Q : VK) (E : XK) (h : sp_Meshbefore K vs H Q E) : Wt_Meshbefore K vs H Q := by
  obtain ⟨x, ns, h, rfl, ⟨dx, l1, l2, l3, a, b, c, d⟩, hh, k⟩ := h
  show t_Meshbefore K _ [some (.ref x), some (vi h)] H
  refine s_ret (ev_op (ev_fld (ev_var rfl) a F.cl F.n2 (mfs_p _ _ _)) (ev_var rfl) (rv_ixL (sq_of c) (L_at (by rw [prevs_len]; exact hh)))) (fun H1 e1 => ?_)
  show Q (vi (fn (prevs ns) h)) H1
  rw [fn_prevs hh]
  exact k H1 e1
def sp_Meshtwin (K : PySem.W.Frag) : Sp := fun vs H Q _ => ∃ (x : V) (h : Nat), vs = [x, vi h] ∧ ∀ H', Ex H H' → Q (vi (tw h)) H'
abbrev nm_Meshtwin : List Str := ["self", "half"]
abbrev pr_Meshtwin : List Str := ["self", "half"]
def t_Meshtwin (K : PySem.W.Frag) : TS :=
  (tRet (tOp zXor (tVar 1) (tC (.int 1))))
abbrev Wt_Meshtwin (K : PySem.W.Frag) (vs : List V) (H : Hp) (Q : VK) : Prop := t_Meshtwin K { nx := fun _ H' => Q .non H', rt := Q } (start nm_Meshtwin vs) H
theorem ln_Meshtwin {K : PySem.W.Frag} (vs : List V) (H : Hp) (Q : VK) (E : XK) (h : sp_Meshtwin K vs H Q E) : vs.length = pr_Meshtwin.length := by
  obtain ⟨_, _, rfl, _⟩ := h
  rfl
theorem rd_Meshtwin {K : PySem.W.Frag} (F : KF K) (vs : List V) (H : Hp) (Q : VK) (E : XK) (h : sp_Meshtwin K vs H Q E) : Wt_Meshtwin K vs H Q := by
  obtain ⟨x, h, rfl, k⟩ := h
  show t_Meshtwin K _ [some x, some (vi h)] H
  exact s_ret (v := vi (tw h)) (ev_is (ev_op (ev_var rfl) ev_c rv_I0) (by show V.int (Builtin.bitXor (h : Int) 1) = _; rw [xor_tw])) (fun H1 e1 => k H1 e1)
def sp_Meshturned (K : PySem.W.Frag) : Sp := fun vs H Q _ => ∃ (x : Addr) (ns : List Nat) (h : Nat), vs = [.ref x, vi h] ∧ MeshAt K H x ns ∧ h < ns.length ∧ ∀ H', Ex H H' → Q (vi (tw (bk ns h))) H'
abbrev nm_Meshturned : List Str := ["self", "half"]
abbrev pr_Meshturned : List Str := ["self", "half"]
def t_Meshturned (K : PySem.W.Frag) : TS :=
  (tRet (tOp (rIxL K) (tFld K (tVar 0) "_turns") (tVar 1)))
abbrev Wt_Meshturned (K : PySem.W.Frag) (vs : List V) (H : Hp) (Q : VK) : Prop := t_Meshturned K { nx := fun _ H' => Q .non H', rt := Q } (start nm_Meshturned vs) H
theorem ln_Meshturned {K : PySem.W.Frag} (vs : List V) (H : Hp) (Q : VK) (E : XK) (h : sp_Meshturned K vs H Q E) : vs.length = pr_Meshturned.length := by
  obtain ⟨_, _, _, rfl, _⟩ := h
  rfl
theorem rd_Meshturned {K : PySem.W.Frag} (F : KF K) (vs : List V) (H : Hp) (Q : VK) (E : XK) (h : sp_Meshturned K vs H Q E) : Wt_Meshturned K vs H Q := by
  obtain ⟨x, ns, h, rfl, ⟨dx, l1, l2, l3, a, b, c, d⟩, hh, k⟩ := h
  show t_Meshturned K _ [some (.ref x), some (vi h)] H
  refine s_ret (ev_op (ev_fld (ev_var rfl) a F.cl F.n3 (mfs_t _ _ _)) (ev_var rfl) (rv_ixL (sq_of d) (L_at (by rw [turns_len]; exact hh)))) (fun H1 e1 => ?_)
  show Q (vi (fn (turns ns) h)) H1
  rw [fn_turns hh]
  exact k H1 e1
def sp_Meshnexts (K : PySem.W.Frag) : Sp := fun vs H Q _ => ∃ (x : Addr) (ns : List Nat), vs = [.ref x] ∧ MeshAt K H x ns ∧ ∀ p H', H p = none → Ex H H' → H' p = some (.lst (L ns)) → Q (.ref p) H'
abbrev nm_Meshnexts : List Str := ["self"]
abbrev pr_Meshnexts : List Str := ["self"]
def t_Meshnexts (K : PySem.W.Frag) : TS :=
  (tRet (tCB (cList K) (tCons (tFld K (tVar 0) "_nexts") tNil)))
abbrev Wt_Meshnexts (K : PySem.W.Frag) (vs : List V) (H : Hp) (Q : VK) : Prop := t_Meshnexts K { nx := fun _ H' => Q .non H', rt := Q } (start nm_Meshnexts vs) H
theorem ln_Meshnexts {K : PySem.W.Frag} (vs : List V) (H : Hp) (Q : VK) (E : XK) (h : sp_Meshnexts K vs H Q E) : vs.length = pr_Meshnexts.length := by
  obtain ⟨_, _, rfl, _⟩ := h
  rfl
theorem rd_Meshnexts {K : PySem.W.Frag} (F : KF K) (vs : List V) (H : Hp) (Q : VK) (E : XK) (h : sp_Meshnexts K vs H Q E) : Wt_Meshnexts K vs H Q := by
  obtain ⟨x, ns, rfl, ⟨dx, l1, l2, l3, a, b, c, d⟩, k⟩ := h
  show t_Meshnexts K _ [some (.ref x)] H
  exact s_retL (el_cb (ea_1 (ev_fld (ev_var rfl) a F.cl F.n1 (mfs_n _ _ _))) (rcl_list (sq_of b))) (fun p H1 hp e1 h1 => k p H1 hp e1 h1)
theorem spl_Meshnexts {K : PySem.W.Frag} {H : Hp} {x : Addr} {ns : List Nat} (h : MeshAt K H x ns) : SpL (sp_Meshnexts K) [.ref x] H (L ns) := fun H1 e Q q E => ⟨x, ns, rfl, h.ex e, fun p H' hp ex hq => q p H' hp ex hq⟩
theorem spv_Meshafter {K : PySem.W.Frag} {H : Hp} {x : Addr} {ns : List Nat} {h : Nat} (m : MeshAt K H x ns) (hh : h < ns.length) : SpV (sp_Meshafter K) [.ref x, vi h] H (vi (fn ns h)) := fun H1 e Q q E => ⟨x, ns, h, rfl, m.ex e, hh, q⟩
theorem spv_Meshbefore {K : PySem.W.Frag} {H : Hp} {x : Addr} {ns : List Nat} {h : Nat} (m : MeshAt K H x ns) (hh : h < ns.length) : SpV (sp_Meshbefore K) [.ref x, vi h] H (vi (bk ns h)) := fun H1 e Q q E => ⟨x, ns, h, rfl, m.ex e, hh, q⟩
theorem spv_Meshtwin {K : PySem.W.Frag} {H : Hp} {x : V} {h : Nat} : SpV (sp_Meshtwin K) [x, vi h] H (vi (tw h)) := fun H1 e Q q E => ⟨x, h, rfl, q⟩
theorem spv_Meshturned {K : PySem.W.Frag} {H : Hp} {x : Addr} {ns : List Nat} {h : Nat} (m : MeshAt K H x ns) (hh : h < ns.length) : SpV (sp_Meshturned K) [.ref x, vi h] H (vi (tw (bk ns h))) := fun H1 e Q q E => ⟨x, ns, h, rfl, m.ex e, hh, q⟩
def sp_Meshfaces (K : PySem.W.Frag) : Sp := fun vs H Q _ => ∃ (x : Addr) (ns : List Nat), vs = [.ref x] ∧ MeshAt K H x ns ∧ MP ns ∧ ∀ p H', H p = none → Ex H H' → LLn H H' p (cyc ns true) → Q (.ref p) H'
abbrev nm_Meshfaces : List Str := ["self"]
abbrev pr_Meshfaces : List Str := ["self"]
def t_Meshfaces (K : PySem.W.Frag) : TS :=
  (tRet (tCall (sp_rounds K) [] E0 (tCons (tFld K (tVar 0) "_nexts") tNil)))
abbrev Wt_Meshfaces (K : PySem.W.Frag) (vs : List V) (H : Hp) (Q : VK) : Prop := t_Meshfaces K { nx := fun _ H' => Q .non H', rt := Q } (start nm_Meshfaces vs) H
theorem ln_Meshfaces {K : PySem.W.Frag} (vs : List V) (H : Hp) (Q : VK) (E : XK) (h : sp_Meshfaces K vs H Q E) : vs.length = pr_Meshfaces.length := by
  obtain ⟨_, _, rfl, _⟩ := h
  rfl
theorem LLn.of {H0 H1 H : Hp} {p : Addr} {xss : List (List Nat)} (h : LLn H1 H p xss) (e : Ex H0 H1) : LLn H0 H p xss := by
  obtain ⟨as, h1, h2, h3⟩ := h
  exact ⟨as, h1, h2, fun a ha => ⟨fresh_back e (h3 a ha).1, (h3 a ha).2⟩⟩
theorem rd_Meshfaces {K : PySem.W.Frag} (F : KF K) (vs : List V) (H : Hp) (Q : VK) (E : XK) (h : sp_Meshfaces K vs H Q E) : Wt_Meshfaces K vs H Q := by
  obtain ⟨x, ns, rfl, ⟨dx, l1, l2, l3, a, b, c, d⟩, hM, k⟩ := h
  show t_Meshfaces K _ [some (.ref x)] H
  refine s_retC (ea_1 (ev_fld (ev_var rfl) a F.cl F.n1 (mfs_n _ _ _))) (fun H1 e1 => ?_)
  exact ⟨l1, ns, rfl, sq_of (e1 _ _ b), hM.p, hM.len, fun p H' hp ex hq => k p H' (fresh_back e1 hp) (e1.trans ex) (hq.of e1)⟩
def sp_Meshcorners (K : PySem.W.Frag) : Sp := fun vs H Q _ => ∃ (x : Addr) (ns : List Nat), vs = [.ref x] ∧ MeshAt K H x ns ∧ MP ns ∧ ∀ p H', H p = none → Ex H H' → LLn H H' p (cyc ns false) → Q (.ref p) H'
abbrev nm_Meshcorners : List Str := ["self"]
abbrev pr_Meshcorners : List Str := ["self"]
def t_Meshcorners (K : PySem.W.Frag) : TS :=
  (tRet (tCall (sp_rounds K) [] E0 (tCons (tFld K (tVar 0) "_turns") tNil)))
abbrev Wt_Meshcorners (K : PySem.W.Frag) (vs : List V) (H : Hp) (Q : VK) : Prop := t_Meshcorners K { nx := fun _ H' => Q .non H', rt := Q } (start nm_Meshcorners vs) H
theorem ln_Meshcorners {K : PySem.W.Frag} (vs : List V) (H : Hp) (Q : VK) (E : XK) (h : sp_Meshcorners K vs H Q E) : vs.length = pr_Meshcorners.length := by
  obtain ⟨_, _, rfl, _⟩ := h
  rfl
theorem rd_Meshcorners {K : PySem.W.Frag} (F : KF K) (vs : List V) (H : Hp) (Q : VK) (E : XK) (h : sp_Meshcorners K vs H Q E) : Wt_Meshcorners K vs H Q := by
  obtain ⟨x, ns, rfl, ⟨dx, l1, l2, l3, a, b, c, d⟩, hM, k⟩ := h
  show t_Meshcorners K _ [some (.ref x)] H
  refine s_retC (ea_1 (ev_fld (ev_var rfl) a F.cl F.n3 (mfs_t _ _ _))) (fun H1 e1 => ?_)
  refine ⟨l3, turns ns, rfl, sq_of (e1 _ _ d), isP_turns hM.p hM.two, by rw [turns_len]; exact hM.len, fun p H' hp ex hq => k p H' (fresh_back e1 hp) (e1.trans ex) ?_⟩
  rw [cyc_corners hM.p hM.two] at hq
  exact hq.of e1
end Hm
namespace Hm
open PySem PySem.Spec PyProof.Rows L2 Evl
/-! ### the program: ==, len, in of a mesh -/
/-- what the written part says of isinstance for meshes, lists and integers -/
structure KQ (K : PySem.W.Frag) : Prop where
  kf : KF K
  ins : InsF K (He.ga K "Mesh")
  kl : PySem.W.kitOne K (.type "list") (.ref (He.ga K "Mesh")) = some false
  ki : PySem.W.kitOne K (.type "int") (.ref (He.ga K "Mesh")) = some false
  sl : PySem.W.subIn K (.type "list") (.ref (He.ga K "Mesh")) = some false
  si : PySem.W.subIn K (.type "int") (.ref (He.ga K "Mesh")) = some false
theorem kit_refl {K : PySem.W.Frag} {v : Value} : PySem.W.kitOne K v v = some true := by
  unfold PySem.W.kitOne
  rw [if_pos (beq_self_eq_true v)]
inductive EqTo (K : PySem.W.Frag) (H : Hp) (ns : List Nat) : V → Bool → Prop where
  | mesh {z : Addr} {ms : List Nat} (m : MeshAt K H z ms) : EqTo K H ns (.ref z) (decide (ns = ms))
  | lst {p : Addr} {xs : List V} (h : H p = some (.lst xs)) : EqTo K H ns (.ref p) false
  | int (i : Int) : EqTo K H ns (.int i) false
theorem EqTo.ex {K : PySem.W.Frag} {H H' : Hp} {ns : List Nat} {y : V} {b : Bool} (h : EqTo K H ns y b) (e : Ex H H') : EqTo K H' ns y b := by
  cases h with
  | mesh m => exact .mesh (m.ex e)
  | lst h => exact .lst (e _ _ h)
  | int i => exact .int i
theorem EqTo.rgt {K : PySem.W.Frag} {H : Hp} {ns : List Nat} {y : V} {b : Bool} (h : EqTo K H ns y b) (F : KQ K) : Rgt K (He.ga K "Mesh") H y := by
  cases h with
  | mesh m =>
    obtain ⟨dx, l1, l2, l3, a, _⟩ := m
    exact .ins a
  | lst h => exact .lst h F.sl
  | int i => exact .int i F.si
def sp_Mesheq (K : PySem.W.Frag) : Sp := fun vs H Q _ => ∃ (x : Addr) (ns : List Nat) (y : V) (b : Bool), vs = [.ref x, y] ∧ MeshAt K H x ns ∧ EqTo K H ns y b ∧ ∀ H', Ex H H' → Q (.bl b) H'
abbrev nm_Mesheq : List Str := ["self", "other"]
abbrev pr_Mesheq : List Str := ["self", "other"]
def t_Mesheq (K : PySem.W.Frag) : TS :=
  (tRet (tAndV (tCB (rIsi K) (tCons (tVar 1) (tCons (tC (.ref (He.ga K "Mesh"))) tNil))) (tOp (rEqD K) (tFld K (tVar 0) "_nexts") (tFld K (tVar 1) "_nexts"))))
abbrev Wt_Mesheq (K : PySem.W.Frag) (vs : List V) (H : Hp) (Q : VK) : Prop := t_Mesheq K { nx := fun _ H' => Q .non H', rt := Q } (start nm_Mesheq vs) H
theorem ln_Mesheq {K : PySem.W.Frag} (vs : List V) (H : Hp) (Q : VK) (E : XK) (h : sp_Mesheq K vs H Q E) : vs.length = pr_Mesheq.length := by
  obtain ⟨_, _, _, _, rfl, _⟩ := h
  rfl
theorem ty_mesh {K : PySem.W.Frag} {H : Hp} {x : Addr} {ns : List Nat} (F : KQ K) (m : MeshAt K H x ns) : TyX K H (.ref x) (.ref (He.ga K "Mesh")) := by
  obtain ⟨dx, l1, l2, l3, a, _⟩ := m
  exact .base (.ins a F.kf.cl F.ins.ha F.ins.hn F.ins.ht F.ins.hm)
theorem rd_Mesheq {K : PySem.W.Frag} (F : KQ K) (vs : List V) (H : Hp) (Q : VK) (E : XK) (h : sp_Mesheq K vs H Q E) : Wt_Mesheq K vs H Q := by
  obtain ⟨x, ns, y, b, rfl, m, he, k⟩ := h
  obtain ⟨dx, l1, l2, l3, a1, b1, c1, d1⟩ := id m
  show t_Mesheq K _ [some (.ref x), some y] H
  cases he with
  | mesh m2 =>
    obtain ⟨dx2, k1, k2, k3, a2, b2, c2, d2⟩ := id m2
    refine s_ret (ev_andV (a := true) (ev_cb (ea_2 (ev_var rfl) ev_c) (rc_isi (.own _) (fun H1 e => ty_mesh F (m2.ex e)) kit_refl)) (fun _ => ev_op (ev_fld (ev_var rfl) a1 F.kf.cl F.kf.n1 (mfs_n _ _ _)) (ev_fld (ev_var rfl) a2 F.kf.cl F.kf.n1 (mfs_n _ _ _)) (rv_eqN (sq_of b1) (sq_of b2)))) (fun H1 e1 => ?_)
    rw [Bool.true_and]
    exact k H1 e1
  | lst h => exact s_ret (ev_andV (a := false) (b := false) (ev_cb (ea_2 (ev_var rfl) ev_c) (rc_isi (.own _) (fun H1 e => .base (.lst (e _ _ h))) F.kl)) (fun hb => nomatch hb)) (fun H1 e1 => k H1 e1)
  | int i => exact s_ret (ev_andV (a := false) (b := false) (ev_cb (ea_2 (ev_var rfl) ev_c) (rc_isi (.own _) (fun H1 e => .base (.int i)) F.ki)) (fun hb => nomatch hb)) (fun H1 e1 => k H1 e1)
def sp_Meshlen (K : PySem.W.Frag) : Sp := fun vs H Q _ => ∃ (x : Addr) (ns : List Nat), vs = [.ref x] ∧ MeshAt K H x ns ∧ ∀ H', Ex H H' → Q (.int (ns.length : Int)) H'
abbrev nm_Meshlen : List Str := ["self"]
abbrev pr_Meshlen : List Str := ["self"]
def t_Meshlen (K : PySem.W.Frag) : TS :=
  (tRet (tCB (cLen K) (tCons (tFld K (tVar 0) "_nexts") tNil)))
abbrev Wt_Meshlen (K : PySem.W.Frag) (vs : List V) (H : Hp) (Q : VK) : Prop := t_Meshlen K { nx := fun _ H' => Q .non H', rt := Q } (start nm_Meshlen vs) H
theorem ln_Meshlen {K : PySem.W.Frag} (vs : List V) (H : Hp) (Q : VK) (E : XK) (h : sp_Meshlen K vs H Q E) : vs.length = pr_Meshlen.length := by
  obtain ⟨_, _, rfl, _⟩ := h
  rfl
theorem rd_Meshlen {K : PySem.W.Frag} (F : KF K) (vs : List V) (H : Hp) (Q : VK) (E : XK) (h : sp_Meshlen K vs H Q E) : Wt_Meshlen K vs H Q := by
  obtain ⟨x, ns, rfl, ⟨dx, l1, l2, l3, a, b, c, d⟩, k⟩ := h
  show t_Meshlen K _ [some (.ref x)] H
  exact s_ret (ev_is (ev_cb (ea_1 (ev_fld (ev_var rfl) a F.cl F.n1 (mfs_n _ _ _))) (rc_len (sq_of b))) (by rw [L_len])) (fun H1 e1 => k H1 e1)
def sp_Meshcontains (K : PySem.W.Frag) : Sp := fun vs H Q _ => ∃ (x : Addr) (ns : List Nat) (i : Int), vs = [.ref x, .int i] ∧ MeshAt K H x ns ∧ ∀ H', Ex H H' → Q (.bl (decide (0 ≤ i) && decide (i < (ns.length : Int)))) H'
abbrev nm_Meshcontains : List Str := ["self", "half"]
abbrev pr_Meshcontains : List Str := ["self", "half"]
def t_Meshcontains (K : PySem.W.Frag) : TS :=
  (tRet (tAndV (tCall (sp_isinteger K) [] E0 (tCons (tVar 1) tNil)) (tChain zLe zLt (tC (.int 0)) (tVar 1) (tCB (cLen K) (tCons (tFld K (tVar 0) "_nexts") tNil)))))
abbrev Wt_Meshcontains (K : PySem.W.Frag) (vs : List V) (H : Hp) (Q : VK) : Prop := t_Meshcontains K { nx := fun _ H' => Q .non H', rt := Q } (start nm_Meshcontains vs) H
theorem ln_Meshcontains {K : PySem.W.Frag} (vs : List V) (H : Hp) (Q : VK) (E : XK) (h : sp_Meshcontains K vs H Q E) : vs.length = pr_Meshcontains.length := by
  obtain ⟨_, _, _, rfl, _⟩ := h
  rfl
theorem rd_Meshcontains {K : PySem.W.Frag} (F : KF K) (vs : List V) (H : Hp) (Q : VK) (E : XK) (h : sp_Meshcontains K vs H Q E) : Wt_Meshcontains K vs H Q := by
  obtain ⟨x, ns, i, rfl, ⟨dx, l1, l2, l3, a, b, c, d⟩, k⟩ := h
  show t_Meshcontains K _ [some (.ref x), some (.int i)] H
  refine s_ret (v := .bl (true && (decide (0 ≤ i) && decide (i < (ns.length : Int))))) (ev_andV (ev_call (ea_1 (ev_var rfl)) (spv_isinteger (.inl ⟨i, rfl⟩))) (fun _ => ev_chain ev_c (ev_var rfl) rv_I0 (fun _ => ev_is (ev_cb (ea_1 (ev_fld (ev_var rfl) a F.cl F.n1 (mfs_n _ _ _))) (rc_len (sq_of b))) (by rw [L_len])) (fun _ => rv_I0))) (fun H1 e1 => k H1 e1)
section
variable {K : PySem.W.Frag} {H : Hp} {x : Addr} {ns : List Nat}
theorem rc_ownLen (m : MeshAt K H x ns) (hl : ns.length ≤ 1000) : RC (rOwnLen (He.ga K "Mesh") (sp_Meshlen K) E0) [.ref x] H (.int (ns.length : Int)) := fun H1 e Q q => by
  obtain ⟨dx, l1, l2, l3, a, _⟩ := m.ex e
  exact ⟨x, dx, _, rfl, a, x, ns, rfl, m.ex e, fun H2 e2 => ⟨ns.length, rfl, by omega, q H2 e2⟩⟩
theorem rv_ownIn {neg : Bool} {i : Int} (m : MeshAt K H x ns) : RV (rOwnIn (He.ga K "Mesh") (sp_Meshcontains K) E0 neg) (.int i) (.ref x) H (.bl (if neg then !(decide (0 ≤ i) && decide (i < (ns.length : Int))) else (decide (0 ≤ i) && decide (i < (ns.length : Int))))) := fun H1 e Q q => by
  obtain ⟨dx, l1, l2, l3, a, _⟩ := m.ex e
  exact ⟨x, dx, _, rfl, a, x, ns, i, rfl, m.ex e, fun H2 e2 => ⟨_, rfl, q H2 e2⟩⟩
theorem rv_ownEq {y : V} {b : Bool} (F : KQ K) (m : MeshAt K H x ns) (h : EqTo K H ns y b) : RV (rOwnEq K (He.ga K "Mesh") (sp_Mesheq K) E0) (.ref x) y H (.bl b) := fun H1 e Q q => by
  obtain ⟨dx, l1, l2, l3, a, _⟩ := m.ex e
  exact ⟨x, dx, _, rfl, a, (h.ex e).rgt F, x, ns, y, b, rfl, m.ex e, h.ex e, fun H2 e2 => ⟨b, rfl, q H2 e2⟩⟩
end
end Hm
namespace Hm
open PySem PySem.Spec PyProof.Rows L2 Evl
/-! ### try .. except .. as -/
abbrev eLen (n : Nat) (W : WX) : XK := fun cls d H => ∀ σ : L2.St, σ.length = n → W cls d σ H
def tPre (p : Prop) (t : TS) : TS := fun D σ H => p ∧ t D σ H
def tTry (K : PySem.W.Frag) (c : Value) (i : Nat) (tb : WX → TS) (ts : Addr → Value → Option Addr → TS) : TS := fun D σ H => tb (wAs K c i ts (fun _ _ _ _ => False) D) D σ H
theorem pss_pre {X : Cx} {b : List Stmt} {p : Prop} {t : TS} (h : p → PSs X b t) : PSs X b (tPre p t) := ⟨fun pins s σ H D I hw => (h hw.1).run pins s σ H D I hw.2⟩
theorem ps_tryT {X : Cx} {x n : Str} {c : Value} {i : Nat} {body suite : List Stmt} {b₀ : Stmt} {np pos pos' : Pos} {tb : WX → TS} {ts : Addr → Value → Option Addr → TS} (hs : X.stack = X.env :: X.outer) (hf : X.env.frame = some X.env.locals) (hN : X.N.Nodup) (hi : X.N[i]? = some n) (hln : X.env.kindOf n = some .local) (hc : Names X x c)
    (hb : ∀ (W : WX) (pn : List (Addr × Obj)) (xe : Value → Shared → Prop), Takes (X.tr pn xe) W → PassesOwn (model X.prog X.w) X.A X.env xe → PSs (X.tr pn xe) body (tb W))
    (hsu : ∀ (a : Addr) (oe : Obj) (cls : Value) (d : Option Addr) (pn : List (Addr × Obj)), Zc cls d oe → (∃ vs, oe.data = .fields vs) → PSs (X.suite a ((a, oe) :: pn)) (b₀ :: suite) (ts a cls d)) :
    PS X (.Try body [.ExceptHandler (some (.Name x np)) (some n) (b₀ :: suite) pos'] [] [] pos) (tTry X.K c i tb ts) := ps_try_as hs hf hN hi hln hc takes0 hb hsu
theorem zc_of {C : Addr} {cls : Value} {d : Option Addr} {oe : Obj} (hz : Zc cls d oe) (hq : cls = .ref C ∧ d = none) : Zc (.ref C) none oe := by
  obtain ⟨rfl, rfl⟩ := hq
  exact hz
theorem rc_isE {K : PySem.W.Frag} {D a : Addr} {H : Hp} {c : V} {cv : Value} {b : Bool} (h1 : ∀ u, RelV c u → u = cv) (h2 : PySem.W.kitOne K (.ref D) cv = some b) : RC (rIsE K D a) [.ref a, c] H (.bl b) := fun H1 e Q q => ⟨c, cv, b, rfl, h1, h2, q H1 (Ex.refl H1)⟩
theorem q_tryMake {K : PySem.W.Frag} {c : Value} {i n : Nat} {C a : Addr} {sp : Sp} {te : TE} {ts : Addr → Value → Option Addr → TS} {tz : TS} {D : Ends} {σ : L2.St} {H : Hp} (h : Ev te σ H (.ref a))
    (k : ∀ H1 x dx, Ex H H1 → H1 x = none → H1 dx = none → dx ≠ x → sp [.ref x, .ref a] (upd (upd H1 dx (.own x)) x (.ins C dx [])) (fun v H2 => v = .non ∧ tz D σ H2) (eLen n (wAs K c i ts (fun _ _ _ _ => False) { D with nx := tz D }))) :
    tSeq (tTry K c i (fun W => tDrop (tMake C sp [] (eLen n W) (tCons te tNil))) ts) tz D σ H := h H (Ex.refl H) _ fun H1 e1 => fun x dx hx hdx hne => k H1 x dx e1 hx hdx hne
/-! ### lists that are no mesh -/
theorem good_mem {xs : List V} (h : Good xs) {v : V} (hv : v ∈ xs) : ∃ n, n < xs.length ∧ v = vi n := by
  obtain ⟨ns, rfl, hP, _⟩ := h
  obtain ⟨n, hn, rfl⟩ := List.mem_map.mp hv
  exact ⟨n, by rw [L_len]; exact hP.mem.mp hn, rfl⟩
theorem good_even {xs : List V} (h : Good xs) : xs.length % 2 = 0 := by
  obtain ⟨ns, rfl, _, h2⟩ := h
  rw [L_len]
  exact h2
theorem good_two {xs : List V} (h : Good xs) {i j : Nat} {v : V} (hi : xs[i]? = some v) (hj : xs[j]? = some v) : i = j := by
  obtain ⟨ns, rfl, hP, _⟩ := h
  obtain ⟨h1, e1⟩ := L_item hi
  obtain ⟨h2, e2⟩ := L_item hj
  have h3 : (fn ns i : Int) = (fn ns j : Int) := V.int.inj (e1.symm.trans e2)
  exact (pf_fn hP).inj i j h1 h2 (Int.ofNat.inj h3)
theorem rep_set {xs : List V} {p : Nat} {v : V} (h : p < xs.length) : (xs.take p ++ [v]) ++ xs.drop (p + 1) = xs.set p v := by
  rw [List.set_eq_take_append_cons_drop, if_pos h, List.append_assoc]
  rfl
theorem ib_set {xs : List V} {p : Nat} {v : V} (h : ∀ x ∈ xs, IB x) (hv : IB v) : ∀ x ∈ xs.set p v, IB x := fun x hx => by
  rcases List.mem_or_eq_of_mem_set hx with h1 | h1
  · exact h x h1
  · rw [h1]
    exact hv
section
variable {K : PySem.W.Frag} {σ : L2.St} {H : Hp} {ta tb te : TE}
/-- xs[:p] + [v] + xs[q:] -/
theorem el_cut {a : Addr} {xs : List V} {v : V} {p q : Nat} {t1 t2 : TE} (ha : Ev ta σ H (.ref a)) (hS : SqL K H a xs) (h1 : Ev t1 σ H (.int (p : Int))) (h2 : Ev t2 σ H (.int (q : Int))) (hv : Ev te σ H v) (hp : p ≤ xs.length) (hq : q ≤ xs.length) (hz : xs.length ≤ 10000) :
    EvL (tOp rCat (tOp rCat (tSl (rSlL K) ta tNoPart (tPart t1)) (tLst (tCons te tNil))) (tSl (rSlL K) ta (tPart t2) tNoPart)) σ H ((xs.take p ++ [v]) ++ xs.drop q) := by
  have el1 := el_sl (K := K) (te := ta) (tl := tNoPart) (th := tPart t1) (σ := σ) ha eo_none (eo_some h1) hS
  have el2 := el_sl (K := K) (te := ta) (tl := tPart t2) (th := tNoPart) (σ := σ) ha (eo_some h2) eo_none hS
  rw [cut_to hp] at el1
  rw [cut_from hq] at el2
  refine el_cat (el_cat el1 (el_lst (ea_1 hv) (by show 1 ≤ 100000; decide)) ?_) el2 ?_
  · rw [List.length_take]
    show _ + 1 ≤ _
    omega
  · rw [List.length_append, List.length_take, List.length_drop]
    show _ + 1 + _ ≤ _
    omega
end
end Hm
namespace Hm
open PySem PySem.Spec PyProof.Rows L2 Evl
section
variable {K : PySem.W.Frag} {σ : L2.St} {H : Hp} {ta tb te : TE} {D : Ends} {tz : TS}
/-- a new list of new lists -/
def EvLL (te : TE) (σ : L2.St) (H : Hp) (xss : List (List Nat)) : Prop := ∀ H1, Ex H H1 → ∀ Q : VK, (∀ p H2, H1 p = none → Ex H1 H2 → LLn H1 H2 p xss → Q (.ref p) H2) → te σ H1 Q
def SpLL (sp : Sp) (vs : List V) (H : Hp) (xss : List (List Nat)) : Prop := ∀ H1, Ex H H1 → ∀ Q : VK, (∀ p H2, H1 p = none → Ex H1 H2 → LLn H1 H2 p xss → Q (.ref p) H2) → ∀ E : XK, sp vs H1 Q E
theorem ell_call {sp : Sp} {vs : List V} {E : XK} {ta : TA} {xss : List (List Nat)} (h : EvA ta σ H vs) (hs : SpLL sp vs H xss) : EvLL (tCall sp [] E ta) σ H xss := fun H1 e Q q =>
  h H1 e _ fun H2 e2 => by
    show sp (vs ++ []) H2 _ E
    rw [List.append_nil]
    exact hs H2 (e.trans e2) Q (fun p H3 hp e3 h3 => q p H3 (fresh_back e2 hp) (e2.trans e3) (h3.of e2)) E
theorem ell_meth {a C dx : Addr} {fs : List (Str × V)} {m : Str} {sp : Sp} {ta : TE} {tb : TA} {vs : List V} {xss : List (List Nat)} {E : XK} (h : Ev ta σ H (.ref a)) (ho : H a = some (.ins C dx fs)) (hl : fs.lookup m = none) (ha : EvA tb σ H vs) (hs : SpLL sp (.ref a :: vs) H xss) : EvLL (tMeth C m sp [] E ta tb) σ H xss := fun H1 e Q q =>
  h H1 e _ fun H2 e2 => ⟨a, dx, fs, rfl, e2 _ _ (e _ _ ho), hl, ha H2 (e.trans e2) _ fun H3 e3 => by
    have e4 := (e.trans e2).trans e3
    have q2 := hs H3 e4 Q (fun p H4 hp e5 h5 => q p H4 (fresh_back (e2.trans e3) hp) ((e2.trans e3).trans e5) (h5.of (e2.trans e3))) E
    simpa using q2⟩
theorem ev_eqLL {a : Addr} {xss yss : List (List Nat)} (ha : Ev ta σ H (.ref a)) (h : LL H a xss) (hb : EvLL tb σ H yss) : Ev (tOp (rEqD K) ta tb) σ H (.bl (decide (xss = yss))) := fun H1 e Q q =>
  ha H1 e _ fun H2 e2 => hb H2 (e.trans e2) _ fun p H3 hp e3 h3 => rv_eqNN (h.ex ((e.trans e2).trans e3)) h3.ll H3 (Ex.refl H3) Q fun H4 e4 => q H4 ((e2.trans e3).trans e4)
theorem ev_neLL {a : Addr} {xss yss : List (List Nat)} (ha : Ev ta σ H (.ref a)) (h : LL H a xss) (hb : EvLL tb σ H yss) : Ev (tOp (rNeD K) ta tb) σ H (.bl (!decide (xss = yss))) := fun H1 e Q q =>
  ha H1 e _ fun H2 e2 => hb H2 (e.trans e2) _ fun p H3 hp e3 h3 => rv_neNN (h.ex ((e.trans e2).trans e3)) h3.ll H3 (Ex.refl H3) Q fun H4 e4 => q H4 ((e2.trans e3).trans e4)
theorem q_asgLL {i : Nat} {xss : List (List Nat)} (h : EvLL te σ H xss) (k : ∀ p H1, H p = none → Ex H H1 → LLn H H1 p xss → tz D (σ.set i (some (.ref p))) H1) : tSeq (tAsg te (gName i)) tz D σ H := h H (Ex.refl H) _ fun p H1 hp e h1 => k p H1 hp e h1
theorem spll_Lrounds {a : Addr} {ns : List Nat} {b : Bool} (hS : SqL K H a (L ns)) (hM : MP ns) : SpLL (sp_Lrounds K) [.ref a, .bl b] H (cyc ns b) := fun H1 e Q q E => ⟨a, ns, b, rfl, ex_l e hS, hM.p, hM.two, hM.len, fun p H' hp ex h => q p H' hp ex h⟩
theorem spll_faces {x : Addr} {ns : List Nat} (m : MeshAt K H x ns) (hM : MP ns) : SpLL (sp_Meshfaces K) [.ref x] H (cyc ns true) := fun H1 e Q q E => ⟨x, ns, rfl, m.ex e, hM, fun p H' hp ex h => q p H' hp ex h⟩
theorem spll_corners {x : Addr} {ns : List Nat} (m : MeshAt K H x ns) (hM : MP ns) : SpLL (sp_Meshcorners K) [.ref x] H (cyc ns false) := fun H1 e Q q E => ⟨x, ns, rfl, m.ex e, hM, fun p H' hp ex h => q p H' hp ex h⟩
theorem noM {m : Str} (l1 l2 l3 : Addr) (h : (decide (m = "_nexts") || decide (m = "_prevs") || decide (m = "_turns")) = false) : (mfs l1 l2 l3).lookup m = none := by
  simp only [Bool.or_eq_false_iff, decide_eq_false_iff_not] at h
  exact mfs_no _ _ _ h.1.1 h.1.2 h.2
/-- a method of a mesh that gives a value, a new list, a new list of lists -/
theorem ev_mm {x : Addr} {ns : List Nat} {m : Str} {sp : Sp} {tb : TA} {vs : List V} {v : V} {E : XK} (mm : MeshAt K H x ns) (h : Ev ta σ H (.ref x)) (hm : (decide (m = "_nexts") || decide (m = "_prevs") || decide (m = "_turns")) = false) (ha : EvA tb σ H vs) (hs : SpV sp (.ref x :: vs) H v) : Ev (tMeth (He.ga K "Mesh") m sp [] E ta tb) σ H v := by
  obtain ⟨dx, l1, l2, l3, a, _⟩ := mm
  exact ev_meth h a (noM _ _ _ hm) ha hs
theorem el_mm {x : Addr} {ns : List Nat} {m : Str} {sp : Sp} {tb : TA} {vs xs : List V} {E : XK} (mm : MeshAt K H x ns) (h : Ev ta σ H (.ref x)) (hm : (decide (m = "_nexts") || decide (m = "_prevs") || decide (m = "_turns")) = false) (ha : EvA tb σ H vs) (hs : SpL sp (.ref x :: vs) H xs) : EvL (tMeth (He.ga K "Mesh") m sp [] E ta tb) σ H xs := by
  obtain ⟨dx, l1, l2, l3, a, _⟩ := mm
  exact el_meth h a (noM _ _ _ hm) ha hs
theorem ell_mm {x : Addr} {ns : List Nat} {m : Str} {sp : Sp} {tb : TA} {vs : List V} {xss : List (List Nat)} {E : XK} (mm : MeshAt K H x ns) (h : Ev ta σ H (.ref x)) (hm : (decide (m = "_nexts") || decide (m = "_prevs") || decide (m = "_turns")) = false) (ha : EvA tb σ H vs) (hs : SpLL sp (.ref x :: vs) H xss) : EvLL (tMeth (He.ga K "Mesh") m sp [] E ta tb) σ H xss := by
  obtain ⟨dx, l1, l2, l3, a, _⟩ := mm
  exact ell_meth h a (noM _ _ _ hm) ha hs
theorem q_call2 {sp1 sp2 : Sp} {E1 E2 : XK} {tc tr : TA} {vs1 : List V} {i : Nat} (h : EvA tc σ H vs1) (k : ∀ H1, Ex H H1 → sp2 vs1 H1 (fun v H2 => tr σ H2 fun ws H3 => sp1 (v :: ws) H3 (fun v' H4 => tz D (σ.set i (some v')) H4) E1) E2) :
    tSeq (tAsg (tCall sp1 [] E1 (tCons (tCall sp2 [] E2 tc) tr)) (gName i)) tz D σ H :=
  h H (Ex.refl H) _ fun H1 e1 => by
    have q := k H1 e1
    rw [← List.append_nil vs1] at q
    have e : (fun v H2 => tr σ H2 fun ws H3 => sp1 (v :: ws) H3 (fun v' H4 => tz D (σ.set i (some v')) H4) E1) = (fun v H2 => tr σ H2 fun ws H3 => sp1 ((v :: ws) ++ []) H3 (fun v' H4 => tz D (σ.set i (some v')) H4) E1) := by
      funext v H2
      congr 1
      funext ws H3
      rw [List.append_nil]
    rw [e] at q
    exact q
/-- i = _law_nexts(_law_tape(script, k), edges) -/
theorem q_nexts {i j : Nat} {a : Addr} {zs : List Int} {k : Int} {e : Nat} {E1 E2 : XK} (hs : σ[0]? = some (some (.ref a))) (hS : SqL K H a (zs.map V.int)) (k0 : 0 ≤ k) (k1 : k ≤ 100) (he : σ[j]? = some (some (.int (e : Int)))) (h60 : e ≤ 60)
    (kk : ∀ p ns H1, H p = none → Ex H H1 → H1 p = some (.lst (L ns)) → IsP ns → ns.length = 2 * e → tz D (σ.set i (some (.ref p))) H1) :
    tSeq (tAsg (tCall (sp_Lnexts K) [] E1 (tCons (tCall (sp_Ltape K) [] E2 (tCons (tVar 0) (tCons (tC (.int k)) tNil))) (tCons (tVar j) tNil))) (gName i)) tz D σ H := by
  refine q_call2 (ea_2 (ev_var hs) ev_c) fun H1 e1 => ?_
  refine ⟨a, zs, k, rfl, ex_l e1 hS, k0, k1, fun t H2 ht tp e2 => ⟨_, he, ?_⟩⟩
  refine ⟨t, e, rfl, tp, h60, fun p H' ns hp h1 h2 h3 _ x2 => ?_⟩
  have ht0 := fresh_back e1 ht
  have ex : Ex H H' := fun b o hb => x2 b o (ne_of_none hb ht0) (e2 b o (e1 b o hb))
  exact kk p ns H' (fresh_back (e1.trans e2) hp) ex h1 h2 h3
/-- [x for x in xs] -/
theorem el_copy {a : Addr} {ns : List Nat} {j : Nat} (h : Ev ta σ H (.ref a)) (hS : SqL K H a (L ns)) (hz : ns.length ≤ 1000) (hw : ∀ x, wipe ((wipe σ [j]).set j (some x)) [j] = wipe σ [j]) (hj : ∀ x, ((wipe σ [j]).set j (some x))[j]? = some (some x)) : EvL (tLc (iList K ta) (gName j) tYes (tVar j) [j]) σ H (L ns) := by
  have := el_lcL (K := K) (σ := σ) (H := H) (j := j) (vs := [j]) (tl := ta) (t := tYes) (te := tVar j) (fun _ => true) (fun i => vi (fn ns i)) h hS (by rw [L_len]; omega) hw (fun i x H1 _ _ => et_yes) (fun i x H1 _ hx _ => by
    obtain ⟨q1, rfl⟩ := L_item hx
    exact ev_var (hj _))
  rw [given_all] at this
  have e : (List.range (L ns).length).map (fun i => vi (fn ns i)) = L ns := by
    refine List.ext_getElem? fun j => ?_
    rw [L_len]
    by_cases hj : j < ns.length
    · rw [List.getElem?_map, List.getElem?_range hj, L_get hj]
      rfl
    · rw [List.getElem?_eq_none (by rw [List.length_map, List.length_range]; omega), List.getElem?_eq_none (by rw [L_len]; omega)]
  rw [e] at this
  exact this
theorem rc_isL {p : Addr} {xs : List V} (h : H p = some (.lst xs)) : RC (rIsi K) [.ref p, .ty "list"] H (.bl true) :=
  rc_isi (.ty "list") (fun H1 e => .base (.lst (e _ _ h))) (kit_ty (by decide +kernel))
end
end Hm
namespace Hm
open PySem PySem.Spec PyProof.Rows L2 Evl
/-- all but the tape is kept -/
theorem MeshN.exo {K : PySem.W.Frag} {H0 H H' : Hp} {x t : Addr} {ns : List Nat} {u : HO} (h : MeshN K H0 H x ns) (e : ExO t H H') (ht : H0 t = some u) (hx : H0 x = none) : MeshN K H0 H' x ns := by
  obtain ⟨dx, l1, l2, l3, a, b, c, d, f, g, i⟩ := h
  exact ⟨dx, l1, l2, l3, e _ _ (ne_of_none ht hx).symm a, e _ _ (ne_of_none ht f).symm b, e _ _ (ne_of_none ht g).symm c, e _ _ (ne_of_none ht i).symm d, f, g, i⟩
section
variable {K : PySem.W.Frag} {σ : L2.St} {H : Hp} {ta tb te : TE} {D : Ends} {tz : TS} {E : XK}
/-- Mesh(l) -/
theorem mk_mesh {a : Addr} {ns : List Nat} {Q : VK} (h : Ev te σ H (.ref a)) (hS : SqL K H a (L ns)) (hM : MP ns) (k : ∀ x H1, H x = none → MeshN K H H1 x ns → Ex H H1 → Q (.ref x) H1) :
    tMake (He.ga K "Mesh") (sp_Meshinit K) [] E (tCons te tNil) σ H Q :=
  h H (Ex.refl H) _ fun H1 e1 => fun x dx hx hdx hne => by
    have hx0 := fresh_back e1 hx
    have ex : Ex H1 (upd (upd H1 dx (.own x)) x (.ins (He.ga K "Mesh") dx [])) := fun b o q => by
      rw [upd_ne (ne_of_none q hx), upd_ne (ne_of_none q hdx)]
      exact q
    refine ⟨x, dx, a, L ns, rfl, upd_same, ex_l (e1.trans ex) hS, by rw [L_len]; exact hM.len, ib_L ns, fun ms hms _ H2 m x2 => ⟨rfl, ?_⟩, fun hn => absurd (good_L hM) hn⟩
    obtain rfl := L_inj hms
    exact k x H2 hx0 (m.back (e1.trans ex)) fun b o q => x2 b o (ne_of_none q hx0) (ex b o (e1 b o q))
/-- Mesh(.. a new list ..) -/
theorem mk_meshN {ns : List Nat} {Q : VK} (h : EvL te σ H (L ns)) (hM : MP ns) (k : ∀ x H1, H x = none → MeshN K H H1 x ns → Ex H H1 → Q (.ref x) H1) :
    tMake (He.ga K "Mesh") (sp_Meshinit K) [] E (tCons te tNil) σ H Q :=
  h H (Ex.refl H) _ fun a H1 ha e1 h1 => fun x dx hx hdx hne => by
    have hx0 := fresh_back e1 hx
    have ex : Ex H1 (upd (upd H1 dx (.own x)) x (.ins (He.ga K "Mesh") dx [])) := fun b o q => by
      rw [upd_ne (ne_of_none q hx), upd_ne (ne_of_none q hdx)]
      exact q
    refine ⟨x, dx, a, L ns, rfl, upd_same, sq_of (ex _ _ h1), by rw [L_len]; exact hM.len, ib_L ns, fun ms hms _ H2 m x2 => ⟨rfl, ?_⟩, fun hn => absurd (good_L hM) hn⟩
    obtain rfl := L_inj hms
    exact k x H2 hx0 (m.back (e1.trans ex)) fun b o q => x2 b o (ne_of_none q hx0) (ex b o (e1 b o q))
theorem q_meshN {i : Nat} {ns : List Nat} (h : EvL te σ H (L ns)) (hM : MP ns) (k : ∀ x H1, H x = none → MeshN K H H1 x ns → Ex H H1 → tz D (σ.set i (some (.ref x))) H1) :
    tSeq (tAsg (tMake (He.ga K "Mesh") (sp_Meshinit K) [] E (tCons te tNil)) (gName i)) tz D σ H := mk_meshN (Q := fun v H1 => tz D (σ.set i (some v)) H1) h hM k
theorem ev_opMesh {r : R2} {x v : V} {a : Addr} {ns : List Nat} (ha : Ev ta σ H x) (h : Ev te σ H (.ref a)) (hS : SqL K H a (L ns)) (hM : MP ns) (hr : ∀ z H1, Ex H H1 → MeshAt K H1 z ns → RV r x (.ref z) H1 v) :
    Ev (tOp r ta (tMake (He.ga K "Mesh") (sp_Meshinit K) [] E (tCons te tNil))) σ H v := fun H1 e1 Q q =>
  ha H1 e1 _ fun H2 e2 => mk_mesh (h.mono (e1.trans e2)) (ex_l (e1.trans e2) hS) hM fun z H3 _ m e3 => hr z H3 ((e1.trans e2).trans e3) m.at H3 (Ex.refl H3) Q fun H4 e4 => q H4 ((e2.trans e3).trans e4)
/-- if f(..) == c: .. -/
theorem s_ifEqC {sp : Sp} {tp : TA} {vs : List V} {c : Int} {tu tw : TS} (h : EvA tp σ H vs) (k : ∀ H1, Ex H H1 → sp vs H1 (fun v H2 => scal v (.int c) = true ∧ (if decide (v = .int c) = true then tu D σ H2 else tw D σ H2)) E) :
    tIfS (tTest (tOp rEq (tCall sp [] E tp) (tC (.int c)))) tu tw D σ H :=
  h H (Ex.refl H) _ fun H1 e => by
    have q := k H1 e
    rw [← List.append_nil vs] at q
    have e2 : (fun v H2 => scal v (.int c) = true ∧ (if decide (v = .int c) = true then tu D σ H2 else tw D σ H2)) = (fun v H2 => rEq v (.int c) H2 (fun z H3 => ∃ b, z = .bl b ∧ (if b = true then tu D σ H3 else tw D σ H3))) := by
      funext v H2
      apply propext
      constructor
      · rintro ⟨h1, h2⟩
        exact ⟨h1, _, rfl, h2⟩
      · rintro ⟨h1, b, hb, h2⟩
        cases hb
        exact ⟨h1, h2⟩
    rw [e2] at q
    exact q
theorem q_modAdd {A B : TE} {tp : TA} {sp : Sp} {a : Int} {i : Nat} {vs : List V} (hA : Ev A σ H (.int a)) (hp : EvA tp σ H vs)
    (k : ∀ H1, Ex H H1 → sp vs H1 (fun v H2 => zAdd (.int a) v H2 (fun z H3 => cInt [z] H3 (fun w H4 => B σ H4 (fun mm H5 => zMod w mm H5 (fun u H6 => tz D (σ.set i (some u)) H6))))) E) :
    tSeq (tAsg (tOp zMod (tCB cInt (tCons (tOp zAdd A (tCall sp [] E tp)) tNil)) B) (gName i)) tz D σ H :=
  hA H (Ex.refl H) _ fun H1 e1 => hp H1 e1 _ fun H2 e2 => by
    have q := k H2 (e1.trans e2)
    rw [← List.append_nil vs] at q
    exact q
end
theorem L_set (ns : List Nat) (i a : Nat) : (L ns).set i (vi a) = L (ns.set i a) := by unfold L; rw [List.map_set]
/-- two entries exchanged -/
theorem isP_swap {ns : List Nat} (h : IsP ns) {i j : Nat} (hi : i < ns.length) (hj : j < ns.length) : IsP ((ns.set i (fn ns j)).set j (fn ns i)) := by
  have e : (ns.set i (fn ns j)).set j (fn ns i) = (List.range ns.length).map (fun x => fn ns (if x = j then i else if x = i then j else x)) := by
    refine List.ext_getElem? fun x => ?_
    by_cases hx : x < ns.length
    · rw [List.getElem?_map, List.getElem?_range hx]
      by_cases h1 : x = j
      · subst h1
        rw [List.getElem?_set_self (by rw [List.length_set]; exact hx)]
        simp
      · rw [List.getElem?_set_ne (Ne.symm h1)]
        by_cases h2 : x = i
        · subst h2
          rw [List.getElem?_set_self hx]
          simp [h1]
        · rw [List.getElem?_set_ne (Ne.symm h2), fn_get hx]
          simp [h1, h2]
    · rw [List.getElem?_eq_none (by rw [List.length_set, List.length_set]; omega), List.getElem?_eq_none (by rw [List.length_map, List.length_range]; omega)]
  rw [e]
  refine isP_of ⟨fun x hx => (pf_fn h).lt _ (by split <;> first | omega | (split <;> omega)), fun x y hx hy q => ?_⟩
  have := (pf_fn h).inj _ _ (by split <;> first | omega | (split <;> omega)) (by split <;> first | omega | (split <;> omega)) q
  split at this <;> split at this <;> (try split at this) <;> (try split at this) <;> omega
theorem isP_two {ns : List Nat} (h : IsP ns) : IsP (ns ++ [ns.length, ns.length + 1]) where
  perm := by
    rw [List.length_append]
    show (ns ++ [ns.length, ns.length + 1]).Perm (List.range (ns.length + 2))
    rw [List.range_succ, List.range_succ, List.append_assoc]
    exact List.Perm.append_right _ h.perm
end Hm
namespace Hm
open PySem PySem.Spec PyProof.Rows L2 Evl
theorem blkOk_n {N : List Str} {own : List (Str × Nat)} {scope1 scope2 sc : Scope} {cl : List (Str × Addr)} {C L f : Addr} {qual : Str} {cdv : Value} (h : blkC N (relabel scope1 (envOfC "" sc 0 0 .none)) scope2 own = true) : BlkOk N (compEnvC scope1 cl C (envOfC qual sc L f cdv)).scope scope2 own := by
  have e : (compEnvC scope1 cl C (envOfC qual sc L f cdv)).scope = relabel scope1 (envOfC "" sc 0 0 .none) := rfl
  rw [e]
  exact blkOk_by h
end Hm
namespace Hm
open PySem PySem.Spec PyProof.Rows L2 Evl
section
variable {K : PySem.W.Frag} {σ : L2.St} {H : Hp} {ta tb te : TE} {D : Ends} {tz : TS} {v : V}
/-- f(..).append(e), on a new list -/
theorem s_appN {xs : List V} (ha : EvL ta σ H xs) (h : ∀ H1, Ex H H1 → Ev te σ H1 v) (hz : xs.length < 100000) (k : ∀ p H1, H p = none → Ex H H1 → D.nx σ (upd H1 p (.lst (xs ++ [v])))) :
    tDrop (tBM K "list" rAppend ta (tCons te tNil)) D σ H := ha H (Ex.refl H) _ fun p H1 hp e1 h1 =>
  ⟨Or.inl ⟨rfl, xs, sq_of h1⟩, h H1 e1 H1 (Ex.refl H1) _ fun H2 e2 => ⟨p, xs, v, rfl, rfl, e2 _ _ h1, sz_lt hz, k p H2 hp (e1.trans e2)⟩⟩
/-- f(..) as a statement -/
theorem q_dropC {sp : Sp} {E : XK} {ta : TA} {vs : List V} (h : EvA ta σ H vs) (k : ∀ H1, Ex H H1 → sp vs H1 (fun _ H2 => tz D σ H2) E) : tSeq (tDrop (tCall sp [] E ta)) tz D σ H :=
  h H (Ex.refl H) _ fun H1 e => by
    show sp (vs ++ []) H1 _ E
    rw [List.append_nil]
    exact k H1 e
end
theorem LA.items {H : Hp} {as : List Addr} {xss : List (List Nat)} (h : LA H as xss) : ∀ a ∈ as, ∃ xs ∈ xss, H a = some (.lst (L xs)) := by
  induction h with
  | nil => intro a ha; cases ha
  | cons r t ih =>
    intro a ha
    rcases List.mem_cons.mp ha with rfl | ha
    · exact ⟨_, List.mem_cons_self .., r⟩
    · obtain ⟨xs, m, q⟩ := ih a ha
      exact ⟨xs, List.mem_cons_of_mem _ m, q⟩
theorem cyc_item {ns : List Nat} (hM : MP ns) {b : Bool} {xs : List Nat} (h : xs ∈ cyc ns b) : xs.length ≤ 1000 := by
  obtain ⟨x, hx, rfl⟩ := List.mem_map.mp h
  have hx := List.mem_range.mp (List.mem_filter.mp hx).1
  rw [rnd_length]
  have := (per_spec (pf_stp hM.p hM.two b) hx).2.1
  have := hM.len
  omega
theorem cyc_len {ns : List Nat} (hM : MP ns) (b : Bool) : (cyc ns b).length ≤ 1000 := by
  have := cycs_len (stp ns b) ns.length ns.length
  have := hM.len
  unfold cyc
  omega
end Hm
namespace Hm
open PySem PySem.Spec PyProof.Rows L2 Evl
/-! ### several except clauses, each with a name -/
abbrev Cl := Value × Nat × (Addr → Value → Option Addr → TS)
def wManyAs (K : PySem.W.Frag) (Wout : WX) (D : Ends) : List Cl → WX
  | [] => Wout
  | (c, i, ts) :: r => fun cls d σ H => ∃ b, PySem.W.exmOne K cls c = some b ∧
    (b = true → ∀ a, H a = none → ts a cls d { nx := fun σ' H' => D.nx (σ'.set i none) H', rt := D.rt, bk := fun σ' H' => D.bk (σ'.set i none) H', ct := fun σ' H' => D.ct (σ'.set i none) H' } (σ.set i (some (.ref a))) H) ∧ (b = false → wManyAs K Wout D r cls d σ H)
inductive HdsAs (X : Cx) : List ExceptHandler → List Cl → Prop
  | nil : HdsAs X [] []
  | cons {x n : Str} {c : Value} {i : Nat} {ts : Addr → Value → Option Addr → TS} {b₀ : Stmt} {suite : List Stmt} {np pos' : Pos} {hds : List ExceptHandler} {l : List Cl} (hi : X.N[i]? = some n) (hln : X.env.kindOf n = some .local) (hc : Names X x c)
      (hsu : ∀ (a : Addr) (oe : Obj) (cls : Value) (d : Option Addr) (pn : List (Addr × Obj)), Zc cls d oe → (∃ vs, oe.data = .fields vs) → PSs (X.suite a ((a, oe) :: pn)) (b₀ :: suite) (ts a cls d)) (r : HdsAs X hds l) :
      HdsAs X (.ExceptHandler (some (.Name x np)) (some n) (b₀ :: suite) pos' :: hds) ((c, i, ts) :: l)
section
variable {X : Cx} {body : List Stmt} {h₀ : ExceptHandler} {hds : List ExceptHandler} {l : List Cl} {pos : Pos} {tb : WX → TS} {Wout : WX}
theorem ps_try_manyAs (hs : X.stack = X.env :: X.outer) (hf : X.env.frame = some X.env.locals) (hN : X.N.Nodup) (tk : Takes X Wout)
    (hb : ∀ (W : WX) (pn : List (Addr × Obj)) (xe : Value → Shared → Prop), Takes (X.tr pn xe) W → PassesOwn (model X.prog X.w) X.A X.env xe → PSs (X.tr pn xe) body (tb W))
    (hh : HdsAs X (h₀ :: hds) l) : PS X (.Try body (h₀ :: hds) [] [] pos) (fun D σ H => tb (wManyAs X.K Wout D l) D σ H) := by
  refine ⟨fun pins s σ H D I h => ?_⟩
  have ok := I.ok
  have hfr : X.A.frames = some (X.env :: X.outer) := by rw [ok.frames, hs]
  refine wpAny_Try_except ?_
  refine wpAny_mono ((hb (wManyAs X.K Wout D l) (X.pn ++ pins) (fun e s₁ => wpAny (model X.prog X.w) X.A (noteFrame e X.env) (fun _ s₂ => wpAny (model X.prog X.w) X.A (setFlight e none) (fun _ s₃ =>
    wpAny (model X.prog X.w) X.A (handleBy e X.env (h₀ :: hds)) (SP X pins D) X.xe s₃) X.xe s₂) X.xe s₁) (fun u s' xx => ?_) PassesOwn.looking).run [] s σ H D (I.toTry _) h) (fun f s1 hsp => ?_) (fun e s1 he => he)
  · -- the catch
    obtain ⟨a, B, sI, pins', σ', H', cls, d, rfl, J', nb, up, sky, na, os, ag, w⟩ := xx
    have J : Inv X pins σ' H' sI := J'.ofTry ok
    have sky' : Sky B (X.env :: X.outer) a (Zc cls d) X.env.locals s'.heap := by rw [← hs]; exact sky
    show wpAny (model X.prog X.w) X.A (noteFrame (.ref a) X.env) _ _ _
    refine Sky.land Zc.steady hfr hf sky' fun h3 fl3 up3 => ?_
    have J3 : Inv X pins σ' H' { s' with heap := h3 } := J.landed nb fl3.1 (up.trans up3) os ag
    obtain ⟨oe3, vs3, he3, hz3, hd3⟩ := fl3.there
    have notFr : ∀ {h : Heap} {o : Obj} {vs : Array Value}, h.FunFrames B (X.env :: X.outer) → h.get? a = some o → o.data = .fields vs → a ∉ frs (X.env :: X.outer) := fun {h o vs} ff e dd hm => by
      obtain ⟨_, o', e', hnf⟩ := ff.mem hm
      rw [e] at e'; cases e'
      exact hnf _ dd
    have nfr := notFr fl3.2.2.1 he3 hd3
    have nL : a ≠ X.env.locals := fun z => nfr (List.mem_filterMap.mpr ⟨X.env, List.mem_cons_self, by rw [hf, z]⟩)
    have nF : a ∉ X.fs := fun hm => by
      obtain ⟨e, he, q⟩ := List.mem_filterMap.mp hm
      exact nfr (List.mem_filterMap.mpr ⟨e, List.mem_cons_of_mem _ he, q⟩)
    have S3 := J3.suite he3 hd3 na nL nF
    have go : ∀ {hds' : List ExceptHandler} {l' : List Cl}, HdsAs X hds' l' → wManyAs X.K Wout D l' cls d σ' H' →
        wpAny (model X.prog X.w) X.A (handleBy (.ref a) X.env hds') (SP X pins D) X.xe { s' with heap := h3 } := by
      intro hds' l' hk
      induction hk with
      | nil =>
        intro w
        refine wpAny_handleBy_nil ?_
        obtain ⟨k1, k2, k3, oe, vs, T, oT, ts', he, hz, hd, h1, hr⟩ := id fl3
        unfold PySem.passOn
        refine wpAny_bind (wpAny_field he hd h1 ?_)
        rw [if_neg (show ¬ ((Value.ref T == Value.none) = true) from by simp)]
        have fin : wpAny (model X.prog X.w) X.A (setFlight (.ref a) X.env.frame) (fun _ s4 => wpAny (model X.prog X.w) X.A (throw (.ref a) : Sem Flow) (SP X pins D) X.xe s4) X.xe { s' with heap := h3 } := by
          rw [hf]
          refine HandSPX.setFlight_upZ fl3 fun h4 hh4 up4 => wpAny_throw (tk _ _ ?_)
          exact ⟨a, B, sI, pins, σ', H', cls, d, rfl, J, nb, (up.trans up3).trans up4, .inr (.inr (by rw [hs]; exact hh4)), na, os, ag, w⟩
        first
          | exact wpAny_bind (wpAny_pure (wpAny_bind fin))
          | exact wpAny_bind fin
      | @cons x n c i ts b₀ suite np pos' hds2 l2 hi hln hc hsu r ih =>
        intro w
        obtain ⟨b, hb1, hyes, hno⟩ := w
        have hloc : Loc X.env.scope n := .inl hln
        refine wpAny_handleBy_cons (codeAny_handlers_test ?_) (by intro q; cases q)
        have LT : PySem.W.Looks (model X.prog X.w) h3 (typeOf (.ref a)) cls := fun A Q E s k q => wpAny_typeOf_ref (k _ _ he3) (by rw [hz3.1]; exact q)
        have LM := PySem.W.exm_one (M := model X.prog X.w) (J3.kIn) LT hb1
        have test : ∀ {Q : Value → Shared → Prop} {E : Value → Shared → Prop}, Q c { s' with heap := h3 } → wpAny (model X.prog X.w) (X.A.mark (some (.ref a))) (eval (.Name x np) X.env) Q E { s' with heap := h3 } := fun {Q E} q => by
          obtain ⟨hg, hdbg, hm | ⟨hm, hv, hnn⟩⟩ := hc
          · exact ld_glob (X := X.suite a ((a, oe3) :: (X.pn ++ pins))) S3 hg hm q hdbg
          · exact ld_blt (X := X.suite a ((a, oe3) :: (X.pn ++ pins))) S3 hg hm hv q hnn hdbg
        refine test (LM.here ?_)
        cases b with
        | true =>
          refine codeAny_handlers_suite_as ?_
          refine HandSPX.lands_againZ fl3 fun h4 fl4 up4 => ?_
          have J4 : Inv X pins σ' H' { s' with heap := h4 } := J.landed nb fl4.1 ((up.trans up3).trans up4) os ag
          obtain ⟨oe4, vs4, he4, hz4, hd4⟩ := fl4.there
          have S4 := J4.suite he4 hd4 na nL nF
          refine store_ok (X := X.suite a ((a, oe4) :: (X.pn ++ pins))) (v := .ref a) S4 hN hi hloc rfl (fun s5 S5 => ?_) (.inr hln)
          refine wpAny_mono ((hsu a oe4 cls d (X.pn ++ pins) hz4 ⟨_, hd4⟩).run [] s5 _ H' _ S5 (hyes rfl a na)) (fun f s6 hsp => ?_) (fun _ _ z => False.elim z)
          have end_ : ∀ {σ6 : L2.St} {H6 : Hp} {Q : Shared → Prop}, Inv (X.suite a ((a, oe4) :: (X.pn ++ pins))) [] σ6 H6 s6 → (∀ s7, Inv X pins (σ6.set i none) H6 s7 → Q s7) →
              wpAny (model X.prog X.w) X.A (do bindName X.env n .none; unbindBehindTheSuite X.env n pos') (fun _ s7 => Q s7) X.xe s6 := fun {σ6 H6 Q} S6 hq => gone_ok (S6.unsuite ok) hN hi hln hq
          cases f with
          | next =>
            obtain ⟨σ6, H6, S6, q6⟩ := hsp
            exact end_ S6 fun s7 J7 => ⟨_, _, J7, q6⟩
          | brk =>
            obtain ⟨σ6, H6, S6, q6⟩ := hsp
            exact end_ S6 fun s7 J7 => ⟨_, _, J7, q6⟩
          | cont =>
            obtain ⟨σ6, H6, S6, q6⟩ := hsp
            exact end_ S6 fun s7 J7 => ⟨_, _, J7, q6⟩
          | ret u =>
            obtain ⟨v6, σ6, H6, S6, r6, q6⟩ := hsp
            exact end_ S6 fun s7 J7 => ⟨_, _, _, J7, r6, q6⟩
        | false =>
          show wpAny _ X.A (handleBy (.ref a) X.env hds2) _ _ _
          exact ih (hno rfl)
    exact go hh w
  · cases f with
    | next =>
      obtain ⟨σ', H', J', q⟩ := hsp
      exact wpAny_execs_nil ⟨σ', H', J'.ofTry ok, q⟩
    | brk =>
      obtain ⟨σ', H', J', q⟩ := hsp
      exact ⟨σ', H', J'.ofTry ok, q⟩
    | cont =>
      obtain ⟨σ', H', J', q⟩ := hsp
      exact ⟨σ', H', J'.ofTry ok, q⟩
    | ret u =>
      obtain ⟨v, σ', H', J', r, q⟩ := hsp
      exact ⟨v, σ', H', J'.ofTry ok, r, q⟩
end
def tTryM (K : PySem.W.Frag) (l : List Cl) (tb : WX → TS) : TS := fun D σ H => tb (wManyAs K (fun _ _ _ _ => False) D l) D σ H
theorem ps_tryM {X : Cx} {body : List Stmt} {h₀ : ExceptHandler} {hds : List ExceptHandler} {l : List Cl} {pos : Pos} {tb : WX → TS} (hs : X.stack = X.env :: X.outer) (hf : X.env.frame = some X.env.locals) (hN : X.N.Nodup)
    (hb : ∀ (W : WX) (pn : List (Addr × Obj)) (xe : Value → Shared → Prop), Takes (X.tr pn xe) W → PassesOwn (model X.prog X.w) X.A X.env xe → PSs (X.tr pn xe) body (tb W))
    (hh : HdsAs X (h₀ :: hds) l) : PS X (.Try body (h₀ :: hds) [] [] pos) (tTryM X.K l tb) := ps_try_manyAs hs hf hN takes0 hb hh
/-! ### an own error with attributes: raised, asked -/
def tRzO (C : Addr) (sp : Sp) (ta : TA) (E : XK) : TS := fun _ σ H => tMkO C sp [] ta σ H E
theorem zc_ref {C : Addr} {cls : Value} {d : Option Addr} {oe : Obj} (hz : Zc cls d oe) (hq : cls = .ref C) : Zc (.ref C) d oe := by
  subst hq
  exact hz
/-- isinstance(e, c), e the exception that the suite holds, with a dict -/
def rIsX (K : PySem.W.Frag) (D a : Addr) (d : Option Addr) : List V → Hp → VK → Prop := fun xs H Q => ∃ (c : V) (cv : Value) (b : Bool) (dd : Addr) (fs : List (Str × V)), xs = [.ref a, c] ∧ d = some dd ∧ H dd = some (.xd fs) ∧ (∀ u, RelV c u → u = cv) ∧ PySem.W.kitOne K (.ref D) cv = some b ∧ Q (.bl b) H
theorem call_isX {X : Cx} {a D : Addr} {d : Option Addr} {oe : Obj} {pn : List (Addr × Obj)} (C : ExcC X.K D) (hz : Zc (.ref D) d oe) (hf : ∃ vs, oe.data = .fields vs) : CallR (X.suite a ((a, oe) :: pn)) (.builtin "isinstance") (rIsX X.K D a d) := by
  intro pins s σ H xs us Q I r h
  obtain ⟨c, cv, b, dd, fs, rfl, ed, hxd, hcv, e, q⟩ := h
  cases r with
  | cons rx rr =>
    cases rr with
    | cons rt rr =>
      cases rr
      cases rx
      have ec := hcv _ rt
      subst ec
      subst ed
      obtain ⟨hget, _⟩ := I.pin (a, oe) (List.mem_append.mpr (.inl List.mem_cons_self))
      obtain ⟨vs, hv⟩ := hf
      have hx : ObjOk X.prog X.w H s.heap dd (.xd fs) := I.hok dd _ hxd
      obtain ⟨mA, ⟨od, es, ep, ho, _⟩, hr⟩ := hx
      have J : PySem.W.InstAt s.heap a oe D (some od) := ⟨hget, hz.1, by unfold PySem.W.notCls; rw [hv] <;> rfl, by rw [hz.2]; exact ho⟩
      exact PySem.W.kia_one (PySem.HmPX.kitx_errD C.hg C.hk C.hs C.hd C.ha C.hn C.ht C.hm) I.kIn J e (fun z => nomatch z) fun tk => ⟨.bl b, H, I.kept (t' := tk) fun _ _ z => z, rfl, q⟩
theorem ExcC.xf {K : PySem.W.Frag} {D : Addr} (C : ExcC K D) : XfC K D := ⟨C.hg, C.hk, C.hs, C.hd⟩
theorem rc_isX {K : PySem.W.Frag} {D a dd : Addr} {d : Option Addr} {H : Hp} {fs : List (Str × V)} {c : V} {cv : Value} {b : Bool} (e : d = some dd) (hx : H dd = some (.xd fs)) (h1 : ∀ u, RelV c u → u = cv) (h2 : PySem.W.kitOne K (.ref D) cv = some b) : RC (rIsX K D a d) [.ref a, c] H (.bl b) :=
  fun H1 ex Q q => ⟨c, cv, b, dd, fs, rfl, e, ex _ _ hx, h1, h2, q H1 (Ex.refl H1)⟩
theorem ev_xf {a dd C : Addr} {cls : Value} {d : Option Addr} {f : Str} {te : TE} {σ : L2.St} {H : Hp} {fs : List (Str × V)} {v : V} (h : Ev te σ H (.ref a)) (hc : cls = .ref C) (e : d = some dd) (hx : H dd = some (.xd fs)) (l : fs.lookup f = some v) : Ev (tXf a cls d C f te) σ H v :=
  fun H1 e1 Q q => h H1 e1 _ fun H2 e2 => ⟨rfl, hc, dd, fs, v, e, e2 _ _ (e1 _ _ hx), l, q H2 e2⟩
end Hm
namespace Hm
open PySem PySem.Spec PyProof.Rows L2 Evl
/-! ### an error's making -/
/-- at x an error with a dict that is not among those of H0 -/
def ErrN (H0 H : Hp) (x C : Addr) (fs : List (Str × V)) : Prop := ∃ d, H0 d = none ∧ d ≠ x ∧ H x = some (exo x C (some d)) ∧ H d = some (exd d fs)
theorem ErrN.at {H0 H : Hp} {x C : Addr} {fs : List (Str × V)} (h : ErrN H0 H x C fs) : ErrAt H x C fs := by
  obtain ⟨d, _, _, a, b⟩ := h
  exact .inr ⟨d, a, b⟩
section
variable {K : PySem.W.Frag} {σ : L2.St} {H H0 : Hp} {x C : Addr} {f : Str} {ta tv : TE} {y : V} {D : Ends} {fs : List (Str × V)} {tz : TS}
theorem fresh_exo {H H' : Hp} {x d : Addr} (e : ExO x H H') (hd : H' d = none) (n : d ≠ x) : H d = none := by
  cases w : H d with
  | none => rfl
  | some o =>
    rw [e d o n w] at hd
    cases hd
theorem s_ost1 (T : OexC K C) (hno : NoAttr K C f) (s0 : σ[0]? = some (some (.ref x))) (e0 : ExO x H0 H) (hx : H x = some (exo x C none)) (hv : Ev tv σ H y) (k : ∀ H', ExO x H0 H' → ErrN H0 H' x C [(f, y)] → Ex H H' ∨ True → D.nx σ H') : tOst K f (tVar 0) tv D σ H :=
  hv H (Ex.refl H) _ fun H1 e1 => ⟨.ref x, s0, x, C, rfl, T, hno, .inl ⟨e1 _ _ hx, fun dx hd hn => by
    have e2 : ExO x H0 H1 := e0.trans (ExO.of e1)
    refine k _ (fun a o n h => ?_) ⟨dx, fresh_exo e2 hd hn, hn, upd_same, by rw [upd_ne hn, upd_same]⟩ (.inr trivial)
    have h1 := e2 a o n h
    rw [upd_ne n, upd_ne (ne_of_none h1 hd)]
    exact h1⟩⟩
theorem s_ost2 (T : OexC K C) (hno : NoAttr K C f) (hl : fs.length ≤ 900) (s0 : σ[0]? = some (some (.ref x))) (e0 : ExO x H0 H) (hx : ErrN H0 H x C fs) (hv : Ev tv σ H y) (k : ∀ H', ExO x H0 H' → ErrN H0 H' x C ((f, y) :: fs) → D.nx σ H') : tOst K f (tVar 0) tv D σ H :=
  hv H (Ex.refl H) _ fun H1 e1 => ⟨.ref x, s0, x, C, rfl, T, hno, .inr (by
    obtain ⟨d, hd0, hdx, a, b⟩ := hx
    have e2 : ExO x H0 H1 := e0.trans (ExO.of e1)
    refine ⟨d, fs, e1 _ _ a, e1 _ _ b, hl, k _ (fun c o n h => ?_) ⟨d, hd0, hdx, by rw [upd_ne hdx.symm]; exact e1 _ _ a, upd_same⟩⟩
    rw [upd_ne (ne_of_none h hd0)]
    exact e2 c o n h)⟩
theorem s_ost2L {xs : List V} (T : OexC K C) (hno : NoAttr K C f) (hl : fs.length ≤ 900) (s0 : σ[0]? = some (some (.ref x))) (e0 : ExO x H0 H) (hx : ErrN H0 H x C fs) (hv : EvL tv σ H xs)
    (k : ∀ p H', H0 p = none → p ≠ x → H' p = some (.lst xs) → ExO x H0 H' → ErrN H0 H' x C ((f, .ref p) :: fs) → D.nx σ H') : tOst K f (tVar 0) tv D σ H :=
  hv H (Ex.refl H) _ fun p H1 hp e1 h1 => ⟨.ref x, s0, x, C, rfl, T, hno, .inr (by
    obtain ⟨d, hd0, hdx, a, b⟩ := hx
    have e2 : ExO x H0 H1 := e0.trans (ExO.of e1)
    have hpx : p ≠ x := (ne_of_none a hp).symm
    have hpd : p ≠ d := (ne_of_none b hp).symm
    refine ⟨d, fs, e1 _ _ a, e1 _ _ b, hl, k p _ (fresh_exo e0 hp hpx) hpx (by rw [upd_ne hpd]; exact h1) (fun c o n h => ?_) ⟨d, hd0, hdx, by rw [upd_ne hdx.symm]; exact e1 _ _ a, upd_same⟩⟩
    rw [upd_ne (ne_of_none h hd0)]
    exact e2 c o n h)⟩
/-- the text that is handed to the base class -/
theorem sup_arg {ts : List TE} {P : Hp → Prop} (h : FsL σ H ts) (hl : ts.length ≤ 10) (hx : H x = some (exo x C none)) (k : ∀ H1, Ex H H1 → P H1) : tCons (tFs ts) tNil σ H (fun ws H1 => ws.length ≤ 1000 ∧ H1 x = some (exo x C none) ∧ P H1) := by
  obtain ⟨out, h⟩ := fs_ev h hl
  exact ea_1 h H (Ex.refl H) _ fun H1 e1 => ⟨by show 1 ≤ 1000; decide, e1 _ _ hx, k H1 e1⟩
end
abbrev okI (i : Int) : Prop := i.natAbs.log2 < 1900
abbrev okS (y : Str) : Prop := y.length ≤ 2000
theorem fI {σ : L2.St} {H : Hp} {n : Nat} {i : Int} {ts : List TE} (h : σ[n]? = some (some (.int i))) (hi : okI i) (r : FsL σ H ts) : FsL σ H (tFmt (tVar n) :: ts) := .cons (ev_fmtI (ev_var h) hi) (int_len hi) r
theorem fS {σ : L2.St} {H : Hp} {n : Nat} {y : Str} {ts : List TE} (h : σ[n]? = some (some (.str y))) (hi : okS y) (r : FsL σ H ts) : FsL σ H (tFmt (tVar n) :: ts) := .cons (ev_fmtS (ev_var h) hi) hi r
theorem fC {σ : L2.St} {H : Hp} {y : Str} {ts : List TE} (hi : okS y) (r : FsL σ H ts) : FsL σ H (tC (.str y) :: ts) := .cons ev_c hi r
/-- of an own error's __init__: the text, then the rest -/
abbrev GoE (C : Addr) (nm : List Str) (aI : TA) (tI : TS) (vs : List V) (H : Hp) (Q : VK) : Prop := ∃ x : Addr, vs[0]? = some (.ref x) ∧ H x = some (exo x C none) ∧
  aI (NdefX.startF nm vs [none]) H fun ws H1 => ws.length ≤ 1000 ∧ H1 x = some (exo x C none) ∧ tI { nx := fun _ H' => Q .non H', rt := Q } (NdefX.startF nm vs [none]) H1

/-- one attribute, a number; with a new dict -/
def spNI (C : Str) (f : Str) : PySem.W.Frag → Sp := fun K vs H Q _ => ∃ (x : Addr) (i : Int), vs = [.ref x, .int i] ∧ H x = some (exo x (He.ga K C) none) ∧ okI i ∧ ∀ H', ExO x H H' → ErrN H H' x (He.ga K C) [(f, .int i)] → Q .non H'
theorem rz_I {K : PySem.W.Frag} {C f : Str} {te : TE} {E : XK} {D : Ends} {σ : L2.St} {H : Hp} {i : Int} (h : Ev te σ H (.int i)) (hi : okI i) (k : ∀ H' d, Ex H H' → H d = none → H' d = some (.xd [(f, .int i)]) → E (.ref (He.ga K C)) (some d) H') : tRzO (He.ga K C) (spNI C f K) (tCons te tNil) E D σ H :=
  (ea_1 h : EvA (tCons te tNil) σ H [.int i]) H (Ex.refl H) (fun vs H1 => vs.length ≤ 1000 ∧ ∀ a, H1 a = none → spNI C f K (.ref a :: (vs ++ [])) (upd H1 a (exo a (He.ga K C) none)) (fun v H2 => v = .non ∧ ∃ (d : Addr) (fs : List (Str × V)), H2 a = some (exo a (He.ga K C) (some d)) ∧ H2 d = some (exd d fs) ∧ H1 d = none ∧ E (.ref (He.ga K C)) (some d) (upd (del H2 a) d (.xd fs))) (fun _ _ _ => False)) fun H1 e1 => ⟨by show 1 ≤ 1000; decide, fun a ha => ⟨a, i, rfl, upd_same, hi, fun H' x er => ⟨rfl, by
    obtain ⟨d, hd0, hda, q1, q2⟩ := er
    rw [upd_ne hda] at hd0
    refine ⟨d, _, q1, q2, hd0, k _ d (fun b o hb => ?_) (fresh_back e1 hd0) upd_same⟩
    have h1 := e1 _ _ hb
    have hba : b ≠ a := ne_of_none h1 ha
    rw [upd_ne (ne_of_none h1 hd0), del_ne hba]
    exact x b o hba (by rw [upd_ne hba]; exact h1)⟩⟩⟩
end Hm
namespace Hm
open PySem PySem.Spec PyProof.Rows L2 Evl TL
/-! ### texts: names of readings -/
abbrev rCatStr : R2 := fun x y H Q => ∃ i j, x = V.str i ∧ y = V.str j ∧ i.length + j.length ≤ sizeLine ∧ Q (V.str (i ++ j)) H
abbrev rSplit : V → List V → Hp → VK → Prop := fun x xs H Q => ∃ a b, x = V.str a ∧ xs = [V.str b] ∧ (b.length == 0) = false ∧ a.length + 2 ≤ sizeLine ∧ rNewStrs (Txt.split a b) H Q
abbrev rJoin (K : PySem.W.Frag) : V → List V → Hp → VK → Prop := fun x xs H Q => ∃ a p, ∃ ys : List Str, x = V.str a ∧ xs = [V.ref p] ∧ (SqL K H p (ys.map V.str) ∨ SqT K H p (ys.map V.str)) ∧ (ys.map (·.length)).sum + ys.length * a.length ≤ 16777216 ∧ Q (V.str (Txt.join a ys)) H
abbrev rStarts : V → List V → Hp → VK → Prop := fun x xs H Q => ∃ a b, x = V.str a ∧ xs = [V.str b] ∧ Q (V.bl (Txt.startswith a b)) H
abbrev rIsdigit : V → List V → Hp → VK → Prop := fun x xs H Q => ∃ a, x = V.str a ∧ xs = [] ∧ True ∧ Q (V.bl (Txt.isdigit a)) H
abbrev rIsascii : V → List V → Hp → VK → Prop := fun x xs H Q => ∃ a, x = V.str a ∧ xs = [] ∧ True ∧ Q (V.bl (Txt.isascii a)) H
abbrev cStr : CR1 := fun vs H Q => ∃ i : Int, vs = [V.int i] ∧ i.natAbs.log2 < 1920 ∧ Q (V.str (toString i)) H
abbrev cIntS : CR1 := fun vs H Q => ∃ a n, vs = [V.str a] ∧ PySem.intText? a = some n ∧ a.length ≤ 640 ∧ Q (V.int n) H
abbrev cLenS : CR1 := fun vs H Q => ∃ z : Str, vs = [V.str z] ∧ z.length ≤ sizeLine ∧ Q (V.int (z.length : Int)) H
abbrev rMulS : R2 := fun x y H Q => ∃ i n, x = V.str i ∧ y = V.int n ∧ MulOk i n ∧ Q (V.str (Txt.mul i n)) H
theorem op_mulS {X : Cx} : OpR X (binaryOp .Mult) rMulS := by
  intro pins s σ H x y v u Q I rx ry h
  obtain ⟨i, n, rfl, rfl, hz, q⟩ := h
  obtain ⟨t, rfl⟩ := rx
  obtain ⟨t', rfl⟩ := ry
  exact PySem.SB.mul hz fun t' k => ⟨.str _, H, I.tok _, ⟨_, rfl⟩, q⟩
section
variable {K : PySem.W.Frag} {σ : L2.St} {H : Hp} {ta tb te : TE} {a b : Str}
theorem ev_m1 {r : V → List V → Hp → VK → Prop} {v : V} (ha : Ev ta σ H (.str a)) (hb : Ev tb σ H (.str b)) (hr : ∀ H1, Ex H H1 → ∀ Q : VK, (∀ H2, Ex H1 H2 → Q v H2) → r (.str a) [.str b] H1 Q) : Ev (tM1 r ta tb) σ H v := fun H1 e Q q =>
  ha H1 e _ fun H2 e2 => ⟨⟨a, rfl⟩, hb H2 (e.trans e2) _ fun H3 e3 => hr H3 ((e.trans e2).trans e3) Q fun H4 e4 => q H4 ((e2.trans e3).trans e4)⟩
theorem ev_m0 {r : V → List V → Hp → VK → Prop} {v : V} (ha : Ev ta σ H (.str a)) (hr : ∀ H1, Ex H H1 → ∀ Q : VK, (∀ H2, Ex H1 H2 → Q v H2) → r (.str a) [] H1 Q) : Ev (tM0 r ta) σ H v := fun H1 e Q q =>
  ha H1 e _ fun H2 e2 => ⟨⟨a, rfl⟩, hr H2 (e.trans e2) Q fun H3 e3 => q H3 (e2.trans e3)⟩
theorem el_split (ha : Ev ta σ H (.str a)) (hb : Ev tb σ H (.str b)) (h1 : (b.length == 0) = false) (h2 : a.length ≤ 90000) : EvL (tM1 rSplit ta tb) σ H ((Txt.split a b).map V.str) := fun H1 e Q q =>
  ha H1 e _ fun H2 e2 => ⟨⟨a, rfl⟩, hb H2 (e.trans e2) _ fun H3 e3 => ⟨a, b, rfl, rfl, h1, by rw [sizeLine_eq]; omega, fun p hp => q p _ (fresh_back (e2.trans e3) hp) ((e2.trans e3).trans (Ex.new hp)) upd_same⟩⟩
theorem ev_starts (ha : Ev ta σ H (.str a)) (hb : Ev tb σ H (.str b)) : Ev (tM1 rStarts ta tb) σ H (.bl (Txt.startswith a b)) := ev_m1 ha hb fun H1 _ Q q => ⟨a, b, rfl, rfl, q H1 (Ex.refl H1)⟩
theorem ev_isdigit (ha : Ev ta σ H (.str a)) : Ev (tM0 rIsdigit ta) σ H (.bl (Txt.isdigit a)) := ev_m0 ha fun H1 _ Q q => ⟨a, rfl, rfl, trivial, q H1 (Ex.refl H1)⟩
theorem ev_isascii (ha : Ev ta σ H (.str a)) : Ev (tM0 rIsascii ta) σ H (.bl (Txt.isascii a)) := ev_m0 ha fun H1 _ Q q => ⟨a, rfl, rfl, trivial, q H1 (Ex.refl H1)⟩
theorem ev_join {p : Addr} {ys : List Str} (ha : Ev ta σ H (.str a)) (hb : Ev tb σ H (.ref p)) (hS : SqL K H p (ys.map V.str)) (hz : (ys.map (·.length)).sum + ys.length * a.length ≤ 16777216) : Ev (tM1 (rJoin K) ta tb) σ H (.str (Txt.join a ys)) := fun H1 e Q q =>
  ha H1 e _ fun H2 e2 => ⟨⟨a, rfl⟩, hb H2 (e.trans e2) _ fun H3 e3 => ⟨a, p, ys, rfl, rfl, .inl (ex_l ((e.trans e2).trans e3) hS), hz, q H3 (e2.trans e3)⟩⟩
theorem ev_joinL {ys : List Str} (ha : Ev ta σ H (.str a)) (hb : EvL tb σ H (ys.map V.str)) (hz : (ys.map (·.length)).sum + ys.length * a.length ≤ 16777216) : Ev (tM1 (rJoin K) ta tb) σ H (.str (Txt.join a ys)) := fun H1 e Q q =>
  ha H1 e _ fun H2 e2 => ⟨⟨a, rfl⟩, hb H2 (e.trans e2) _ fun p H3 hp e3 h3 => ⟨a, p, ys, rfl, rfl, .inl (sq_of h3), hz, q H3 (e2.trans e3)⟩⟩
theorem rv_catS (hz : a.length + b.length ≤ 100000) : RV rCatStr (.str a) (.str b) H (.str (a ++ b)) := fun H1 _ Q q => ⟨a, b, rfl, rfl, sz_of hz, q H1 (Ex.refl H1)⟩
theorem rc_str {i : Int} (h : i.natAbs.log2 < 1920) : RC cStr [.int i] H (.str (toString i)) := fun H1 _ Q q => ⟨i, rfl, h, q H1 (Ex.refl H1)⟩
theorem rc_intS {n : Int} (h : PySem.intText? a = some n) (hl : a.length ≤ 640) : RC cIntS [.str a] H (.int n) := fun H1 _ Q q => ⟨a, n, rfl, h, hl, q H1 (Ex.refl H1)⟩
theorem rc_lenS (hl : a.length ≤ 100000) : RC cLenS [.str a] H (.int (a.length : Int)) := fun H1 _ Q q => ⟨a, rfl, sz_of hl, q H1 (Ex.refl H1)⟩
end
/-! ### words that are numbers -/
def num (n : Nat) : Str := Str.ofString (toString ((n : Nat) : Int))
theorem tl_n (n : Nat) : tl (num n) = numL n := tl_num n
def numB (w : Str) : Bool := if (!(Txt.isascii w) || (!(Txt.isdigit w) || decide (4 < w.length))) = true then false else (decide (w = "0") || !(Txt.startswith w "0"))
theorem all_tl {w : Str} {f : Nat → Bool} : w.cps.all f = (tl w).all f := by rw [← Array.all_toList]
theorem isascii_tl (w : Str) : Txt.isascii w = (tl w).all (· < 128) := all_tl
theorem isdigit_tl (w : Str) : Txt.isdigit w = (decide ((tl w).length > 0) && (tl w).all Unicode.isDigit) := by
  unfold Txt.isdigit
  rw [all_tl, len_tl]
theorem starts_tl (w : Str) : Txt.startswith w "0" = ((tl w).head? == some 48) := by
  have h0 : tl ("0" : Str) = [48] := rfl
  have hl : ("0" : Str).length = 1 := rfl
  unfold Txt.startswith
  rw [PySem.StrLaws.subAt_eq, hl, List.drop_zero, len_tl]
  show (decide (0 + 1 ≤ (tl w).length) && ((tl w).take 1 == [48])) = _
  cases tl w with
  | nil => rfl
  | cons c r =>
    show (true && ([c] == [48])) = (some c == some 48)
    rw [Bool.true_and]
    by_cases h : c = 48 <;> simp [h]
theorem dig_ok : ∀ c : Nat, 48 ≤ c → c ≤ 57 → Unicode.isDigit c = true := by
  intro c h1 h2
  have k : ∀ d : Nat, d < 10 → Unicode.isDigit (48 + d) = true := by decide +kernel
  have := k (c - 48) (by omega)
  rwa [show 48 + (c - 48) = c by omega] at this
theorem numL_head {n : Nat} (h : 0 < n) : (numL n).head? ≠ some 48 := by
  induction n using Nat.strongRecOn with
  | ind n ih =>
    by_cases h1 : n < 10
    · rw [numL_lt h1]
      intro q
      have : 48 + n = 48 := Option.some.inj q
      omega
    · rw [numL_step (by omega)]
      have := ih (n / 10) (by omega) (by omega)
      cases e : numL (n / 10) with
      | nil => exact absurd e (numL_ne _)
      | cons c r =>
        rw [e] at this
        exact this
theorem numL_dig {n c : Nat} (h : c ∈ numL n) : 48 ≤ c ∧ c ≤ 57 := by
  refine ⟨Nat.le_of_not_lt fun q => numL_free (Or.inl q) h, Nat.le_of_not_lt fun q => numL_free (Or.inr q) h⟩
theorem num_len {n : Nat} (h : n < 10000) : (num n).length ≤ 4 := by
  rw [len_tl, tl_n]
  exact numL_len (k := 4) (by decide) h
theorem numB_num {n : Nat} (h : n < 10000) : numB (num n) = true := by
  have h1 : Txt.isascii (num n) = true := by
    rw [isascii_tl, tl_n, List.all_eq_true]
    intro c hc
    have := numL_dig hc
    exact decide_eq_true (by omega)
  have h2 : Txt.isdigit (num n) = true := by
    rw [isdigit_tl, tl_n, Bool.and_eq_true, List.all_eq_true]
    refine ⟨decide_eq_true (List.length_pos_iff.mpr (numL_ne n)), fun c hc => ?_⟩
    have := numL_dig hc
    exact dig_ok c this.1 this.2
  unfold numB
  rw [h1, h2, decide_eq_false (by have := num_len h; omega : ¬ 4 < (num n).length)]
  show (decide (num n = "0") || !(Txt.startswith (num n) "0")) = true
  by_cases h0 : n = 0
  · subst h0
    rw [decide_eq_true (show num 0 = "0" from rfl), Bool.true_or]
  · rw [starts_tl, tl_n]
    have := numL_head (Nat.pos_of_ne_zero h0)
    rw [show ((numL n).head? == some 48) = false from by simpa using this]
    simp
/-- a word with a sign that is no digit -/
theorem numB_sign {w : Str} {c : Nat} (h : c ∈ tl w) (hc : Unicode.isDigit c = false) : numB w = false := by
  have h2 : Txt.isdigit w = false := by
    rw [isdigit_tl, Bool.and_eq_false_iff]
    right
    rw [Bool.eq_false_iff]
    intro q
    have := List.all_eq_true.mp q c h
    rw [hc] at this
    cases this
  unfold numB
  rw [h2]
  simp
theorem numB_long {w : Str} (h : 4 < w.length) : numB w = false := by
  unfold numB
  rw [decide_eq_true h]
  simp
theorem numB_nil {w : Str} (h : tl w = []) : numB w = false := by
  have h2 : Txt.isdigit w = false := by
    rw [isdigit_tl, h]
    rfl
  unfold numB
  rw [h2]
  simp
theorem numB_zero {w : Str} {c : Nat} {r : List Nat} (h : tl w = 48 :: c :: r) : numB w = false := by
  have h1 : w ≠ ("0" : Str) := fun q => by
    rw [q] at h
    have : tl ("0" : Str) = [48] := rfl
    rw [this] at h
    cases h
  unfold numB
  split
  · rfl
  · rw [decide_eq_false h1, starts_tl, h]
    rfl
theorem int_of_num {n : Nat} (h : n < 10000) : PySem.intText? (num n) = some (n : Int) := int_num (by have := num_len h; rw [len_tl, tl_n] at this; omega)
theorem num_inj {m n : Nat} (h : num m = num n) : m = n := numL_inj (by rw [← tl_n, ← tl_n, h])
theorem num_free {n s : Nat} (h : s < 48 ∨ 57 < s) : s ∉ tl (num n) := by
  rw [tl_n]
  exact numL_free h
theorem num_ne (n : Nat) : tl (num n) ≠ [] := by
  rw [tl_n]
  exact numL_ne n
/-! ### joining -/
abbrev spc : Str := " "
abbrev nl : Str := "\n"
theorem tl_spc : tl spc = [32] := rfl
theorem tl_nl : tl nl = [10] := rfl
def jn (y : Str) (ws : List Str) : Str := Txt.join y ws
theorem jn_split {y : Str} {s : Nat} (ey : tl y = [s]) (hk : y.cps.all (· < 256) = true) {ws : List Str} (hne : ws ≠ []) (h : ∀ w ∈ ws, s ∉ tl w) : Txt.split (jn y ws) y = ws := split_join (S := []) ey hk hne h
theorem jn_one (y w : Str) : jn y [w] = w := by unfold jn; rw [join_eq]; rfl
theorem tl_nilS : tl (Str.empty) = [] := rfl
theorem jn_nil (y : Str) : jn y [] = Str.empty := by unfold jn; rw [join_eq]; rfl
theorem tl_jn (y : Str) (ws : List Str) : tl (jn y ws) = joinL (tl y) (ws.map tl) := by unfold jn; rw [join_eq, tl_join]
theorem joinL_app (S : List Nat) : ∀ (a b : List (List Nat)), a ≠ [] → b ≠ [] → joinL S (a ++ b) = joinL S a ++ (S ++ joinL S b)
  | [], _, h, _ => absurd rfl h
  | [p], q :: r, _, _ => rfl
  | [p], [], _, h => absurd rfl h
  | p :: q :: r, b, _, hb => by
    show p ++ (S ++ joinL S (q :: r ++ b)) = (p ++ (S ++ joinL S (q :: r))) ++ (S ++ joinL S b)
    rw [joinL_app S (q :: r) b (by simp) hb]
    simp only [List.append_assoc]
/-- a joined text put in the place of a word -/
theorem joinL_in (S : List Nat) (a c b : List (List Nat)) (hc : c ≠ []) : joinL S (a ++ [joinL S c] ++ b) = joinL S (a ++ c ++ b) := by
  have one : joinL S [joinL S c] = joinL S c := rfl
  by_cases ha : a = []
  · subst ha
    by_cases hb : b = []
    · subst hb
      rw [List.append_nil, List.append_nil, List.nil_append, List.nil_append, one]
    · rw [joinL_app S _ b (by simp) hb, joinL_app S _ b (by simpa using hc) hb, List.nil_append, List.nil_append, one]
  · by_cases hb : b = []
    · subst hb
      rw [List.append_nil, List.append_nil, joinL_app S a _ ha (by simp), joinL_app S a _ ha hc, one]
    · rw [joinL_app S _ b (by simp) hb, joinL_app S _ b (by simp [ha]) hb, joinL_app S a _ ha (by simp), joinL_app S a _ ha hc, one]
theorem joinL_len (s : Nat) : ∀ (ws : List (List Nat)) (B : Nat), (∀ w ∈ ws, w.length ≤ B) → (joinL [s] ws).length ≤ ws.length * (B + 1)
  | [], _, _ => Nat.zero_le _
  | [p], B, h => by
    have := h p (List.mem_singleton.mpr rfl)
    show p.length ≤ 1 * (B + 1)
    omega
  | p :: q :: r, B, h => by
    have h1 := h p (List.mem_cons_self ..)
    have h2 := joinL_len s (q :: r) B fun w hw => h w (List.mem_cons_of_mem _ hw)
    show (p ++ ([s] ++ joinL [s] (q :: r))).length ≤ (r.length + 1 + 1) * (B + 1)
    rw [List.length_append, List.length_append]
    have h3 : (q :: r).length = r.length + 1 := rfl
    rw [h3] at h2
    have h4 : (r.length + 1 + 1) * (B + 1) = (r.length + 1) * (B + 1) + (B + 1) := by rw [Nat.succ_mul]
    have h5 : [s].length = 1 := rfl
    omega
theorem mem_joinL {s c : Nat} : ∀ {ws : List (List Nat)}, c ∈ joinL [s] ws → c = s ∨ ∃ w ∈ ws, c ∈ w
  | [], h => nomatch h
  | [p], h => .inr ⟨p, List.mem_singleton.mpr rfl, h⟩
  | p :: q :: r, h => by
    have h : c ∈ p ++ ([s] ++ joinL [s] (q :: r)) := h
    rw [List.mem_append, List.mem_append] at h
    rcases h with h | h | h
    · exact .inr ⟨p, List.mem_cons_self .., h⟩
    · exact .inl (List.mem_singleton.mp h)
    · rcases mem_joinL h with h | ⟨w, hw, h⟩
      · exact .inl h
      · exact .inr ⟨w, List.mem_cons_of_mem _ hw, h⟩
theorem jn_len {y : Str} {s : Nat} (ey : tl y = [s]) {ws : List Str} {B : Nat} (h : ∀ w ∈ ws, w.length ≤ B) : (jn y ws).length ≤ ws.length * (B + 1) := by
  rw [len_tl, tl_jn, ey]
  have := joinL_len s (ws.map tl) B (fun w hw => by
    obtain ⟨z, hz, rfl⟩ := List.mem_map.mp hw
    rw [← len_tl]
    exact h z hz)
  rwa [List.length_map] at this
theorem sum_len {ws : List Str} {B : Nat} (h : ∀ w ∈ ws, w.length ≤ B) : (ws.map (·.length)).sum ≤ ws.length * B := by
  induction ws with
  | nil => exact Nat.zero_le _
  | cons w r ih =>
    have h1 := h w (List.mem_cons_self ..)
    have h2 := ih fun x hx => h x (List.mem_cons_of_mem _ hx)
    show w.length + (r.map (·.length)).sum ≤ (r.length + 1) * B
    rw [Nat.succ_mul]
    omega
/-- a line of numbers -/
def lineOf (ns : List Nat) : Str := jn spc (ns.map num)
def textOf (gs : List (List Nat)) : Str := jn nl (gs.map lineOf)
theorem line_words {ns : List Nat} (h : ns ≠ []) : Txt.split (lineOf ns) spc = ns.map num := by
  refine jn_split tl_spc (by decide +kernel) (fun q => h (List.map_eq_nil_iff.mp q)) (fun w hw => ?_)
  obtain ⟨n, _, rfl⟩ := List.mem_map.mp hw
  exact num_free (by decide)
theorem line_free (ns : List Nat) : 10 ∉ tl (lineOf ns) := by
  unfold lineOf
  rw [tl_jn, tl_spc]
  intro h
  rcases mem_joinL h with h | ⟨w, hw, h⟩
  · cases h
  · obtain ⟨z, hz, rfl⟩ := List.mem_map.mp hw
    obtain ⟨n, _, rfl⟩ := List.mem_map.mp hz
    exact num_free (by decide) h
theorem line_ne {ns : List Nat} (h : ns ≠ []) : tl (lineOf ns) ≠ [] := by
  unfold lineOf
  rw [tl_jn, tl_spc]
  cases ns with
  | nil => exact absurd rfl h
  | cons n r =>
    cases r with
    | nil => exact num_ne n
    | cons m r =>
      show tl (num n) ++ _ ≠ []
      intro q
      exact num_ne n (List.append_eq_nil_iff.mp q).1
theorem line_len {ns : List Nat} (h : ∀ n ∈ ns, n < 10000) : (lineOf ns).length ≤ ns.length * 5 := by
  have := jn_len (B := 4) tl_spc (ws := ns.map num) fun w hw => by
    obtain ⟨n, hn, rfl⟩ := List.mem_map.mp hw
    exact num_len (h n hn)
  rwa [List.length_map] at this
/-- a line that is no line of numbers -/
def BadL (y : Str) : Prop := ∃ ws : List Str, ws ≠ [] ∧ y = jn spc ws ∧ (∀ w ∈ ws, 32 ∉ tl w ∧ 10 ∉ tl w) ∧ (∃ w ∈ ws, numB w = false) ∧ (∀ w ∈ ws, w.length ≤ 6000) ∧ ws.length ≤ 1000
theorem BadL.free {y : Str} (h : BadL y) : 10 ∉ tl y := by
  obtain ⟨ws, h1, rfl, h2, h3, h4, h5⟩ := h
  rw [tl_jn, tl_spc]
  intro q
  rcases mem_joinL q with q | ⟨w, hw, q⟩
  · cases q
  · obtain ⟨z, hz, rfl⟩ := List.mem_map.mp hw
    exact (h2 z hz).2 q
theorem BadL.words {y : Str} (h : BadL y) : ∃ w ∈ Txt.split y spc, numB w = false := by
  obtain ⟨ws, h1, rfl, h2, h3, h4, h5⟩ := h
  rw [jn_split tl_spc (by decide +kernel) h1 fun w hw => (h2 w hw).1]
  exact h3
end Hm
namespace Hm
open PySem PySem.Spec PyProof.Rows L2 Evl TL
/-! ### walks over new lists -/
section
variable {K : PySem.W.Frag} {σ : L2.St} {H : Hp} {D : Ends} {tz tu : TS} {tl te : TE}
theorem q_forEn {p : Addr} {xs : List V} {j1 j2 : Nat} (h : Ev tl σ H (.ref p)) (hx : SqL K H p xs) (Pv : Nat → L2.St → Hp → Prop) (h0 : ∀ H1, Ex H H1 → Pv 0 σ H1) (hl : ∀ i σ' H', i ≤ xs.length → Pv i σ' H' → SqL K H' p xs)
    (hs : ∀ i σ' H' x, xs[i]? = some x → Pv i σ' H' → ∀ H2, Ex H' H2 → tu { D with nx := Pv (i + 1), ct := Pv (i + 1), bk := tz D } ((σ'.set j1 (some (vi i))).set j2 (some x)) H2) (hd : ∀ σ' H', Pv xs.length σ' H' → tz D σ' H') :
    tSeq (tFor (iEnum K (tCons tl tNil)) (gTup K 2 (gCons (gName j1) (gCons (gName j2) gNil))) tu) tz D σ H :=
  h H (Ex.refl H) _ fun H1 e1 => ⟨p, xs, rfl, ex_l e1 hx, for_it (walk_enum (xs := xs)) Pv (h0 H1 e1) (fun i σ' H' hi q => hl i σ' H' hi q) (fun i x σ' H2 H3 hi q y => by
    obtain ⟨T, x1, x2, rfl, hT, rfl, e2, e3⟩ := y
    have e2 : vi i = x1 := Option.some.inj e2
    have e3 : xs[i]? = some x2 := e3
    subst e2
    exact ⟨T, [vi i, x2], rfl, .inl (.inl upd_same), rfl, vi i, [x2], rfl, x2, [], rfl, rfl, hs i σ' H2 x2 e3 q _ (Ex.new hT)⟩) hd⟩
theorem q_enN {xs : List V} {g : TG} (h : EvL tl σ H xs) (k : ∀ p H1, H p = none → Ex H H1 → H1 p = some (.lst xs) → tSeq (tFor (iEnum K (tCons (tC (.ref p)) tNil)) g tu) tz D σ H1) : tSeq (tFor (iEnum K (tCons tl tNil)) g tu) tz D σ H :=
  h H (Ex.refl H) _ fun p H1 hp e1 h1 => k p H1 hp e1 h1
theorem el_lcLL {xss : List (List Nat)} {j : Nat} {vs : List Nat} (v : Nat → V) (h : EvLL tl σ H xss) (hz : xss.length ≤ 40000) (hw : ∀ x, wipe ((wipe σ vs).set j (some x)) vs = wipe σ vs)
    (he : ∀ (i : Nat) (hi : i < xss.length) a H1, Ex H H1 → H1 a = some (.lst (L (xss[i]'hi))) → Ev te ((wipe σ vs).set j (some (.ref a))) H1 (v i)) : EvL (tLc (iList K tl) (gName j) tYes te vs) σ H ((List.range xss.length).map v) := fun H1 e Q q =>
  h H1 e _ fun p H2 hp e2 hl => by
    obtain ⟨as, hps, la, hfr⟩ := hl
    have hlen : as.length = xss.length := Paired.length la
    have := el_lcL (K := K) (σ := σ) (H := H2) (j := j) (vs := vs) (tl := tC (.ref p)) (t := tYes) (te := te) (a := p) (xs := as.map V.ref) (fun _ => true) v ev_c (sq_of hps) (by rw [List.length_map]; omega) hw (fun i x H3 _ _ => et_yes) (fun i x H3 e3 hx _ => by
      rw [List.getElem?_map] at hx
      cases ea : as[i]? with
      | none =>
        rw [ea] at hx
        cases hx
      | some a =>
        rw [ea] at hx
        have hx : V.ref a = x := Option.some.inj hx
        subst hx
        have hi : i < xss.length := by
          have := (List.getElem?_eq_some_iff.mp ea).1
          omega
        refine he i hi a H3 ((e.trans e2).trans e3) (e3 _ _ ?_)
        have key : ∀ {as : List Addr} {xss : List (List Nat)}, LA H2 as xss → ∀ (i : Nat) (h : i < xss.length) (a : Addr), as[i]? = some a → H2 a = some (.lst (L (xss[i]'h))) := by
          intro as xss la
          induction la with
          | nil => intro i h; exact absurd h (Nat.not_lt_zero _)
          | @cons a x as xs r q ih =>
            intro i h b hb
            cases i with
            | zero =>
              cases hb
              exact r
            | succ i => exact ih i (Nat.lt_of_succ_lt_succ h) b hb
        exact key la i hi a ea)
    rw [given_all, List.length_map, hlen] at this
    exact this H2 (Ex.refl H2) Q fun p' H3 hp' e3 h3 => q p' H3 (fresh_back e2 hp') (e2.trans e3) h3
end
theorem range_map_get {α β : Type} (l : List α) (f : α → β) (v : Nat → β) (h : ∀ (i : Nat) (hi : i < l.length), v i = f (l[i]'hi)) : (List.range l.length).map v = l.map f := by
  refine List.ext_getElem? fun j => ?_
  rw [List.getElem?_map, List.getElem?_map]
  by_cases hj : j < l.length
  · rw [List.getElem?_range hj, List.getElem?_eq_getElem hj]
    show some (v j) = some _
    rw [h j hj]
  · rw [List.getElem?_eq_none (by rw [List.length_range]; omega), List.getElem?_eq_none (by omega)]
    rfl
/-! ### the text of a mesh -/
def sp_BadLineinit := spNI "BadLine" "line"
abbrev nm_BadLineinit : List Str := ["self", "line", "__class__"]
abbrev pr_BadLineinit : List Str := ["self", "line"]
def a_BadLineinit (K : PySem.W.Frag) : TA := (tCons (tFs [(tC (.str "line ")), (tFmt (tVar 1)), (tC (.str " is wrong"))]) tNil)
def t_BadLineinit (K : PySem.W.Frag) : TS :=
  (tOst K "line" (tVar 0) (tVar 1))
theorem ln_BadLineinit {K : PySem.W.Frag} (vs : List V) (H : Hp) (Q : VK) (E : XK) (h : sp_BadLineinit K vs H Q E) : vs.length = pr_BadLineinit.length := by
  obtain ⟨_, _, rfl, _⟩ := h
  rfl
theorem go_BadLine {K : PySem.W.Frag} (T : OexC K (He.ga K "BadLine")) (hno : NoAttr K (He.ga K "BadLine") "line") (vs : List V) (H : Hp) (Q : VK) (E : XK) (h : sp_BadLineinit K vs H Q E) : GoE (He.ga K "BadLine") ["self", "line", "__class__"] (a_BadLineinit K) (t_BadLineinit K) vs H Q := by
  obtain ⟨x, i, rfl, hx, hi, k⟩ := h
  refine ⟨x, rfl, hx, sup_arg (x := x) (σ := [some (.ref x), some (.int i), none]) (fC (by decide) (fI rfl hi (fC (by decide) .nil))) (by decide) hx fun H1 e1 => ?_⟩
  exact s_ost1 (x := x) (y := .int i) T hno rfl (ExO.of e1) (e1 _ _ hx) (ev_var rfl) fun H' e r _ => k H' e r
/-- ' '.join([str(x) for x in a]) -/
theorem ev_line {K : PySem.W.Frag} {σ : L2.St} {H : Hp} {tl : TE} {j : Nat} {vs : List Nat} {a : Addr} {ns : List Nat} (h : Ev tl σ H (.ref a)) (hS : SqL K H a (L ns)) (hl : ns.length ≤ 1000) (hb : ∀ n ∈ ns, n < 10000) (hw : ∀ x, wipe ((wipe σ vs).set j (some x)) vs = wipe σ vs) (hj : ∀ x, ((wipe σ vs).set j (some x))[j]? = some (some x)) :
    Ev (tM1 (rJoin K) (tC (.str " ")) (tLc (iList K tl) (gName j) tYes (tCB cStr (tCons (tVar j) tNil)) vs)) σ H (.str (lineOf ns)) := by
  have := el_lcL (K := K) (σ := σ) (H := H) (j := j) (vs := vs) (tl := tl) (t := tYes) (te := tCB cStr (tCons (tVar j) tNil)) (fun _ => true) (fun i => V.str (num (fn ns i))) h hS (by rw [L_len]; omega) hw (fun i x H1 _ _ => et_yes) (fun i x H1 _ hx _ => by
    obtain ⟨q1, rfl⟩ := L_item hx
    have hn : fn ns i < 10000 := hb _ (fn_mem q1)
    exact ev_cb (ea_1 (ev_var (hj _))) (rc_str (by
      have h1 : ((fn ns i : Nat) : Int).natAbs = fn ns i := Int.natAbs_natCast _
      rw [h1]
      by_cases h0 : fn ns i = 0
      · rw [h0]; decide
      · have := (Nat.log2_lt (k := 14) h0).mpr (by have : (2 : Nat) ^ 14 = 16384 := by decide
                                                   omega)
        omega)))
  rw [given_all, L_len, range_map_get ns (fun n => V.str (num n)) _ (fun i hi => by
    show V.str (num (fn ns i)) = _
    have h3 := fn_get hi
    rw [List.getElem?_eq_getElem hi] at h3
    rw [Option.some.inj h3])] at this
  have e : ns.map (fun n => V.str (num n)) = (ns.map num).map V.str := by rw [List.map_map]; rfl
  rw [e] at this
  refine ev_joinL ev_c this ?_
  have := sum_len (ws := ns.map num) (B := 4) fun w hw => by
    obtain ⟨n, hn, rfl⟩ := List.mem_map.mp hw
    exact num_len (hb n hn)
  rw [List.length_map] at this ⊢
  have h1 : (" " : Str).length = 1 := rfl
  rw [h1]
  omega
theorem cyc_small {ns : List Nat} (hM : MP ns) {b : Bool} {f : List Nat} (h : f ∈ cyc ns b) : f.length ≤ 1000 ∧ ∀ n ∈ f, n < 10000 := by
  have hP := pf_stp hM.p hM.two b
  unfold cyc cycs at h
  obtain ⟨s, hs, rfl⟩ := List.mem_map.mp h
  have hs := List.mem_range.mp (List.mem_filter.mp hs).1
  have hl := hM.len
  refine ⟨?_, fun n hn => ?_⟩
  · rw [rnd_length]
    have := (per_spec hP hs).2.1
    omega
  · have := rnd_lt hP hs hn
    omega
def sp_Meshtext (K : PySem.W.Frag) : Sp := fun vs H Q _ => ∃ (x : Addr) (ns : List Nat), vs = [.ref x] ∧ MeshAt K H x ns ∧ MP ns ∧ ∀ H', Ex H H' → Q (.str (textOf (cyc ns true))) H'
abbrev nm_Meshtext : List Str := ["self", "face", "half"]
abbrev pr_Meshtext : List Str := ["self"]
def t_Meshtext (K : PySem.W.Frag) : TS :=
  (tRet (tM1 (rJoin K) (tC (.str "\n")) (tLc (iList K (tMeth (He.ga K "Mesh") "faces" (sp_Meshfaces K) [] E0 (tVar 0) tNil)) (gName 1) tYes (tM1 (rJoin K) (tC (.str " ")) (tLc (iList K (tVar 1)) (gName 2) tYes (tCB cStr (tCons (tVar 2) tNil)) [2])) [1])))
abbrev Wt_Meshtext (K : PySem.W.Frag) (vs : List V) (H : Hp) (Q : VK) : Prop := t_Meshtext K { nx := fun _ H' => Q .non H', rt := Q } (start nm_Meshtext vs) H
theorem ln_Meshtext {K : PySem.W.Frag} (vs : List V) (H : Hp) (Q : VK) (E : XK) (h : sp_Meshtext K vs H Q E) : vs.length = pr_Meshtext.length := by
  obtain ⟨_, _, rfl, _⟩ := h
  rfl
theorem text_size {gs : List (List Nat)} (h : gs.length ≤ 1000) (h2 : ∀ g ∈ gs, g.length ≤ 1000 ∧ ∀ n ∈ g, n < 10000) : ((gs.map lineOf).map (·.length)).sum + (gs.map lineOf).length * nl.length ≤ 16777216 := by
  have := sum_len (ws := gs.map lineOf) (B := 5000) fun w hw => by
    obtain ⟨g, hg, rfl⟩ := List.mem_map.mp hw
    have h3 := line_len (h2 g hg).2
    have := (h2 g hg).1
    omega
  rw [List.length_map] at this ⊢
  have h1 : nl.length = 1 := rfl
  rw [h1]
  omega
theorem rd_Meshtext {K : PySem.W.Frag} (F : KF K) (vs : List V) (H : Hp) (Q : VK) (E : XK) (h : sp_Meshtext K vs H Q E) : Wt_Meshtext K vs H Q := by
  obtain ⟨x, ns, rfl, m, hM, k⟩ := h
  show t_Meshtext K _ [some (.ref x), none, none] H
  have hc := el_lcLL (K := K) (σ := [some (.ref x), none, none]) (H := H) (tl := tMeth (He.ga K "Mesh") "faces" (sp_Meshfaces K) [] E0 (tVar 0) tNil) (j := 1) (vs := [1]) (te := tM1 (rJoin K) (tC (.str " ")) (tLc (iList K (tVar 1)) (gName 2) tYes (tCB cStr (tCons (tVar 2) tNil)) [2])) (fun i => V.str (lineOf ((cyc ns true).getD i []))) (ell_mm m (ev_var rfl) (by decide +kernel) ea_nil (spll_faces m hM)) (by have := cyc_len hM true; omega) (fun _ => rfl) (fun i hi a H1 e1 ha => by
    have hg := cyc_small hM (List.getElem_mem hi)
    have := ev_line (K := K) (σ := [some (.ref x), some (.ref a), none]) (j := 2) (vs := [2]) (tl := tVar 1) (ev_var rfl) (sq_of ha) hg.1 hg.2 (fun _ => rfl) (fun _ => rfl)
    rw [show (cyc ns true).getD i [] = (cyc ns true)[i]'hi from by rw [List.getD_eq_getElem?_getD, List.getElem?_eq_getElem hi]; rfl]
    exact this)
  rw [range_map_get (cyc ns true) (fun g => V.str (lineOf g)) _ (fun i hi => by
    rw [List.getD_eq_getElem?_getD, List.getElem?_eq_getElem hi]
    rfl)] at hc
  have e : (cyc ns true).map (fun g => V.str (lineOf g)) = ((cyc ns true).map lineOf).map V.str := by rw [List.map_map]; rfl
  rw [e] at hc
  exact s_ret (ev_joinL ev_c hc (text_size (cyc_len hM true) fun g hg => cyc_small hM hg)) (fun H1 e1 => k H1 e1)
def sp_isnumber (K : PySem.W.Frag) : Sp := fun vs H Q _ => ∃ w : Str, vs = [.str w] ∧ w.length ≤ 100000 ∧ ∀ H', Ex H H' → Q (.bl (numB w)) H'
abbrev nm_isnumber : List Str := ["word"]
abbrev pr_isnumber : List Str := ["word"]
def t_isnumber (K : PySem.W.Frag) : TS :=
  (tSeq (tIfS (tOr (tNot (tB (tM0 rIsascii (tVar 0)))) (tOr (tNot (tB (tM0 rIsdigit (tVar 0)))) (tTest (tOp zGt (tCB cLenS (tCons (tVar 0) tNil)) (tC (.int 4)))))) (tRet (tC (.bl false))) tNext)
  (tRet (tOrV (tOp rEq (tVar 0) (tC (.str "0"))) (tNotV (tM1 rStarts (tVar 0) (tC (.str "0")))))))
abbrev Wt_isnumber (K : PySem.W.Frag) (vs : List V) (H : Hp) (Q : VK) : Prop := t_isnumber K { nx := fun _ H' => Q .non H', rt := Q } (start nm_isnumber vs) H
theorem ln_isnumber {K : PySem.W.Frag} (vs : List V) (H : Hp) (Q : VK) (E : XK) (h : sp_isnumber K vs H Q E) : vs.length = pr_isnumber.length := by
  obtain ⟨_, rfl, _⟩ := h
  rfl
theorem rd_isnumber {K : PySem.W.Frag} (F : KF K) (vs : List V) (H : Hp) (Q : VK) (E : XK) (h : sp_isnumber K vs H Q E) : Wt_isnumber K vs H Q := by
  obtain ⟨w, rfl, hw, k⟩ := h
  show t_isnumber K _ [some (.str w)] H
  refine q_when (et_or (et_not (et_B (ev_isascii (ev_var rfl)))) (fun _ => et_or (et_not (et_B (ev_isdigit (ev_var rfl)))) (fun _ => et_is (et_test (ev_op (ev_cb (ea_1 (ev_var rfl)) (rc_lenS hw)) ev_c rv_I0)) (show _ = decide (4 < w.length) from decide_eq_decide.mpr (by omega))))) (fun hb H1 e1 => ?_) (fun hb H1 e1 => ?_)
  · refine s_ret ev_c (fun H2 e2 => ?_)
    have : numB w = false := by
      unfold numB
      rw [if_pos]
      simpa using hb
    rw [← this]
    exact k H2 (e1.trans e2)
  · refine s_ret (ev_orV (ev_op (ev_var rfl) ev_c (rv_eq rfl)) (fun _ => ev_notV (ev_starts (ev_var rfl) ev_c))) (fun H2 e2 => ?_)
    have : numB w = (decide (V.str w = V.str "0") || !(Txt.startswith w "0")) := by
      unfold numB
      rw [if_neg (by rw [Bool.not_eq_true]; simpa using hb)]
      congr 1
      exact decide_eq_decide.mpr ⟨fun q => by rw [q], fun q => V.str.inj q⟩
    rw [← this]
    exact k H2 (e1.trans e2)
theorem spv_isnumber {K : PySem.W.Frag} {H : Hp} {w : Str} (hw : w.length ≤ 100000) : SpV (sp_isnumber K) [.str w] H (.bl (numB w)) := fun H1 _ Q q E => ⟨w, rfl, hw, q⟩
end Hm
namespace Hm
open PySem PySem.Spec PyProof.Rows L2 Evl TL
theorem LA.at {H : Hp} {as : List Addr} {xss : List (List Nat)} (la : LA H as xss) : ∀ (i : Nat) (h : i < xss.length), ∃ a, as[i]? = some a ∧ H a = some (.lst (L (xss[i]'h))) := by
  induction la with
  | nil => intro i h; exact absurd h (Nat.not_lt_zero _)
  | @cons a x as xs r q ih =>
    intro i h
    cases i with
    | zero => exact ⟨a, rfl, r⟩
    | succ i => exact ih i (Nat.lt_of_succ_lt_succ h)
theorem LA.len {H : Hp} {as : List Addr} {xss : List (List Nat)} (la : LA H as xss) : as.length = xss.length := Paired.length la
theorem L_take_succ {g : List Nat} {j : Nat} (h : j < g.length) : L (g.take j) ++ [vi (g[j]'h)] = L (g.take (j + 1)) := by
  rw [List.take_succ_eq_append_getElem h, L_app]
  rfl
theorem flat_succ {gs : List (List Nat)} {i : Nat} (h : i < gs.length) : (gs.take (i + 1)).flatten = (gs.take i).flatten ++ gs[i]'h := by
  rw [List.take_succ_eq_append_getElem h, List.flatten_append]
  simp
theorem yes_go {σ : L2.St} {H : Hp} {A B : Hp → Prop} (a : A H) : tYes σ H (fun b H3 => if b = true then A H3 else B H3) := by
  show (if true = true then A H else B H)
  rw [if_pos rfl]
  exact a
section
variable {K : PySem.W.Frag} {σ : L2.St} {H : Hp} {tl : TE}
theorem el_flat {p : Addr} {gs : List (List Nat)} {j1 j2 : Nat} {vs : List Nat} (h : Ev tl σ H (.ref p)) (hL : LL H p gs) (hz : gs.flatten.length ≤ 90000) (hw1 : ∀ x, wipe ((wipe σ vs).set j1 (some x)) vs = wipe σ vs) (hj1 : ∀ x, ((wipe σ vs).set j1 (some x))[j1]? = some (some x))
    (hw2 : ∀ x y, wipe ((wipe ((wipe σ vs).set j1 (some x)) [j2]).set j2 (some y)) [j2] = wipe ((wipe σ vs).set j1 (some x)) [j2]) (hj2 : ∀ x y, ((wipe ((wipe σ vs).set j1 (some x)) [j2]).set j2 (some y))[j2]? = some (some y)) :
    EvL (tLc2 (iList K tl) (gName j1) tYes (iList K (tVar j1)) (gName j2) tYes (tVar j2) vs [j2]) σ H (L gs.flatten) := fun H0 e0 Q q => h H0 e0 _ fun H1 e1 => by
  obtain ⟨as, hps, la⟩ := hL.ex (e0.trans e1)
  have hlen := la.len
  refine ⟨p, rfl, ⟨_, sq_of hps⟩, fun D hD => ⟨fun i m H' => m = gs.length - i ∧ i ≤ gs.length ∧ H' D = some (.lst (L (gs.take i).flatten)) ∧ Ex H1 H', ⟨gs.length, by simp, Nat.zero_le _, by rw [upd_same]; rfl, Ex.new hD⟩, ?_⟩⟩
  rintro i m H2 ⟨rfl, hi, hd, ex⟩
  by_cases hlt : i < gs.length
  · obtain ⟨a, ha, hga⟩ := la.at i hlt
    have hpi : (as.map V.ref)[i]? = some (.ref a) := by rw [List.getElem?_map, ha]; rfl
    refine .inr ⟨⟨_, .ref a, ex_l ex (sq_of hps), hpi⟩, fun H' => i + 1 ≤ gs.length ∧ H' D = some (.lst (L (gs.take (i + 1)).flatten)) ∧ Ex H1 H', fun H' z => ⟨gs.length - (i + 1), by omega, rfl, z⟩, fun x H3 y => ?_⟩
    obtain ⟨rfl, y⟩ := y
    have ex' : x = .ref a := by
      have := y _ (ex_l ex (sq_of hps))
      rw [hpi] at this
      exact (Option.some.inj this).symm
    subst ex'
    refine ⟨hw1 _, ?_⟩
    refine yes_go ?_
    have hzi : (gs.take i).flatten.length + (gs[i]'hlt).length ≤ 90000 := by
      have h1 : (gs.take (i + 1)).flatten.length ≤ gs.flatten.length := by
        have h2 : gs.flatten = (gs.take (i + 1)).flatten ++ (gs.drop (i + 1)).flatten := by rw [← List.flatten_append, List.take_append_drop]
        rw [h2, List.length_append]
        omega
      rw [flat_succ hlt, List.length_append] at h1
      omega
    refine ⟨.ref a, hj1 _, a, rfl, ⟨_, sq_of (ex _ _ hga)⟩, ?_⟩
    refine ⟨fun j k H' => k = (gs[i]'hlt).length - j ∧ j ≤ (gs[i]'hlt).length ∧ H' D = some (.lst (L ((gs.take i).flatten ++ (gs[i]'hlt).take j))) ∧ Ex H1 H', ⟨(gs[i]'hlt).length, by simp, Nat.zero_le _, by rw [hd]; simp, ex⟩, ?_⟩
    rintro j k H4 ⟨rfl, hj, hd4, ex4⟩
    by_cases hjl : j < (gs[i]'hlt).length
    · have hgj : (L (gs[i]'hlt))[j]? = some (vi ((gs[i]'hlt)[j]'hjl)) := by
        unfold L
        rw [List.getElem?_map, List.getElem?_eq_getElem hjl]
        rfl
      refine .inr ⟨⟨_, _, sq_of (ex4 _ _ hga), hgj⟩, fun H' => j + 1 ≤ (gs[i]'hlt).length ∧ H' D = some (.lst (L ((gs.take i).flatten ++ (gs[i]'hlt).take (j + 1)))) ∧ Ex H1 H', fun H' z => ⟨(gs[i]'hlt).length - (j + 1), by omega, rfl, z⟩, fun x H5 y => ?_⟩
      obtain ⟨rfl, y⟩ := y
      have ey : x = vi ((gs[i]'hlt)[j]'hjl) := by
        have := y _ (sq_of (ex4 _ _ hga))
        rw [hgj] at this
        exact (Option.some.inj this).symm
      subst ey
      refine ⟨hw2 _ _, ?_⟩
      refine yes_go ?_
      refine ⟨_, hj2 _ _, _, hd4, sz_lt (by rw [L_len, List.length_append, List.length_take]; omega), hjl, ?_, Ex.mut ex4 hD⟩
      rw [upd_same, L_app, List.append_assoc, L_take_succ hjl, ← L_app]
    · have ej : j = (gs[i]'hlt).length := by omega
      subst ej
      refine .inl ⟨⟨_, sq_of (ex4 _ _ hga), by rw [L_len]; exact Nat.le_refl _⟩, hlt, ?_, ex4⟩
      rw [hd4, List.take_length, flat_succ hlt]
  · have ei : i = gs.length := by omega
    subst ei
    refine .inl ⟨⟨_, ex_l ex (sq_of hps), by rw [List.length_map, hlen]; exact Nat.le_refl _⟩, ?_⟩
    rw [List.take_length] at hd
    exact q D H2 (fresh_back e1 hD) (e1.trans ex) hd
end
/-! ### reading the faces -/
def GoodG (g : List Nat) : Prop := g ≠ [] ∧ g.length ≤ 1000 ∧ ∀ n ∈ g, n < 10000
def lineP (gs : List (List Nat)) (rest : List Str) : List Str := gs.map lineOf ++ rest
def FacesIn (text : Str) (gs : List (List Nat)) (rest : List Str) : Prop := text = jn nl (lineP gs rest) ∧ lineP gs rest ≠ [] ∧ text.length ≤ 90000 ∧ (∀ g ∈ gs, GoodG g) ∧ gs.length ≤ 1000 ∧ (∀ l ∈ rest, 10 ∉ tl l) ∧ (∀ y r, rest = y :: r → BadL y)
theorem FacesIn.split {text : Str} {gs : List (List Nat)} {rest : List Str} (h : FacesIn text gs rest) : Txt.split text nl = lineP gs rest := by
  obtain ⟨rfl, h1, _, _, _, h2, _⟩ := h
  refine jn_split tl_nl (by decide +kernel) h1 fun w hw => ?_
  unfold lineP at hw
  rcases List.mem_append.mp hw with hw | hw
  · obtain ⟨g, _, rfl⟩ := List.mem_map.mp hw
    exact line_free g
  · exact h2 w hw
def sp_readfaces (K : PySem.W.Frag) : Sp := fun vs H Q E => ∃ (text : Str) (gs : List (List Nat)) (rest : List Str), vs = [.str text] ∧ FacesIn text gs rest ∧
  (rest = [] → ∀ p H', H p = none → Ex H H' → LLn H H' p gs → Q (.ref p) H') ∧ (rest ≠ [] → ∀ H' d, Ex H H' → H d = none → H' d = some (.xd [("line", .int ((gs.length + 1 : Nat) : Int))]) → E (.ref (He.ga K "BadLine")) (some d) H')
abbrev nm_readfaces : List Str := ["text", "faces", "at", "line", "words", "word"]
abbrev pr_readfaces : List Str := ["text"]
def t_readfaces (K : PySem.W.Frag) (E : XK) : TS :=
  (tSeq (tAsg (tLst tNil) (gName 1))
  (tSeq (tFor (iEnum K (tCons (tM1 rSplit (tVar 0) (tC (.str "\n"))) tNil)) (gTup K 2 (gCons (gName 2) (gCons (gName 3) gNil))) (tSeq (tAsg (tM1 rSplit (tVar 3) (tC (.str " "))) (gName 4))
      (tSeq (tIfS (tNot (tB (tCB (rAll K) (tCons (tLc (iList K (tVar 4)) (gName 5) tYes (tCall (sp_isnumber K) [] E0 (tCons (tVar 5) tNil)) [5]) tNil)))) (tRzO (He.ga K "BadLine") (sp_BadLineinit K) (tCons (tOp zAdd (tVar 2) (tC (.int 1))) tNil) E) tNext)
      (tDrop (tBM K "list" rAppend (tVar 1) (tCons (tLc (iList K (tVar 4)) (gName 5) tYes (tCB cIntS (tCons (tVar 5) tNil)) [5]) tNil))))))
  (tRet (tVar 1))))
abbrev Wt_readfaces (K : PySem.W.Frag) (vs : List V) (H : Hp) (Q : VK) (E : XK) : Prop := t_readfaces K E { nx := fun _ H' => Q .non H', rt := Q } (start nm_readfaces vs) H
theorem ln_readfaces {K : PySem.W.Frag} (vs : List V) (H : Hp) (Q : VK) (E : XK) (h : sp_readfaces K vs H Q E) : vs.length = pr_readfaces.length := by
  obtain ⟨_, _, _, rfl, _⟩ := h
  rfl
theorem el_words {K : PySem.W.Frag} {σ : L2.St} {H : Hp} {p : Addr} {ws : List Str} {ti : Nat} {j : Nat} {vs : List Nat} (hv : σ[ti]? = some (some (.ref p))) (h : H p = some (.lst (ws.map V.str))) (hl : ws.length ≤ 40000) (hb : ∀ w ∈ ws, w.length ≤ 100000) (hw : ∀ x, wipe ((wipe σ vs).set j (some x)) vs = wipe σ vs) (hj : ∀ x, ((wipe σ vs).set j (some x))[j]? = some (some x)) :
    EvL (tLc (iList K (tVar ti)) (gName j) tYes (tCall (sp_isnumber K) [] E0 (tCons (tVar j) tNil)) vs) σ H ((ws.map numB).map V.bl) := by
  have := el_lcL (K := K) (σ := σ) (H := H) (j := j) (vs := vs) (tl := tVar ti) (t := tYes) (te := tCall (sp_isnumber K) [] E0 (tCons (tVar j) tNil)) (fun _ => true) (fun i => V.bl (numB (ws.getD i ""))) (ev_var hv) (sq_of h) (by rw [List.length_map]; exact hl) hw (fun i x H1 _ _ => et_yes) (fun i x H1 _ hx _ => by
    rw [List.getElem?_map] at hx
    cases ew : ws[i]? with
    | none =>
      rw [ew] at hx
      cases hx
    | some w =>
      rw [ew] at hx
      have hx : V.str w = x := Option.some.inj hx
      subst hx
      rw [show ws.getD i "" = w from by rw [List.getD_eq_getElem?_getD, ew]; rfl]
      exact ev_call (ea_1 (ev_var (hj _))) (spv_isnumber (hb w (List.mem_of_getElem? ew))))
  rw [given_all, List.length_map, range_map_get ws (fun w => V.bl (numB w)) _ (fun i hi => by rw [List.getD_eq_getElem?_getD, List.getElem?_eq_getElem hi]; rfl)] at this
  rw [List.map_map]
  exact this
theorem el_ints {K : PySem.W.Frag} {σ : L2.St} {H : Hp} {p : Addr} {g : List Nat} {ti : Nat} {j : Nat} {vs : List Nat} (hv : σ[ti]? = some (some (.ref p))) (h : H p = some (.lst ((g.map num).map V.str))) (hg : GoodG g) (hw : ∀ x, wipe ((wipe σ vs).set j (some x)) vs = wipe σ vs) (hj : ∀ x, ((wipe σ vs).set j (some x))[j]? = some (some x)) :
    EvL (tLc (iList K (tVar ti)) (gName j) tYes (tCB cIntS (tCons (tVar j) tNil)) vs) σ H (L g) := by
  have := el_lcL (K := K) (σ := σ) (H := H) (j := j) (vs := vs) (tl := tVar ti) (t := tYes) (te := tCB cIntS (tCons (tVar j) tNil)) (fun _ => true) (fun i => vi (g.getD i 0)) (ev_var hv) (sq_of h) (by rw [List.length_map, List.length_map]; have := hg.2.1; omega) hw (fun i x H1 _ _ => et_yes) (fun i x H1 _ hx _ => by
    rw [List.getElem?_map, List.getElem?_map] at hx
    cases ew : g[i]? with
    | none =>
      rw [ew] at hx
      cases hx
    | some n =>
      rw [ew] at hx
      have hx : V.str (num n) = x := Option.some.inj hx
      subst hx
      rw [show g.getD i 0 = n from by rw [List.getD_eq_getElem?_getD, ew]; rfl]
      have hn := hg.2.2 n (List.mem_of_getElem? ew)
      exact ev_cb (ea_1 (ev_var (hj _))) (rc_intS (int_of_num hn) (by have := num_len hn; omega)))
  rw [given_all, List.length_map, List.length_map, range_map_get g vi _ (fun i hi => by rw [List.getD_eq_getElem?_getD, List.getElem?_eq_getElem hi]; rfl)] at this
  exact this
theorem all_num {g : List Nat} (hg : GoodG g) : ((g.map num).map numB).all id = true := by
  rw [List.all_eq_true]
  intro b hb
  obtain ⟨w, hw, rfl⟩ := List.mem_map.mp hb
  obtain ⟨n, hn, rfl⟩ := List.mem_map.mp hw
  exact numB_num (hg.2.2 n hn)
theorem not_all {ws : List Str} (h : ∃ w ∈ ws, numB w = false) : (ws.map numB).all id = false := by
  obtain ⟨w, hw, h⟩ := h
  rw [Bool.eq_false_iff]
  intro q
  have := List.all_eq_true.mp q _ (List.mem_map.mpr ⟨w, hw, rfl⟩)
  rw [h] at this
  cases this
theorem rd_readfaces {K : PySem.W.Frag} (vs : List V) (H : Hp) (Q : VK) (E : XK) (h : sp_readfaces K vs H Q E) : Wt_readfaces K vs H Q E := by
  obtain ⟨text, gs, rest, rfl, hF, kq, ke⟩ := h
  have hsp := hF.split
  obtain ⟨-, hne, hz, hg, hgl, hfr, hbad⟩ := id hF
  show t_readfaces K E _ [some (.str text), none, none, none, none, none] H
  refine q_asgL (el_lst ea_nil (Nat.zero_le _)) (fun p0 H1 hp0 e1 h1 => ?_)
  refine q_enN (xs := (lineP gs rest).map V.str) (by have := el_split (σ := [some (.str text), some (.ref p0), none, none, none, none]) (H := H1) (ta := tVar 0) (tb := tC (.str "\n")) (a := text) (b := "\n") (ev_var rfl) ev_c (by decide +kernel) hz; rw [hsp] at this; exact this) (fun pl H2 hpl e2 h2 => ?_)
  have hp02 : H1 p0 = some (.lst []) := h1
  refine q_forEn ev_c (sq_of h2) (fun i σ' H' => ∃ (as : List Addr) (v2 v3 v4 : Option V), σ' = [some (.str text), some (.ref p0), v2, v3, v4, none] ∧ i ≤ gs.length ∧ H' p0 = some (.lst (as.map V.ref)) ∧ LA H' as (gs.take i) ∧ (∀ a ∈ as, H a = none ∧ a ≠ p0) ∧ Ex H H' ∧ H' pl = some (.lst ((lineP gs rest).map V.str)))
    (fun H' e => ⟨[], _, _, _, rfl, Nat.zero_le _, e _ _ (e2 _ _ h1), .nil, (fun a ha => nomatch ha), (e1.trans e2).trans e, e _ _ h2⟩) (fun i σ' H' _ q => by
      obtain ⟨as, v2, v3, v4, rfl, _, _, _, _, _, q⟩ := q
      exact sq_of q) ?_ ?_
  · rintro i σ' H' x hx ⟨as, v2, v3, v4, rfl, hi, ha, hla, hfa, ex, hpl'⟩ H3 e3
    rw [List.getElem?_map] at hx
    have hlen : as.length = i := by
      have := hla.len
      rw [List.length_take] at this
      omega
    by_cases hlt : i < gs.length
    · have hline : (lineP gs rest)[i]? = some (lineOf (gs[i]'hlt)) := by
        unfold lineP
        rw [List.getElem?_append_left (by rw [List.length_map]; exact hlt), List.getElem?_map, List.getElem?_eq_getElem hlt]
        rfl
      rw [hline] at hx
      have hx : V.str (lineOf (gs[i]'hlt)) = x := Option.some.inj hx
      subst hx
      have hgi := hg _ (List.getElem_mem hlt)
      refine q_asgL (xs := ((gs[i]'hlt).map num).map V.str) (by
        have := el_split (σ := [some (.str text), some (.ref p0), some (vi i), some (.str (lineOf (gs[i]'hlt))), v4, none]) (H := H3) (ta := tVar 3) (tb := tC (.str " ")) (a := lineOf (gs[i]'hlt)) (b := " ") (ev_var rfl) ev_c (by decide +kernel) (by have := line_len hgi.2.2; have := hgi.2.1; omega)
        rw [show Txt.split (lineOf (gs[i]'hlt)) " " = _ from line_words hgi.1] at this
        exact this) (fun pw H4 hpw e4 h4 => ?_)
      refine q_when (b := !true) (et_not (et_B (ev_cbN (el_words rfl h4 (by rw [List.length_map]; have := hgi.2.1; omega) (fun w hw => by
        obtain ⟨n, hn, rfl⟩ := List.mem_map.mp hw
        have := num_len (hgi.2.2 n hn)
        omega) (fun _ => rfl) (fun _ => rfl)) (fun p H5 hp e5 => by
          have := rc_all (K := K) (sq_of hp)
          rw [all_num hgi] at this
          exact this)))) (fun hb => nomatch hb) (fun _ H5 e5 => ?_)
      have e35 := (e3.trans e4).trans e5
      refine s_appL (xs := as.map V.ref) (e35 _ _ ha) (ev_var rfl) (el_ints rfl (e5 _ _ h4) hgi (fun _ => rfl) (fun _ => rfl)) (by rw [List.length_map]; omega) (fun pn H6 hpn e6 h6 => ?_)
      have hp0n : pn ≠ p0 := (ne_of_none (e35 _ _ ha) hpn).symm
      have hpn0 : H pn = none := fresh_back (ex.trans e35) hpn
      have eall := e35.trans e6
      refine ⟨as ++ [pn], _, _, _, rfl, hlt, by rw [upd_same, List.map_append]; rfl, ?_, ?_, Ex.mut (ex.trans eall) hp0, ?_⟩
      · rw [List.take_succ_eq_append_getElem hlt]
        have hla2 : LA (L2.upd H6 p0 (.lst (as.map V.ref ++ [.ref pn]))) as (gs.take i) := (hla.ex eall).upd fun a ha2 => (hfa a ha2).2
        exact paired_snoc hla2 (by rw [upd_ne hp0n]; exact h6)
      · intro a ha2
        rcases List.mem_append.mp ha2 with ha2 | ha2
        · exact hfa a ha2
        · rw [List.mem_singleton.mp ha2]
          exact ⟨hpn0, hp0n⟩
      · have hplp : pl ≠ p0 := (ne_of_none h1 hpl).symm
        rw [upd_ne hplp]
        exact eall _ _ hpl'
    · have hie : i = gs.length := by omega
      subst hie
      obtain ⟨y, r, hr⟩ : ∃ y r, rest = y :: r := by
        cases hr : rest with
        | nil =>
          unfold lineP at hx
          rw [hr, List.append_nil, List.getElem?_eq_none (by rw [List.length_map]; exact Nat.le_refl _)] at hx
          cases hx
        | cons y r => exact ⟨y, r, rfl⟩
      have hline : (lineP gs rest)[gs.length]? = some y := by
        unfold lineP
        rw [hr, List.getElem?_append_right (by rw [List.length_map]; exact Nat.le_refl _), List.length_map, Nat.sub_self]
        rfl
      rw [hline] at hx
      have hx : V.str y = x := Option.some.inj hx
      subst hx
      have hb := hbad y r hr
      obtain ⟨ws, w1, w2, w3, w4, w5, w6⟩ := id hb
      have hsy : Txt.split y " " = ws := by
        rw [w2]
        exact jn_split tl_spc (by decide +kernel) w1 fun w hw => (w3 w hw).1
      have hyl : y.length ≤ 90000 := by
        have hm : y ∈ lineP gs rest := List.mem_of_getElem? hline
        have h9 : (tl text).length ≤ 90000 := by rw [← len_tl]; exact hz
        rw [hF.1, tl_jn, tl_nl] at h9
        have key : ∀ {l : List (List Nat)} {z : List Nat}, z ∈ l → z.length ≤ (joinL [10] l).length := by
          intro l
          induction l with
          | nil => intro z hz; cases hz
          | cons a t ih =>
            intro z hz
            cases t with
            | nil =>
              rw [List.mem_singleton.mp hz]
              exact Nat.le_refl _
            | cons b t =>
              have hj : joinL [10] (a :: b :: t) = a ++ ([10] ++ joinL [10] (b :: t)) := rfl
              rw [hj, List.length_append, List.length_append]
              rcases List.mem_cons.mp hz with rfl | hz
              · omega
              · have := ih hz
                omega
        have := key (l := (lineP gs rest).map tl) (z := tl y) (List.mem_map.mpr ⟨y, hm, rfl⟩)
        rw [len_tl]
        omega
      refine q_asgL (xs := ws.map V.str) (by
        have := el_split (σ := [some (.str text), some (.ref p0), some (vi gs.length), some (.str y), v4, none]) (H := H3) (ta := tVar 3) (tb := tC (.str " ")) (a := y) (b := " ") (ev_var rfl) ev_c (by decide +kernel) hyl
        rw [hsy] at this
        exact this) (fun pw H4 hpw e4 h4 => ?_)
      refine q_when (b := !false) (et_not (et_B (ev_cbN (el_words rfl h4 (by omega) (fun w hw => by have := w5 w hw; omega) (fun _ => rfl) (fun _ => rfl)) (fun p H5 hp e5 => by
          have := rc_all (K := K) (sq_of hp)
          rw [not_all w4] at this
          exact this)))) (fun _ H5 e5 => ?_) (fun hb => nomatch hb)
      refine rz_I (i := ((gs.length + 1 : Nat) : Int)) (ev_is (ev_op (ev_var rfl) ev_c rv_I0) (by show V.int _ = _; congr 1)) ?_ (fun H6 d e6 hd hd6 => ke (by rw [hr]; exact List.cons_ne_nil _ _) H6 d (((ex.trans e3).trans e4).trans (e5.trans e6)) (fresh_back (((ex.trans e3).trans e4).trans e5) hd) hd6)
      show ((gs.length + 1 : Nat) : Int).natAbs.log2 < 1900
      rw [Int.natAbs_natCast]
      have h11 : (2 : Nat) ^ 11 = 2048 := by decide
      have := (Nat.log2_lt (n := gs.length + 1) (k := 11) (by omega)).mpr (by omega)
      omega
  · rintro σ' H' ⟨as, v2, v3, v4, rfl, hi, ha, hla, hfa, ex, _⟩
    have hr : rest = [] := by
      cases hr : rest with
      | nil => rfl
      | cons y r =>
        rw [List.length_map] at hi
        unfold lineP at hi
        rw [hr, List.length_append, List.length_map] at hi
        simp only [List.length_cons] at hi
        omega
    refine s_ret (ev_var rfl) (fun H2 e2 => kq hr p0 H2 hp0 (ex.trans e2) ⟨as, e2 _ _ ha, ?_, hfa⟩)
    rw [List.length_map] at hla
    unfold lineP at hla
    rw [hr, List.append_nil, List.length_map, List.take_length] at hla
    exact hla.ex e2
end Hm
namespace Hm
open PySem PySem.Spec PyProof.Rows L2 Evl TL
theorem s_forEn {K : PySem.W.Frag} {σ : L2.St} {H : Hp} {D : Ends} {tu : TS} {tl : TE} {p : Addr} {xs : List V} {j1 j2 : Nat} (h : Ev tl σ H (.ref p)) (hx : SqL K H p xs) (Pv : Nat → L2.St → Hp → Prop) (h0 : ∀ H1, Ex H H1 → Pv 0 σ H1) (hl : ∀ i σ' H', i ≤ xs.length → Pv i σ' H' → SqL K H' p xs)
    (hs : ∀ i σ' H' x, xs[i]? = some x → Pv i σ' H' → ∀ H2, Ex H' H2 → tu { D with nx := Pv (i + 1), ct := Pv (i + 1), bk := D.nx } ((σ'.set j1 (some (vi i))).set j2 (some x)) H2) (hd : ∀ σ' H', Pv xs.length σ' H' → D.nx σ' H') :
    tFor (iEnum K (tCons tl tNil)) (gTup K 2 (gCons (gName j1) (gCons (gName j2) gNil))) tu D σ H := q_forEn (tz := fun D => D.nx) (D := D) h hx Pv h0 hl hs hd
/-- the place ahead, the last one ahead of the first -/
def prv (g : List Nat) (i : Nat) : Nat := if i = 0 then g.length - 1 else i - 1
theorem prv_lt {g : List Nat} {i : Nat} (h : i < g.length) : prv g i < g.length := by unfold prv; split <;> omega
theorem at_prv {g : List Nat} {i : Nat} (h : i < g.length) : atI (L g) ((i : Int) - 1) = some (vi (fn g (prv g i))) := by
  by_cases h0 : i = 0
  · subst h0
    have e : L g = L (g.take (g.length - 1)) ++ [vi (fn g (g.length - 1))] := by
      have h1 := L_take_succ (g := g) (j := g.length - 1) (by omega)
      rw [show g.length - 1 + 1 = g.length by omega, List.take_length] at h1
      rw [← h1]
      have h3 := fn_get (ns := g) (x := g.length - 1) (by omega)
      rw [List.getElem?_eq_getElem (by omega)] at h3
      rw [Option.some.inj h3]
    have hp : prv g 0 = g.length - 1 := by unfold prv; rw [if_pos rfl]
    rw [hp]
    rw [e]
    exact atI_last _ _
  · have hp : prv g i = i - 1 := by unfold prv; rw [if_neg h0]
    rw [hp]
    exact at_of (j := i - 1) (by omega) (L_get (by omega))
/-- a face as it is written: each one's next is the one behind it -/
def CycOk (ns g : List Nat) : Prop := ∀ i, i < g.length → fn ns (fn g (prv g i)) = fn g i
theorem prv_sur {g : List Nat} {m : Nat} (h : m < g.length) : ∃ i, i < g.length ∧ prv g i = m := by
  by_cases h1 : m + 1 < g.length
  · exact ⟨m + 1, h1, by unfold prv; rw [if_neg (by omega)]; omega⟩
  · exact ⟨0, by omega, by unfold prv; rw [if_pos rfl]; omega⟩
theorem fn_set {cur : List Nat} {a b j : Nat} (ha : a < cur.length) : fn (cur.set a b) j = if j = a then b else fn cur j := by
  unfold fn
  rw [List.getD_eq_getElem?_getD, List.getD_eq_getElem?_getD]
  by_cases h : j = a
  · subst h
    rw [if_pos rfl, List.getElem?_set_self ha]
    rfl
  · rw [if_neg h, List.getElem?_set_ne (Ne.symm h)]
def sp_readmesh (K : PySem.W.Frag) : Sp := fun vs H Q E => ∃ text : Str, vs = [.str text] ∧
  ((text = "" ∧ ∀ x H', H x = none → MeshN K H H' x [] → Ex H H' → Q (.ref x) H') ∨
   (text ≠ "" ∧ ∃ gs rest, FacesIn text gs rest ∧ gs.flatten.length ≤ 1000 ∧
    (rest = [] → (∃ ns, MP ns ∧ gs.flatten.Perm (List.range ns.length) ∧ (∀ g ∈ gs, CycOk ns g) ∧ ∀ x H', H x = none → MeshN K H H' x ns → Ex H H' → Q (.ref x) H') ∨ (¬ Good (L gs.flatten) ∧ ∀ H', Ex H H' → E (.ref (He.ga K "NotAMesh")) none H')) ∧
    (rest ≠ [] → ∀ H' d, Ex H H' → H d = none → H' d = some (.xd [("line", .int ((gs.length + 1 : Nat) : Int))]) → E (.ref (He.ga K "BadLine")) (some d) H')))
abbrev nm_readmesh : List Str := ["text", "faces", "numbers", "nexts", "face", "at", "half", "row", "number"]
abbrev pr_readmesh : List Str := ["text"]
def t_readmesh (K : PySem.W.Frag) (E : XK) : TS :=
  (tSeq (tIfS (tTest (tOp rEq (tVar 0) (tC (.str "")))) (tRet (tMake (He.ga K "Mesh") (sp_Meshinit K) [] E (tCons (tLst tNil) tNil))) tNext)
  (tSeq (tAsg (tCall (sp_readfaces K) [] E (tCons (tVar 0) tNil)) (gName 1))
  (tSeq (tAsg (tLc2 (iList K (tVar 1)) (gName 7) tYes (iList K (tVar 7)) (gName 8) tYes (tVar 8) [7, 8] [8]) (gName 2))
  (tSeq (tIfS (tNot (tB (tCall (sp_areallhalves K) [] E0 (tCons (tVar 2) tNil)))) (tRz (He.ga K "NotAMesh") (sp_NotAMeshinit K) E) tNext)
  (tSeq (tAsg (tOp rRep (tLst (tCons (tC (.int 0)) tNil)) (tCB (cLen K) (tCons (tVar 2) tNil))) (gName 3))
  (tSeq (tFor (iList K (tVar 1)) (gName 4) (tFor (iEnum K (tCons (tVar 4) tNil)) (gTup K 2 (gCons (gName 5) (gCons (gName 6) gNil))) (tAsg (tVar 6) (gSub (tVar 3) (tOp (rIxL K) (tVar 4) (tOp zSub (tVar 5) (tC (.int 1)))) rSetL))))
  (tRet (tMake (He.ga K "Mesh") (sp_Meshinit K) [] E (tCons (tVar 3) tNil)))))))))
abbrev Wt_readmesh (K : PySem.W.Frag) (vs : List V) (H : Hp) (Q : VK) (E : XK) : Prop := t_readmesh K E { nx := fun _ H' => Q .non H', rt := Q } (start nm_readmesh vs) H
theorem ln_readmesh {K : PySem.W.Frag} (vs : List V) (H : Hp) (Q : VK) (E : XK) (h : sp_readmesh K vs H Q E) : vs.length = pr_readmesh.length := by
  obtain ⟨_, rfl, _⟩ := h
  rfl
theorem mp_nil : MP [] := ⟨⟨by decide⟩, by decide, by decide⟩
theorem perm_isP {g : List Nat} {N : Nat} (h : g.Perm (List.range N)) : IsP g ∧ g.length = N := by
  have hl : g.length = N := by rw [h.length_eq, List.length_range]
  exact ⟨⟨by rw [hl]; exact h⟩, hl⟩
theorem rd_readmesh {K : PySem.W.Frag} (vs : List V) (H : Hp) (Q : VK) (E : XK) (h : sp_readmesh K vs H Q E) : Wt_readmesh K vs H Q E := by
  obtain ⟨text, rfl, hc⟩ := h
  show t_readmesh K E _ [some (.str text), none, none, none, none, none, none, none, none] H
  have htest : EvT (tTest (tOp rEq (tVar 0) (tC (.str "")))) [some (.str text), none, none, none, none, none, none, none, none] H (decide (V.str text = V.str "")) := et_test (ev_op (ev_var rfl) ev_c (rv_eq rfl))
  rcases hc with ⟨rfl, k⟩ | ⟨hne, gs, rest, hF, hz, kq, ke⟩
  · refine q_when htest (fun _ H1 e1 => ?_) (fun hb => ?_)
    · exact mk_meshN (ns := []) (el_lst ea_nil (Nat.zero_le _)) mp_nil (fun x H2 hx m e2 => k x H2 (fresh_back e1 hx) (m.back e1) (e1.trans e2))
    · rw [decide_eq_true rfl] at hb
      cases hb
  refine q_when htest (fun hb => absurd (V.str.inj (of_decide_eq_true hb)) hne) (fun _ H1 e1 => ?_)
  refine q_asgC (ea_1 (ev_var rfl)) (fun H2 e2 => ⟨text, gs, rest, rfl, hF, fun hr p H3 hp e3 hl => ?_, fun hr H' d ex hd hd2 => ke hr H' d ((e1.trans e2).trans ex) (fresh_back (e1.trans e2) hd) hd2⟩)
  have ex3 := (e1.trans e2).trans e3
  have hll : LL H3 p gs := hl.ll
  refine q_asgL (el_flat (j1 := 7) (j2 := 8) (vs := [7, 8]) (ev_var rfl) hll (by omega) (fun _ => rfl) (fun _ => rfl) (fun _ _ => rfl) (fun _ _ => rfl)) (fun pn H4 hpn e4 h4 => ?_)
  have ex4 := ex3.trans e4
  rcases kq hr with ⟨ns, hM, hperm, hcyc, k⟩ | ⟨hbad, k⟩
  case inr =>
    refine q_when (b := !false) (et_not (et_B (ev_call (ea_1 (ev_var rfl)) (spv_ahF (sq_of h4) (by rw [L_len]; exact hz) (ib_L _) hbad)))) (fun _ H5 e5 => rz_NotAMesh (k H5 (ex4.trans e5))) (fun hb => nomatch hb)
  obtain ⟨hP, hlen⟩ := perm_isP hperm
  have hgood : Good (L gs.flatten) := ⟨_, rfl, hP, by rw [hlen]; exact hM.two⟩
  refine q_when (b := !true) (et_not (et_B (ev_call (ea_1 (ev_var rfl)) (spv_ahT (sq_of h4) (by rw [L_len]; exact hz) (ib_L _) hgood)))) (fun hb => nomatch hb) (fun _ H5 e5 => ?_)
  have h5 := e5 _ _ h4
  refine q_asgL (el_rep1 (n := ns.length) ev_c (ev_is (ev_cb (ea_1 (ev_var rfl)) (rc_len (sq_of h5))) (by rw [L_len, hlen])) (by omega)) (fun pc H6 hpc e6 h6 => ?_)
  have ex6 := (ex4.trans e5).trans e6
  have hpc0 : H pc = none := fresh_back (ex4.trans e5) hpc
  obtain ⟨as, hps, la⟩ := hll.ex ((e4.trans e5).trans e6)
  have hal := la.len
  have exb : ∀ {y : Addr} {o : HO}, H3 y = some o → y ≠ pc := fun {y o} q => ne_of_none (e5 _ _ (e4 _ _ q)) hpc
  have z0 : List.replicate ns.length (V.int 0) = L (List.replicate ns.length 0) := by
    unfold L
    rw [List.map_replicate]
    rfl
  rw [z0] at h6
  have hin : ∀ i (hi : i < gs.length) m, m < (gs[i]'hi).length → fn (gs[i]'hi) m < ns.length := by
    intro i hi m hm
    have h1 : fn (gs[i]'hi) m ∈ gs.flatten := List.mem_flatten.mpr ⟨_, List.getElem_mem hi, fn_mem hm⟩
    exact List.mem_range.mp (hperm.mem_iff.mp h1)
  refine q_forLn (xs := as.map V.ref) (ev_var rfl) (sq_of hps) (fun i σ' H' => ∃ (cur : List Nat) (v4 v5 v6 : Option V), σ' = [some (.str text), some (.ref p), some (.ref pn), some (.ref pc), v4, v5, v6, none, none] ∧ H' pc = some (.lst (L cur)) ∧ cur.length = ns.length ∧
      (∀ k (hk : k < gs.length) m, k < i → m < (gs[k]'hk).length → fn cur (fn (gs[k]'hk) (prv (gs[k]'hk) m)) = fn ns (fn (gs[k]'hk) (prv (gs[k]'hk) m))) ∧ (∀ a o, a ≠ pc → H6 a = some o → H' a = some o)) ?_ ?_ ?_ ?_
  · intro H7 e7
    exact ⟨_, _, _, _, rfl, e7 _ _ h6, by rw [List.length_replicate], fun k hk m h => absurd h (Nat.not_lt_zero _), fun a o _ q => e7 _ _ q⟩
  · rintro i σ' H' _ ⟨cur, v4, v5, v6, rfl, _, _, _, x7⟩
    exact sq_of (x7 _ _ (ne_of_none (e5 _ _ (e4 _ _ (hl.choose_spec.1 : H3 p = some _))) hpc) hps)
  · rintro i x σ' H' hx ⟨cur, v4, v5, v6, rfl, hcur, hcl, hdone, x7⟩
    have hi : i < gs.length := by
      have := (List.getElem?_eq_some_iff.mp hx).1
      rw [List.length_map] at this
      omega
    obtain ⟨a, ha, hga⟩ := la.at i hi
    rw [List.getElem?_map, ha] at hx
    have hx : V.ref a = x := Option.some.inj hx
    subst hx
    have hapc : a ≠ pc := by
      obtain ⟨as', hps', la', _⟩ := hl
      have e : as' = as := by
        have q := (e4.trans e5).trans e6 _ _ hps'
        rw [hps] at q
        have q2 : as.map V.ref = as'.map V.ref := by
          have := Option.some.inj q
          exact HO.lst.inj this
        exact ((List.map_inj_right fun x y h => V.ref.inj h).mp q2).symm
      subst e
      obtain ⟨a', ha', hga'⟩ := la'.at i hi
      rw [ha] at ha'
      cases ha'
      exact exb hga'
    have hgH := x7 a _ hapc hga
    have hg := hF.2.2.2.1 _ (List.getElem_mem hi)
    have hcy := hcyc _ (List.getElem_mem hi)
    have hini := hin i hi
    refine s_forEn (xs := L (gs[i]'hi)) (ev_var rfl) (sq_of hgH) (fun j σ' H'' => ∃ (cur : List Nat) (v5 v6 : Option V), σ' = [some (.str text), some (.ref p), some (.ref pn), some (.ref pc), some (.ref a), v5, v6, none, none] ∧ H'' pc = some (.lst (L cur)) ∧ cur.length = ns.length ∧
      (∀ k (hk : k < gs.length) m, k < i → m < (gs[k]'hk).length → fn cur (fn (gs[k]'hk) (prv (gs[k]'hk) m)) = fn ns (fn (gs[k]'hk) (prv (gs[k]'hk) m))) ∧ (∀ m, m < j → m < (gs[i]'hi).length → fn cur (fn (gs[i]'hi) (prv (gs[i]'hi) m)) = fn ns (fn (gs[i]'hi) (prv (gs[i]'hi) m))) ∧ (∀ a o, a ≠ pc → H6 a = some o → H'' a = some o)) ?_ ?_ ?_ ?_
    · intro H8 e8
      exact ⟨cur, _, _, rfl, e8 _ _ hcur, hcl, hdone, fun m h => absurd h (Nat.not_lt_zero _), fun b o n q => e8 _ _ (x7 b o n q)⟩
    · rintro j σ' H'' _ ⟨cur, v5, v6, rfl, _, _, _, _, x8⟩
      exact sq_of (x8 a _ hapc hga)
    · rintro j σ' H'' x hx ⟨cur, v5, v6, rfl, hcur, hcl, hdone, hdo2, x8⟩ H9 e9
      obtain ⟨hj, rfl⟩ := L_item hx
      have hgH9 := e9 _ _ (x8 a _ hapc hga)
      have hp := prv_lt hj
      have hpi := hini _ hp
      refine s_setL (j := fn (gs[i]'hi) (prv (gs[i]'hi) j)) (e9 _ _ hcur) (ev_var rfl) (ev_var rfl) (ev_op (ev_var rfl) (ev_op (ev_var rfl) ev_c rv_I0) (rv_ixL (sq_of hgH9) (at_prv hj))) (by rw [L_len, hcl]; exact hpi) (fun H10 e10 => ?_)
      rw [L_set]
      have hset : ∀ q, fn cur q = fn ns q → fn (cur.set (fn (gs[i]'hi) (prv (gs[i]'hi) j)) (fn (gs[i]'hi) j)) q = fn ns q := by
        intro q hq
        rw [fn_set (by rw [hcl]; exact hpi)]
        split
        · rename_i h
          rw [h, hcy j hj]
        · exact hq
      refine ⟨_, _, _, rfl, upd_same, by rw [List.length_set]; exact hcl, fun k hk m h1 h2 => hset _ (hdone k hk m h1 h2), fun m h1 h2 => ?_, fun b o n q => ?_⟩
      · by_cases hm : m = j
        · subst hm
          rw [fn_set (by rw [hcl]; exact hpi), if_pos rfl, hcy m hj]
        · exact hset _ (hdo2 m (by omega) h2)
      · rw [upd_ne n]
        exact e10 _ _ (e9 _ _ (x8 b o n q))
    · rintro σ' H'' ⟨cur, v5, v6, rfl, hcur, hcl, hdone, hdo2, x8⟩
      refine ⟨cur, _, _, _, rfl, hcur, hcl, fun k hk m h1 h2 => ?_, x8⟩
      by_cases hk2 : k = i
      · subst hk2
        exact hdo2 m (by rw [L_len]; exact h2) h2
      · exact hdone k hk m (by omega) h2
  · rintro σ' H' ⟨cur, v4, v5, v6, rfl, hcur, hcl, hdone, x7⟩
    rw [List.length_map, hal] at hdone
    have hcn : cur = ns := by
      refine List.ext_getElem? fun j => ?_
      by_cases hj : j < ns.length
      · rw [fn_get (by omega : j < cur.length), fn_get hj]
        have hm : j ∈ gs.flatten := hperm.mem_iff.mpr (List.mem_range.mpr hj)
        obtain ⟨g, hg, hjg⟩ := List.mem_flatten.mp hm
        obtain ⟨k, hk, rfl⟩ := List.getElem_of_mem hg
        obtain ⟨m, hm, e⟩ := List.getElem_of_mem hjg
        obtain ⟨i, hi, e2⟩ := prv_sur hm
        have := hdone k hk i hk hi
        rw [e2] at this
        have e3 : fn (gs[k]'hk) m = j := by
          apply fn_at
          rw [List.getElem?_eq_getElem hm, e]
        rw [e3] at this
        rw [this]
      · rw [List.getElem?_eq_none (by omega), List.getElem?_eq_none (by omega)]
    subst hcn
    have ex7 : Ex H H' := fun b o hb => x7 b o (ne_of_none hb hpc0) (ex6 b o hb)
    exact mk_mesh (ev_var rfl) (sq_of hcur) hM (fun x H8 hx m e8 => k x H8 (fresh_back ex7 hx) (m.back ex7) (ex7.trans e8))
end Hm
namespace K14
open PySem PySem.Spec PyProof.Rows L2 Evl TL Hm
abbrev S (ws : List Str) : List V := ws.map V.str
structure KE (K : PySem.W.Frag) : Prop where
  kq : KQ K
  oe : OexC K (He.ga K "BadLine")
  nb : NoAttr K (He.ga K "BadLine") "line"
  f1 : PySem.W.exmOne K (.ref (He.ga K "NotAMesh")) (.ref (He.ga K "NotAMesh")) = some true
  f2 : PySem.W.exmOne K (.ref (He.ga K "NotAMesh")) (.ref (He.ga K "BadLine")) = some false
  f3 : PySem.W.exmOne K (.ref (He.ga K "BadLine")) (.ref (He.ga K "BadLine")) = some true
  f4 : PySem.W.kitOne K (.ref (He.ga K "NotAMesh")) (.ref (He.ga K "MeshError")) = some true
  f5 : PySem.W.kitOne K (.ref (He.ga K "BadLine")) (.ref (He.ga K "MeshError")) = some true
theorem rd_BadLineinit {K : PySem.W.Frag} (F : KE K) (vs : List V) (H : Hp) (Q : VK) (E : XK) (h : sp_BadLineinit K vs H Q E) : GoE (He.ga K "BadLine") ["self", "line", "__class__"] (a_BadLineinit K) (t_BadLineinit K) vs H Q := go_BadLine F.oe F.nb vs H Q E h
abbrev nm_Lpick : List Str := ["_law_tape_here", "_law_many", "_law_digit", "_law_mixed_here"]
abbrev pr_Lpick : List Str := ["_law_tape_here", "_law_many"]
def t_Lpick (K : PySem.W.Frag) : TS :=
  (tSeq (tIfS (tTest (tOp zGe (tOp (rIxL K) (tVar 0) (tC (.int 0))) (tOp zPow (tC (.int 10)) (tC (.int 18))))) (tSeq (tAsg (tOp zMod (tCB cInt (tCons (tOp (rIxL K) (tVar 0) (tC (.int 0))) tNil)) (tVar 1)) (gName 2))
      (tSeq (tAsg (tOp zDiv (tOp (rIxL K) (tVar 0) (tC (.int 0))) (tVar 1)) (gSub (tVar 0) (tC (.int 0)) rSetL))
      (tRet (tVar 2)))) tNext)
  (tSeq (tAsg (tOp zMod (tCB cInt (tCons (tOp zAdd (tOp zAdd (tOp zMul (tOp (rIxL K) (tVar 0) (tC (.int 1))) (tC (.int 48271))) (tOp zMul (tOp (rIxL K) (tVar 0) (tC (.int 0))) (tC (.int 69621)))) (tC (.int 11))) tNil)) (tC (.int 2147483647))) (gSub (tVar 0) (tC (.int 1)) rSetL))
  (tSeq (tAsg (tOp zMod (tCB cInt (tCons (tOp zAdd (tOp zAdd (tOp zMul (tOp (rIxL K) (tVar 0) (tC (.int 1))) (tOp (rIxL K) (tVar 0) (tC (.int 1)))) (tOp zMul (tOp (rIxL K) (tVar 0) (tC (.int 1))) (tC (.int 40692)))) (tC (.int 7))) tNil)) (tC (.int 2147483399))) (gName 3))
  (tRet (tOp zMod (tCB cInt (tCons (tOp zDiv (tVar 3) (tC (.int 64))) tNil)) (tVar 1))))))
abbrev Wt_Lpick (K : PySem.W.Frag) (vs : List V) (H : Hp) (Q : VK) : Prop := t_Lpick K { nx := fun _ H' => Q .non H', rt := Q } (start nm_Lpick vs) H
theorem ln_Lpick {K : PySem.W.Frag} (vs : List V) (H : Hp) (Q : VK) (E : XK) (h : sp_Lpick K vs H Q E) : vs.length = pr_Lpick.length := Hm.ln_Lpick vs H Q E h
theorem rd_Lpick {K : PySem.W.Frag} (F : KF K) (vs : List V) (H : Hp) (Q : VK) (E : XK) (h : sp_Lpick K vs H Q E) : Wt_Lpick K vs H Q := Hm.rd_Lpick F vs H Q E h
section
variable {K : PySem.W.Frag} {σ : L2.St} {H : Hp} {ta tb te : TE}
theorem el_copyV {a : Addr} {xs : List V} {j : Nat} (h : Ev ta σ H (.ref a)) (hS : SqL K H a xs) (hz : xs.length ≤ 1000) (hw : ∀ x, wipe ((wipe σ [j]).set j (some x)) [j] = wipe σ [j]) (hj : ∀ x, ((wipe σ [j]).set j (some x))[j]? = some (some x)) : EvL (tLc (iList K ta) (gName j) tYes (tVar j) [j]) σ H xs := by
  have := el_lcL (K := K) (σ := σ) (H := H) (j := j) (vs := [j]) (tl := ta) (t := tYes) (te := tVar j) (fun _ => true) (fun i => xs.getD i .non) h hS (by omega) hw (fun i x H1 _ _ => et_yes) (fun i x H1 _ hx _ => by
    rw [show xs.getD i .non = x from by rw [List.getD_eq_getElem?_getD, hx]; rfl]
    exact ev_var (hj _))
  rw [given_all, range_map_get xs id _ (fun i hi => by rw [List.getD_eq_getElem?_getD, List.getElem?_eq_getElem hi]; rfl), List.map_id] at this
  exact this
end
def sp_Lline (K : PySem.W.Frag) : Sp := fun vs H Q _ => ∃ (a : Addr) (ns : List Nat), vs = [.ref a] ∧ SqL K H a (L ns) ∧ ns.length ≤ 1000 ∧ (∀ n ∈ ns, n < 10000) ∧ ∀ H', Ex H H' → Q (.str (lineOf ns)) H'
abbrev nm_Lline : List Str := ["_law_members", "_law_half"]
abbrev pr_Lline : List Str := ["_law_members"]
def t_Lline (K : PySem.W.Frag) : TS :=
  (tRet (tM1 (rJoin K) (tC (.str " ")) (tLc (iList K (tVar 0)) (gName 1) tYes (tCB cStr (tCons (tVar 1) tNil)) [1])))
abbrev Wt_Lline (K : PySem.W.Frag) (vs : List V) (H : Hp) (Q : VK) : Prop := t_Lline K { nx := fun _ H' => Q .non H', rt := Q } (start nm_Lline vs) H
theorem ln_Lline {K : PySem.W.Frag} (vs : List V) (H : Hp) (Q : VK) (E : XK) (h : sp_Lline K vs H Q E) : vs.length = pr_Lline.length := by
  obtain ⟨_, _, rfl, _⟩ := h
  rfl
theorem rd_Lline {K : PySem.W.Frag} (F : KF K) (vs : List V) (H : Hp) (Q : VK) (E : XK) (h : sp_Lline K vs H Q E) : Wt_Lline K vs H Q := by
  obtain ⟨a, ns, rfl, hS, hl, hb, k⟩ := h
  show t_Lline K _ [some (.ref a), none] H
  exact s_ret (ev_line (ev_var rfl) hS hl hb (fun _ => rfl) (fun _ => rfl)) (fun H1 e1 => k H1 e1)
theorem spv_Lline {K : PySem.W.Frag} {H : Hp} {a : Addr} {ns : List Nat} (hS : SqL K H a (L ns)) (hl : ns.length ≤ 1000) (hb : ∀ n ∈ ns, n < 10000) : SpV (sp_Lline K) [.ref a] H (.str (lineOf ns)) := fun H1 e Q q E => ⟨a, ns, rfl, ex_l e hS, hl, hb, q⟩
/-! ### the faces, mixed -/
def Rot (g f : List Nat) : Prop := ∃ k, k < g.length ∧ f = g.drop k ++ g.take k
structure Mix (gs fs : List (List Nat)) : Prop where
  perm : fs.flatten.Perm gs.flatten
  len : fs.length = gs.length
  rot : ∀ f ∈ fs, ∃ g ∈ gs, Rot g f
theorem Rot.perm {g f : List Nat} (h : Rot g f) : f.Perm g := by
  obtain ⟨k, _, rfl⟩ := h
  have h1 : (g.drop k ++ g.take k).Perm (g.take k ++ g.drop k) := List.perm_append_comm
  rwa [List.take_append_drop] at h1
theorem Rot.good {g f : List Nat} (h : Rot g f) (hg : GoodG g) : GoodG f := by
  have p := h.perm
  refine ⟨fun q => hg.1 ?_, by rw [p.length_eq]; exact hg.2.1, fun n hn => hg.2.2 n (p.mem_iff.mp hn)⟩
  rw [q] at p
  exact List.nil_perm.mp p
def sp_Lmixed (K : PySem.W.Frag) : Sp := fun vs H Q _ => ∃ (t p : Addr) (as : List Addr) (gs : List (List Nat)), vs = [.ref t, .ref p] ∧ Tp (H t) ∧ H p = some (.lst (as.map V.ref)) ∧ LA H as gs ∧ (∀ a ∈ as, a ≠ t) ∧ p ≠ t ∧ (∀ g ∈ gs, GoodG g) ∧ gs.length ≤ 1000 ∧
  ∀ r H' fs, H r = none → ExO t H H' → H' r = some (.lst (S (fs.map lineOf))) → Mix gs fs → Q (.ref r) H'
abbrev nm_Lmixed : List Str := ["_law_tape_here", "_law_faces", "_law_members", "_law_left", "_law_lines", "_law_k", "_law_at", "_law_first"]
abbrev pr_Lmixed : List Str := ["_law_tape_here", "_law_faces"]
def t_Lmixed (K : PySem.W.Frag) : TS :=
  (tSeq (tAsg (tLc (iList K (tVar 1)) (gName 2) tYes (tVar 2) [2]) (gName 3))
  (tSeq (tAsg (tLst tNil) (gName 4))
  (tSeq (tFor (iRng1 (tCons (tCB (cLen K) (tCons (tVar 1) tNil)) tNil)) (gName 5) (tSeq (tAsg (tCall (sp_Lpick K) [] E0 (tCons (tVar 0) (tCons (tCB (cLen K) (tCons (tVar 3) tNil)) tNil))) (gName 6))
      (tSeq (tAsg (tOp (rIxL K) (tVar 3) (tVar 6)) (gName 2))
      (tSeq (tAsg (tCall (sp_Lpick K) [] E0 (tCons (tVar 0) (tCons (tCB (cLen K) (tCons (tVar 2) tNil)) tNil))) (gName 7))
      (tSeq (tDrop (tBM K "list" rAppend (tVar 4) (tCons (tCall (sp_Lline K) [] E0 (tCons (tOp rCat (tSl (rSlL K) (tVar 2) (tPart (tVar 7)) tNoPart) (tSl (rSlL K) (tVar 2) tNoPart (tPart (tVar 7)))) tNil)) tNil)))
      (tAsg (tOp rCat (tSl (rSlL K) (tVar 3) tNoPart (tPart (tVar 6))) (tSl (rSlL K) (tVar 3) (tPart (tOp zAdd (tVar 6) (tC (.int 1)))) tNoPart)) (gName 3)))))))
  (tRet (tVar 4)))))
abbrev Wt_Lmixed (K : PySem.W.Frag) (vs : List V) (H : Hp) (Q : VK) : Prop := t_Lmixed K { nx := fun _ H' => Q .non H', rt := Q } (start nm_Lmixed vs) H
theorem ln_Lmixed {K : PySem.W.Frag} (vs : List V) (H : Hp) (Q : VK) (E : XK) (h : sp_Lmixed K vs H Q E) : vs.length = pr_Lmixed.length := by
  obtain ⟨_, _, _, _, rfl, _⟩ := h
  rfl
theorem LA.take {H : Hp} {as : List Addr} {gs : List (List Nat)} (h : LA H as gs) (k : Nat) : LA H (as.take k) (gs.take k) := by
  induction h generalizing k with
  | nil => simp; exact .nil
  | cons r t ih =>
    cases k with
    | zero => exact .nil
    | succ k => exact .cons r (ih k)
theorem LA.drop {H : Hp} {as : List Addr} {gs : List (List Nat)} (h : LA H as gs) (k : Nat) : LA H (as.drop k) (gs.drop k) := by
  induction h generalizing k with
  | nil => simp; exact .nil
  | cons r t ih =>
    cases k with
    | zero => exact .cons r t
    | succ k => exact ih k
theorem la_app {H : Hp} {as bs : List Addr} {gs fs : List (List Nat)} (h : LA H as gs) (k : LA H bs fs) : LA H (as ++ bs) (gs ++ fs) := by
  induction h with
  | nil => exact k
  | cons r t ih => exact .cons r ih
theorem flat_out {gs : List (List Nat)} {i : Nat} (h : i < gs.length) : (gs[i]'h ++ (gs.take i ++ gs.drop (i + 1)).flatten).Perm gs.flatten := by
  have e : gs.flatten = (gs.take i).flatten ++ (gs[i]'h ++ (gs.drop (i + 1)).flatten) := by
    have h2 : gs = gs.take i ++ (gs[i]'h :: gs.drop (i + 1)) := by rw [← List.drop_eq_getElem_cons h, List.take_append_drop]
    have h3 := congrArg List.flatten h2
    rw [List.flatten_append, List.flatten_cons] at h3
    exact h3
  rw [e, List.flatten_append]
  have p1 : (gs[i]'h ++ ((gs.take i).flatten ++ (gs.drop (i + 1)).flatten)).Perm ((gs[i]'h ++ (gs.take i).flatten) ++ (gs.drop (i + 1)).flatten) := by rw [List.append_assoc]
  refine p1.trans ?_
  have p2 : (gs[i]'h ++ (gs.take i).flatten).Perm ((gs.take i).flatten ++ gs[i]'h) := List.perm_append_comm
  have p3 := p2.append_right (gs.drop (i + 1)).flatten
  rw [List.append_assoc ((gs.take i).flatten)] at p3
  exact p3
theorem rd_Lmixed {K : PySem.W.Frag} (F : KF K) (vs : List V) (H : Hp) (Q : VK) (E : XK) (h : sp_Lmixed K vs H Q E) : Wt_Lmixed K vs H Q := by
  obtain ⟨t, p, as, gs, rfl, ht, hp, la, hat, hpt, hg, hgl, k⟩ := h
  show t_Lmixed K _ [some (.ref t), some (.ref p), none, none, none, none, none, none] H
  have hal := la.len
  refine q_asgL (el_copyV (ev_var rfl) (sq_of hp) (by rw [List.length_map]; omega) (fun _ => rfl) (fun _ => rfl)) (fun pl H1 hpl e1 h1 => ?_)
  refine q_asgL (el_lst ea_nil (Nat.zero_le _)) (fun pr H2 hpr e2 h2 => ?_)
  have hpr0 : H pr = none := fresh_back e1 hpr
  have hprt : pr ≠ t := tp_ne ht hpr0
  have hplt : pl ≠ t := tp_ne ht hpl
  refine q_forR1 (ea_1 (ev_cb (ea_1 (ev_var rfl)) (rc_len (sq_of (e2 _ _ (e1 _ _ hp)))))) (by rw [List.length_map]; omega) (fun i σ' H' => ∃ (ls : List Addr) (lg fs : List (List Nat)) (pl : Addr) (v2 v5 v6 v7 : Option V), σ' = [some (.ref t), some (.ref p), v2, some (.ref pl), some (.ref pr), v5, v6, v7] ∧
      H' pl = some (.lst (ls.map V.ref)) ∧ LA H' ls lg ∧ (∀ a ∈ ls, a ≠ t ∧ a ≠ pr) ∧ pl ≠ t ∧ pl ≠ pr ∧ H' pr = some (.lst (S (fs.map lineOf))) ∧ (fs.flatten ++ lg.flatten).Perm gs.flatten ∧ fs.length = i ∧ fs.length + lg.length = gs.length ∧ (∀ f ∈ fs, ∃ g ∈ gs, Rot g f) ∧ (∀ g ∈ lg, g ∈ gs) ∧ Tp (H' t) ∧ ExO t H H') ?_ ?_ ?_
  · intro H3 e3
    refine ⟨as, gs, [], pl, _, _, _, _, rfl, e3 _ _ (e2 _ _ h1), la.ex ((e1.trans e2).trans e3), fun a ha => ⟨hat a ha, ?_⟩, hplt, ne_of_none h1 hpr, e3 _ _ h2, by simp, rfl, by simp, (fun f hf => nomatch hf), fun g hg => hg, tp_ex ht ((e1.trans e2).trans e3), ExO.of ((e1.trans e2).trans e3)⟩
    have : ∀ {as : List Addr} {gs : List (List Nat)}, LA H as gs → ∀ a ∈ as, ∃ g, H a = some (.lst (L g)) := by
      intro as gs la
      induction la with
      | nil => intro a ha; cases ha
      | cons r q ih =>
        intro a ha
        rcases List.mem_cons.mp ha with rfl | ha
        · exact ⟨_, r⟩
        · exact ih a ha
    obtain ⟨g, q⟩ := this la a ha
    exact ne_of_none q hpr0
  · rintro i σ' H' hi ⟨ls, lg, fs, pl, v2, v5, v6, v7, rfl, hpl, hla, hls, hplt, hplr, hpr', hperm, hfl, hsum, hrot, hsub, ht', ex⟩
    rw [List.length_map] at hi
    have hll := hla.len
    have hpos : 0 < lg.length := by omega
    refine q_asgC (ea_2 (ev_var rfl) (ev_cb (ea_1 (ev_var rfl)) (rc_len (sq_of hpl)))) (fun H3 e3 => ⟨t, _, rfl, tp_ex ht' e3, by rw [List.length_map]; omega, by rw [List.length_map]; omega, fun d H4 d0 d1 t4 o4 => ?_⟩)
    obtain ⟨d, rfl⟩ : ∃ n : Nat, d = (n : Int) := ⟨d.toNat, by omega⟩
    rw [List.length_map] at d1
    have hd : d < lg.length := by omega
    have o34 : ExO t H' H4 := (ExO.of e3).trans o4
    have hpl4 := o34 pl _ hplt hpl
    have hpr4 := o34 pr _ hprt hpr'
    have la4 : LA H4 ls lg := paired_imp hla fun a g ha q => o34 a _ (hls a ha).1 q
    obtain ⟨a, ha, hga⟩ := la4.at d hd
    have ham : a ∈ ls := List.mem_of_getElem? ha
    have hgd := hg _ (hsub _ (List.getElem_mem hd))
    refine q_asg (ev_op (ev_var rfl) (ev_var rfl) (rv_ixL (sq_of hpl4) (atI_nat (show (ls.map V.ref)[d]? = some (.ref a) by rw [List.getElem?_map, ha]; rfl)))) (fun H5 e5 => ?_)
    have hga5 := e5 _ _ hga
    have gpos : 0 < (lg[d]'hd).length := List.length_pos_iff.mpr hgd.1
    refine q_asgC (ea_2 (ev_var rfl) (ev_cb (ea_1 (ev_var rfl)) (rc_len (sq_of hga5)))) (fun H6 e6 => ⟨t, _, rfl, tp_ex t4 (e5.trans e6), by rw [L_len]; omega, by rw [L_len]; have := hgd.2.1; omega, fun c H7 c0 c1 t7 o7 => ?_⟩)
    obtain ⟨c, rfl⟩ : ∃ n : Nat, c = (n : Int) := ⟨c.toNat, by omega⟩
    rw [L_len] at c1
    have hc : c < (lg[d]'hd).length := by omega
    have o57 : ExO t H4 H7 := (ExO.of (e5.trans e6)).trans o7
    have hga7 := o57 a _ (hls a ham).1 hga
    have hpl7 := o57 pl _ hplt hpl4
    have hpr7 := o57 pr _ hprt hpr4
    have la7 : LA H7 ls lg := paired_imp la4 fun a g ha q => o57 a _ (hls a ha).1 q
    have el1 := el_sl (K := K) (te := tVar 2) (tl := tPart (tVar 7)) (th := tNoPart) (σ := [some (.ref t), some (.ref p), some (.ref a), some (.ref pl), some (.ref pr), some (vi i), some (vi d), some (vi c)]) (ev_var rfl) (eo_some (ev_var rfl)) eo_none (sq_of hga7)
    have el2 := el_sl (K := K) (te := tVar 2) (tl := tNoPart) (th := tPart (tVar 7)) (σ := [some (.ref t), some (.ref p), some (.ref a), some (.ref pl), some (.ref pr), some (vi i), some (vi d), some (vi c)]) (ev_var rfl) eo_none (eo_some (ev_var rfl)) (sq_of hga7)
    rw [cut_from (by rw [L_len]; omega), L_drop] at el1
    rw [cut_to (by rw [L_len]; omega), L_take] at el2
    have hrot2 : Rot (lg[d]'hd) ((lg[d]'hd).drop c ++ (lg[d]'hd).take c) := ⟨c, hc, rfl⟩
    have hgood2 := hrot2.good hgd
    have elc := el_cat el1 el2 (by rw [L_len, L_len, List.length_drop, List.length_take]; have := hgd.2.1; omega)
    rw [← L_app] at elc
    have evl : Ev (tCall (sp_Lline K) [] E0 (tCons (tOp rCat (tSl (rSlL K) (tVar 2) (tPart (tVar 7)) tNoPart) (tSl (rSlL K) (tVar 2) tNoPart (tPart (tVar 7)))) tNil)) [some (.ref t), some (.ref p), some (.ref a), some (.ref pl), some (.ref pr), some (vi i), some (vi d), some (vi c)] H7 (.str (lineOf ((lg[d]'hd).drop c ++ (lg[d]'hd).take c))) := fun G e Q q =>
      elc G e _ fun q1 G1 hq1 e1' h1' => show sp_Lline K [.ref q1] G1 Q E0 from ⟨q1, _, rfl, sq_of h1', hgood2.2.1, hgood2.2.2, fun G2 e2' => q G2 (e1'.trans e2')⟩
    refine q_app hpr7 (ev_var rfl) evl (by rw [List.length_map, List.length_map]; omega) (fun H8 e8 => ?_)
    have hpl8 : (upd H8 pr (.lst (S (fs.map lineOf) ++ [.str (lineOf ((lg[d]'hd).drop c ++ (lg[d]'hd).take c))]))) pl = some (.lst (ls.map V.ref)) := by
      rw [upd_ne hplr]
      exact e8 _ _ hpl7
    have el3 := el_sl (K := K) (te := tVar 3) (tl := tNoPart) (th := tPart (tVar 6)) (σ := [some (.ref t), some (.ref p), some (.ref a), some (.ref pl), some (.ref pr), some (vi i), some (vi d), some (vi c)]) (ev_var rfl) eo_none (eo_some (ev_var rfl)) (sq_of hpl8)
    have el4 := el_sl (K := K) (te := tVar 3) (tl := tPart (tOp zAdd (tVar 6) (tC (.int 1)))) (th := tNoPart) (σ := [some (.ref t), some (.ref p), some (.ref a), some (.ref pl), some (.ref pr), some (vi i), some (vi d), some (vi c)]) (ev_var rfl) (eo_some (ev_op (ev_var rfl) ev_c rv_I0)) eo_none (sq_of hpl8)
    have ed : ((d : Int) + 1) = ((d + 1 : Nat) : Int) := by omega
    simp only [ed] at el4
    rw [cut_to (by rw [List.length_map]; omega)] at el3
    rw [cut_from (by rw [List.length_map]; omega)] at el4
    refine s_asgL (el_cat el3 el4 (by rw [List.length_take, List.length_drop, List.length_map]; omega)) (fun pq H9 hpq e9 h9 => ?_)
    have hpq1 : pq ≠ pr := (ne_of_none upd_same hpq).symm
    have t8 : Tp ((upd H8 pr (.lst (S (fs.map lineOf) ++ [.str (lineOf ((lg[d]'hd).drop c ++ (lg[d]'hd).take c))]))) t) := by
      rw [upd_ne hprt.symm]
      exact tp_ex t7 e8
    have o9 : ExO t H H9 := ((((ex.trans o34).trans o57).trans (ExO.of e8)).mut hpr0).trans (ExO.of e9)
    have la9 : LA H9 ls lg := paired_imp la7 fun b g hb q => e9 _ _ (by rw [upd_ne (hls b hb).2]; exact e8 _ _ q)
    refine ⟨ls.take d ++ ls.drop (d + 1), lg.take d ++ lg.drop (d + 1), fs ++ [(lg[d]'hd).drop c ++ (lg[d]'hd).take c], pq, _, _, _, _, rfl, by rw [h9, List.map_append, List.map_take, List.map_drop], la_app (LA.take la9 d) (LA.drop la9 (d + 1)), ?_, tp_ne t8 hpq, hpq1, by rw [e9 _ _ upd_same, List.map_append]; show _ = some (HO.lst (List.map V.str (_ ++ _))); rw [List.map_append]; rfl, ?_, by rw [List.length_append, hfl]; rfl, ?_, ?_, ?_, tp_ex t8 e9, o9⟩
    · intro b hb
      rcases List.mem_append.mp hb with hb | hb
      · exact hls b (List.mem_of_mem_take hb)
      · exact hls b (List.mem_of_mem_drop hb)
    · rw [List.flatten_append]
      refine List.Perm.trans ?_ hperm
      rw [List.append_assoc]
      refine List.Perm.append_left _ ?_
      have p1 : ([(lg[d]'hd).drop c ++ (lg[d]'hd).take c].flatten).Perm (lg[d]'hd) := by
        have := hrot2.perm
        simpa using this
      exact (p1.append_right _).trans (flat_out hd)
    · rw [List.length_append, List.length_append, List.length_take, List.length_drop]
      simp only [List.length_singleton]
      omega
    · intro f hf
      rcases List.mem_append.mp hf with hf | hf
      · exact hrot f hf
      · rw [List.mem_singleton.mp hf]
        exact ⟨_, hsub _ (List.getElem_mem hd), hrot2⟩
    · intro g hg2
      rcases List.mem_append.mp hg2 with hg2 | hg2
      · exact hsub g (List.mem_of_mem_take hg2)
      · exact hsub g (List.mem_of_mem_drop hg2)
  · rintro σ' H' ⟨ls, lg, fs, pl, v2, v5, v6, v7, rfl, hpl, hla, hls, hplt, hplr, hpr', hperm, hfl, hsum, hrot, hsub, ht', ex⟩
    have hn : fs.length = gs.length := by
      rw [hfl, List.length_map]
      omega
    have hl0 : lg = [] := List.length_eq_zero_iff.mp (by omega)
    subst hl0
    refine s_ret (ev_var rfl) (fun H2 e2 => k pr H2 fs hpr0 (ex.trans (ExO.of e2)) (e2 _ _ hpr') ⟨by simpa using hperm, hn, hrot⟩)
end K14
namespace K14
open PySem PySem.Spec PyProof.Rows L2 Evl TL Hm
/-! ### a line spoilt -/
structure WsOk (ws : List Str) : Prop where
  w : ∀ w ∈ ws, tl w ≠ [] ∧ 32 ∉ tl w ∧ 10 ∉ tl w ∧ w.length ≤ 100
  n : ws.length ≤ 100
theorem joinL_ge {s : Nat} : ∀ {l : List (List Nat)} {z : List Nat}, z ∈ l → z.length ≤ (joinL [s] l).length
  | [], _, h => nomatch h
  | [a], z, h => by
    rw [List.mem_singleton.mp h]
    exact Nat.le_refl _
  | a :: b :: t, z, h => by
    have hj : joinL [s] (a :: b :: t) = a ++ ([s] ++ joinL [s] (b :: t)) := rfl
    rw [hj, List.length_append, List.length_append]
    rcases List.mem_cons.mp h with rfl | h
    · omega
    · have := joinL_ge (s := s) h
      omega
theorem joinL_mid {s : Nat} (A B : List (List Nat)) (x : List Nat) : (joinL [s] (A ++ [x] ++ B)).length ≤ (joinL [s] A).length + (joinL [s] B).length + x.length + 2 := by
  have one : joinL [s] [x] = x := rfl
  by_cases ha : A = []
  · subst ha
    by_cases hb : B = []
    · subst hb
      rw [List.append_nil, List.nil_append, one]
      omega
    · rw [joinL_app [s] _ B (by simp) hb, List.nil_append, one, List.length_append, List.length_append]
      simp only [List.length_singleton]
      omega
  · by_cases hb : B = []
    · subst hb
      rw [List.append_nil, joinL_app [s] A _ ha (by simp), one, List.length_append, List.length_append]
      simp only [List.length_singleton]
      omega
    · rw [joinL_app [s] _ B (by simp) hb, joinL_app [s] A _ ha (by simp), one]
      simp only [List.length_append, List.length_singleton]
      omega
/-- what is put in the place of a word -/
structure BadC (C : List Str) : Prop where
  ne : C ≠ []
  free : ∀ w ∈ C, 32 ∉ tl w ∧ 10 ∉ tl w
  bad : ∃ w ∈ C, numB w = false
  len : ∀ w ∈ C, w.length ≤ 6000
  n : C.length ≤ 10
  all : (jn spc C).length ≤ 6000
  some_ : tl (jn spc C) ≠ []
theorem bad_mid {A B C : List Str} (hA : WsOk A) (hB : WsOk B) (hC : BadC C) : BadL (jn spc (A ++ [jn spc C] ++ B)) ∧ jn spc (A ++ [jn spc C] ++ B) ≠ "" ∧ (jn spc (A ++ [jn spc C] ++ B)).length ≤ 30000 := by
  refine ⟨⟨A ++ C ++ B, ?_, ext_tl ?_, ?_, ?_, ?_, ?_⟩, ?_, ?_⟩
  · intro q
    have := (List.append_eq_nil_iff.mp (List.append_eq_nil_iff.mp q).1).2
    exact hC.ne this
  · rw [tl_jn, tl_jn, tl_spc, List.map_append, List.map_append, List.map_append, List.map_append]
    have := joinL_in [32] (A.map tl) (C.map tl) (B.map tl) (fun q => hC.ne (List.map_eq_nil_iff.mp q))
    rw [← this]
    congr 2
    show _ ++ [tl (jn spc C)] = _
    rw [tl_jn, tl_spc]
  · intro w hw
    rcases List.mem_append.mp hw with hw | hw
    · rcases List.mem_append.mp hw with hw | hw
      · exact ⟨(hA.w w hw).2.1, (hA.w w hw).2.2.1⟩
      · exact hC.free w hw
    · exact ⟨(hB.w w hw).2.1, (hB.w w hw).2.2.1⟩
  · obtain ⟨w, hw, h⟩ := hC.bad
    exact ⟨w, List.mem_append_left _ (List.mem_append_right _ hw), h⟩
  · intro w hw
    rcases List.mem_append.mp hw with hw | hw
    · rcases List.mem_append.mp hw with hw | hw
      · have := (hA.w w hw).2.2.2
        omega
      · exact hC.len w hw
    · have := (hB.w w hw).2.2.2
      omega
  · rw [List.length_append, List.length_append]
    have := hA.n
    have := hB.n
    have := hC.n
    omega
  · intro q
    have h1 : tl (jn spc (A ++ [jn spc C] ++ B)) = [] := by rw [q]; rfl
    have h2 : (tl (jn spc C)).length ≤ (tl (jn spc (A ++ [jn spc C] ++ B))).length := by
      rw [tl_jn spc (A ++ [jn spc C] ++ B), tl_spc]
      exact joinL_ge (List.mem_map.mpr ⟨_, List.mem_append_left _ (List.mem_append_right _ (List.mem_singleton.mpr rfl)), rfl⟩)
    rw [h1] at h2
    exact hC.some_ (List.length_eq_zero_iff.mp (Nat.le_zero.mp h2))
  · rw [len_tl, tl_jn, tl_spc, List.map_append, List.map_append]
    have h1 := joinL_mid (s := 32) (A.map tl) (B.map tl) (tl (jn spc C))
    have h2 := joinL_len 32 (A.map tl) 100 (fun w hw => by
      obtain ⟨z, hz, rfl⟩ := List.mem_map.mp hw
      rw [← len_tl]
      exact (hA.w z hz).2.2.2)
    have h3 := joinL_len 32 (B.map tl) 100 (fun w hw => by
      obtain ⟨z, hz, rfl⟩ := List.mem_map.mp hw
      rw [← len_tl]
      exact (hB.w z hz).2.2.2)
    rw [List.length_map] at h2 h3
    have h4 := hC.all
    rw [len_tl] at h4
    have := hA.n
    have := hB.n
    have h5 : A.length * (100 + 1) ≤ 10100 := by omega
    have h6 : B.length * (100 + 1) ≤ 10100 := by omega
    show (joinL [32] (A.map tl ++ [tl (jn spc C)] ++ B.map tl)).length ≤ 30000
    omega
theorem badC_one {x : Str} (h1 : 32 ∉ tl x) (h2 : 10 ∉ tl x) (h3 : numB x = false) (h4 : x.length ≤ 6000) (h5 : tl x ≠ []) : BadC [x] := by
  refine ⟨by simp, fun w hw => ?_, ⟨x, List.mem_singleton.mpr rfl, h3⟩, fun w hw => ?_, by show 1 ≤ 10; decide, ?_, ?_⟩
  · rw [List.mem_singleton.mp hw]; exact ⟨h1, h2⟩
  · rw [List.mem_singleton.mp hw]; exact h4
  · rw [jn_one]; exact h4
  · rw [jn_one]; exact h5
theorem badC_sp {x : Str} (h1 : 32 ∉ tl x) (h2 : 10 ∉ tl x) (h4 : x.length ≤ 100) : BadC [x, ""] ∧ jn spc [x, ""] = x ++ " " := by
  have e : jn spc [x, ""] = x ++ " " := ext_tl (by rw [tl_jn, tl_append]; rfl)
  have hl : (x ++ (" " : Str)).length = x.length + 1 := PySem.Str.length_append _ _
  refine ⟨⟨by simp, fun w hw => ?_, ⟨"", by simp, numB_nil rfl⟩, fun w hw => ?_, by show 2 ≤ 10; decide, ?_, ?_⟩, e⟩
  · simp only [List.mem_cons, List.not_mem_nil, or_false] at hw
    rcases hw with rfl | rfl
    · exact ⟨h1, h2⟩
    · exact ⟨by decide, by decide⟩
  · simp only [List.mem_cons, List.not_mem_nil, or_false] at hw
    rcases hw with rfl | rfl
    · omega
    · decide
  · rw [e, hl]; omega
  · rw [e, tl_append]
    intro q
    have := (List.append_eq_nil_iff.mp q).2
    cases (show ([32] : List Nat) = [] from this)
theorem mul_reps (c : Nat) : ∀ (k : Nat) (acc : Array Nat), ((List.replicate k #[c]).foldl (· ++ ·) acc).toList = acc.toList ++ List.replicate k c
  | 0, acc => by simp
  | k + 1, acc => by
    rw [List.replicate_succ, List.foldl_cons, mul_reps c k, Array.toList_append, List.replicate_succ, List.append_assoc]
    rfl
theorem tl_mul {x : Str} {c : Nat} (hx : tl x = [c]) {n : Int} (hn : 1 ≤ n) : tl (Txt.mul x n) = List.replicate n.toNat c := by
  have ex : x = ⟨#[c]⟩ := ext_tl hx
  subst ex
  unfold Txt.mul
  rw [if_neg (by omega)]
  by_cases h1 : n = 1
  · subst h1
    rfl
  · have h2 : (n == 1) = false := by simpa using h1
    rw [h2, if_neg (show ¬ ((false || (⟨#[c]⟩ : Str).length == 0) = true) from by intro q; cases q)]
    show ((List.replicate n.toNat #[c]).foldl (· ++ ·) #[]).toList = _
    rw [mul_reps]
    rfl
theorem mulOk_one {x : Str} {c : Nat} (hx : tl x = [c]) {n : Int} (h1 : 1 ≤ n) (h2 : n ≤ 10000) : MulOk x n := by
  have hl : x.length = 1 := by rw [len_tl, hx]; rfl
  refine ⟨?_, fun _ _ => ?_, fun _ _ => ?_⟩
  · rw [Bool.or_eq_false_iff]
    exact ⟨decide_eq_false (by omega), decide_eq_false (by omega)⟩
  · rw [hl]
    intro q
    have : (2 ^ 63 - 1) / n ≥ 1 := Int.le_ediv_of_mul_le (by omega) (by omega)
    omega
  · rw [hl, Nat.one_mul]
    have : n.toNat ≤ 10000 := by omega
    unfold Builtin.Str.tooLong
    first
      | exact decide_eq_false (by rw [sizeLine_eq]; omega)
      | (simp [sizeLine_eq]; omega)
theorem rv_mulS {H : Hp} {x : Str} {n : Int} (h : MulOk x n) : RV rMulS (.str x) (.int n) H (.str (Txt.mul x n)) := fun H1 _ Q q => ⟨x, n, rfl, rfl, h, q H1 (Ex.refl H1)⟩
def sp_Lspoilt (K : PySem.W.Frag) : Sp := fun vs H Q _ => ∃ (ws : List Str) (c place : Nat), vs = [.str (jn spc ws), vi c, vi place] ∧ ws ≠ [] ∧ WsOk ws ∧ c < 9 ∧ place < 1000 ∧
  ∀ y H', BadL y → (y = "" → c = 0) → y.length ≤ 30000 → Ex H H' → Q (.str y) H'
abbrev nm_Lspoilt : List Str := ["_law_line_here", "_law_choice", "_law_place", "_law_words", "_law_at", "_law_long", "_law_wrong"]
abbrev pr_Lspoilt : List Str := ["_law_line_here", "_law_choice", "_law_place"]
def t_Lspoilt (K : PySem.W.Frag) : TS :=
  (tSeq (tAsg (tM1 rSplit (tVar 0) (tC (.str " "))) (gName 3))
  (tSeq (tAsg (tOp zMod (tCB cInt (tCons (tVar 2) tNil)) (tCB (cLen K) (tCons (tVar 3) tNil))) (gName 4))
  (tSeq (tIfS (tTest (tOp rEq (tVar 1) (tC (.int 0)))) (tRet (tC (.str ""))) tNext)
  (tSeq (tIfS (tTest (tOp rEq (tVar 1) (tC (.int 1)))) (tRet (tOp rCatStr (tVar 0) (tC (.str " ")))) tNext)
  (tSeq (tIfS (tTest (tOp rEq (tVar 1) (tC (.int 2)))) (tRet (tOp rCatStr (tC (.str " ")) (tVar 0))) tNext)
  (tSeq (tAsg (tOp (rIxL K) (tLst (tCons (tC (.str "12345")) (tCons (tOp rMulS (tC (.str "1")) (tC (.int 5000))) (tCons (tC (.str "1_0")) tNil)))) (tOp zMod (tCB cInt (tCons (tVar 2) tNil)) (tC (.int 3)))) (gName 5))
  (tSeq (tAsg (tOp (rIxL K) (tLst (tCons (tOp rCatStr (tOp (rIxL K) (tVar 3) (tVar 4)) (tC (.str " "))) (tCons (tOp rCatStr (tC (.str "0")) (tOp (rIxL K) (tVar 3) (tVar 4))) (tCons (tVar 5) (tCons (tC (.str "-1")) (tCons (tOp rCatStr (tOp (rIxL K) (tVar 3) (tVar 4)) (tC (.str "a"))) (tCons (tOp rCatStr (tC (.str "+")) (tOp (rIxL K) (tVar 3) (tVar 4))) tNil))))))) (tOp zSub (tVar 1) (tC (.int 3)))) (gName 6))
  (tRet (tM1 (rJoin K) (tC (.str " ")) (tOp rCat (tOp rCat (tSl (rSlL K) (tVar 3) tNoPart (tPart (tVar 4))) (tLst (tCons (tVar 6) tNil))) (tSl (rSlL K) (tVar 3) (tPart (tOp zAdd (tVar 4) (tC (.int 1)))) tNoPart)))))))))))
abbrev Wt_Lspoilt (K : PySem.W.Frag) (vs : List V) (H : Hp) (Q : VK) : Prop := t_Lspoilt K { nx := fun _ H' => Q .non H', rt := Q } (start nm_Lspoilt vs) H
theorem ln_Lspoilt {K : PySem.W.Frag} (vs : List V) (H : Hp) (Q : VK) (E : XK) (h : sp_Lspoilt K vs H Q E) : vs.length = pr_Lspoilt.length := by
  obtain ⟨_, _, _, rfl, _⟩ := h
  rfl
theorem WsOk.take {ws : List Str} (h : WsOk ws) (k : Nat) : WsOk (ws.take k) := ⟨fun w hw => h.w w (List.mem_of_mem_take hw), by rw [List.length_take]; have := h.n; omega⟩
theorem WsOk.drop {ws : List Str} (h : WsOk ws) (k : Nat) : WsOk (ws.drop k) := ⟨fun w hw => h.w w (List.mem_of_mem_drop hw), by rw [List.length_drop]; have := h.n; omega⟩
theorem WsOk.len {ws : List Str} (h : WsOk ws) : (jn spc ws).length ≤ 10100 := by
  have := jn_len tl_spc (ws := ws) (B := 100) fun w hw => (h.w w hw).2.2.2
  have := h.n
  have h5 : ws.length * (100 + 1) ≤ 10100 := by omega
  omega
theorem fmod_nat {a b : Nat} (hb : 0 < b) : ((a : Int)).fmod (b : Int) = ((a % b : Nat) : Int) := by
  rw [Int.fmod_eq_emod_of_nonneg _ (by omega)]
  norm_cast
theorem ev_modN {K : PySem.W.Frag} {σ : L2.St} {H : Hp} {i : Nat} {a m : Nat} {tb : TE} (ha : σ[i]? = some (some (vi a))) (hb : Ev tb σ H (vi m)) (hm : 0 < m) : Ev (tOp zMod (tCB cInt (tCons (tVar i) tNil)) tb) σ H (vi (a % m)) := by
  refine ev_is (ev_op (ev_cb (ea_1 (ev_var ha)) rc_int) hb (rv_I (by omega))) ?_
  show V.int _ = V.int _
  rw [fmod_nat hm]
theorem long_ok (j : Nat) : ∃ lg : Str, [V.str "12345", V.str (Txt.mul "1" 5000), V.str "1_0"][j % 3]? = some (.str lg) ∧ 32 ∉ tl lg ∧ 10 ∉ tl lg ∧ numB lg = false ∧ lg.length ≤ 6000 ∧ tl lg ≠ [] := by
  have h1 : tl (Txt.mul "1" 5000) = List.replicate 5000 49 := tl_mul (x := "1") (c := 49) rfl (by decide)
  have h3 : j % 3 < 3 := Nat.mod_lt _ (by decide)
  match j % 3, h3 with
  | 0, _ => exact ⟨"12345", rfl, by decide +kernel, by decide +kernel, numB_long (by decide +kernel), by decide +kernel, by decide +kernel⟩
  | 1, _ =>
    have hl : (Txt.mul "1" 5000).length = 5000 := by rw [len_tl, h1, List.length_replicate]
    refine ⟨Txt.mul "1" 5000, rfl, ?_, ?_, numB_long (by rw [hl]; decide), by rw [hl]; decide, ?_⟩
    · rw [h1]; intro q; have := List.eq_of_mem_replicate q; cases this
    · rw [h1]; intro q; have := List.eq_of_mem_replicate q; cases this
    · rw [h1]; intro q; have := congrArg List.length q; rw [List.length_replicate] at this; cases this
  | 2, _ => exact ⟨"1_0", rfl, by decide +kernel, by decide +kernel, numB_sign (c := 95) (by decide +kernel) (by decide +kernel), by decide +kernel, by decide +kernel⟩
  | n + 3, h => exact absurd h (by omega)
theorem wrong_ok {w lg : Str} (hw : tl w ≠ [] ∧ 32 ∉ tl w ∧ 10 ∉ tl w ∧ w.length ≤ 100) (hl : 32 ∉ tl lg ∧ 10 ∉ tl lg ∧ numB lg = false ∧ lg.length ≤ 6000 ∧ tl lg ≠ []) {j : Nat} (hj : j < 6) :
    ∃ C, BadC C ∧ [V.str (w ++ " "), V.str ("0" ++ w), V.str lg, V.str "-1", V.str (w ++ "a"), V.str ("+" ++ w)][j]? = some (.str (jn spc C)) := by
  obtain ⟨w1, w2, w3, w4⟩ := hw
  have lapp : ∀ a b : Str, (a ++ b).length = a.length + b.length := PySem.Str.length_append
  match j, hj with
  | 0, _ =>
    obtain ⟨h, e⟩ := badC_sp w2 w3 w4
    exact ⟨_, h, by rw [e]; rfl⟩
  | 1, _ =>
    obtain ⟨c, r, e⟩ := List.exists_cons_of_ne_nil w1
    have et : tl ("0" ++ w) = 48 :: c :: r := by rw [tl_append, e]; rfl
    refine ⟨_, badC_one (x := "0" ++ w) ?_ ?_ (numB_zero et) (by rw [lapp]; show 1 + _ ≤ _; omega) (by rw [et]; exact List.cons_ne_nil _ _), by rw [jn_one]; rfl⟩
    · rw [tl_append]; exact fun q => (List.mem_append.mp q).elim (fun q => by cases (List.mem_singleton.mp (show 32 ∈ [48] from q))) w2
    · rw [tl_append]; exact fun q => (List.mem_append.mp q).elim (fun q => by cases (List.mem_singleton.mp (show 10 ∈ [48] from q))) w3
  | 2, _ => exact ⟨_, badC_one hl.1 hl.2.1 hl.2.2.1 hl.2.2.2.1 hl.2.2.2.2, by rw [jn_one]; rfl⟩
  | 3, _ => exact ⟨_, badC_one (x := "-1") (by decide +kernel) (by decide +kernel) (numB_sign (c := 45) (by decide +kernel) (by decide +kernel)) (by decide +kernel) (by decide +kernel), by rw [jn_one]; rfl⟩
  | 4, _ =>
    have et : tl (w ++ "a") = tl w ++ [97] := by rw [tl_append]; rfl
    refine ⟨_, badC_one (x := w ++ "a") ?_ ?_ (numB_sign (c := 97) (by rw [et]; simp) (by decide +kernel)) (by rw [lapp]; show _ + 1 ≤ _; omega) (by rw [et]; simp), by rw [jn_one]; rfl⟩
    · rw [et]; exact fun q => (List.mem_append.mp q).elim w2 (fun q => by cases (List.mem_singleton.mp q))
    · rw [et]; exact fun q => (List.mem_append.mp q).elim w3 (fun q => by cases (List.mem_singleton.mp q))
  | 5, _ =>
    have et : tl ("+" ++ w) = 43 :: tl w := by rw [tl_append]; rfl
    refine ⟨_, badC_one (x := "+" ++ w) ?_ ?_ (numB_sign (c := 43) (by rw [et]; simp) (by decide +kernel)) (by rw [lapp]; show 1 + _ ≤ _; omega) (by rw [et]; simp), by rw [jn_one]; rfl⟩
    · rw [et]; exact fun q => (List.mem_cons.mp q).elim (fun q => by cases q) w2
    · rw [et]; exact fun q => (List.mem_cons.mp q).elim (fun q => by cases q) w3
  | n + 6, h => exact absurd h (by omega)
theorem rd_Lspoilt {K : PySem.W.Frag} (F : KF K) (vs : List V) (H : Hp) (Q : VK) (E : XK) (h : sp_Lspoilt K vs H Q E) : Wt_Lspoilt K vs H Q := by
  obtain ⟨ws, c, place, rfl, hne, hw, hc, hp, k⟩ := h
  show t_Lspoilt K _ [some (.str (jn spc ws)), some (vi c), some (vi place), none, none, none, none] H
  have hlen := hw.len
  have hpos : 0 < ws.length := List.length_pos_iff.mpr hne
  have hspl : Txt.split (jn spc ws) " " = ws := jn_split tl_spc (by decide +kernel) hne fun w h => (hw.w w h).2.1
  refine q_asgL (xs := S ws) (by
    have := el_split (σ := [some (.str (jn spc ws)), some (vi c), some (vi place), none, none, none, none]) (H := H) (ta := tVar 0) (tb := tC (.str " ")) (a := jn spc ws) (b := " ") (ev_var rfl) ev_c (by decide +kernel) (by omega)
    rw [hspl] at this
    exact this) (fun pw H1 hpw e1 h1 => ?_)
  refine q_asg (ev_modN (K := K) rfl (ev_is (ev_cb (ea_1 (ev_var rfl)) (rc_len (sq_of h1))) (by rw [List.length_map])) hpos) (fun H2 e2 => ?_)
  have hat : place % ws.length < ws.length := Nat.mod_lt _ hpos
  generalize place % ws.length = at_ at hat
  have h2 := e2 _ _ h1
  have cmp : ∀ (n : Nat) {G : Hp} {σ : L2.St}, σ[1]? = some (some (vi c)) → EvT (tTest (tOp rEq (tVar 1) (tC (.int (n : Int))))) σ G (decide (c = n)) := fun n G σ hs => et_is (et_test (ev_op (ev_var hs) ev_c (rv_eq rfl))) (decide_eq_decide.mpr ⟨fun q => by have : (c : Int) = (n : Int) := V.int.inj q; omega, fun q => by rw [q]⟩)
  refine q_when (cmp 0 rfl) (fun hb H3 e3 => s_ret ev_c (fun H4 e4 => k "" H4 ⟨[""], by simp, by rw [jn_one], fun w hw => by rw [List.mem_singleton.mp hw]; exact ⟨by decide, by decide⟩, ⟨"", by simp, numB_nil rfl⟩, fun w hw => by rw [List.mem_singleton.mp hw]; decide, by decide⟩ (fun _ => of_decide_eq_true hb) (by decide) (((e1.trans e2).trans e3).trans e4))) (fun hb0 H3 e3 => ?_)
  have c0 := of_decide_eq_false hb0
  refine q_when (cmp 1 rfl) (fun hb H4 e4 => s_ret (ev_op (ev_var rfl) ev_c (rv_catS (by show _ + 1 ≤ _; omega))) (fun H5 e5 => ?_)) (fun hb1 H4 e4 => ?_)
  · have hl : (jn spc ws ++ (" " : Str)).length = (jn spc ws).length + 1 := PySem.Str.length_append _ _
    refine k _ H5 ⟨ws ++ [("" : Str)], by simp, ext_tl ?_, fun w hw' => ?_, ⟨"", by simp, numB_nil rfl⟩, fun w hw' => ?_, by rw [List.length_append]; have := hw.n; simp only [List.length_singleton]; omega⟩ (fun q => ?_) (by rw [hl]; omega) ((((e1.trans e2).trans e3).trans e4).trans e5)
    · rw [tl_append, tl_jn, tl_jn, tl_spc, List.map_append, joinL_app [32] (ws.map tl) _ (fun q => hne (List.map_eq_nil_iff.mp q)) (by simp)]
      rfl
    · rcases List.mem_append.mp hw' with hw' | hw'
      · exact ⟨(hw.w w hw').2.1, (hw.w w hw').2.2.1⟩
      · rw [List.mem_singleton.mp hw']; exact ⟨by decide, by decide⟩
    · rcases List.mem_append.mp hw' with hw' | hw'
      · have := (hw.w w hw').2.2.2; omega
      · rw [List.mem_singleton.mp hw']; decide
    · exfalso
      have := congrArg PySem.Str.length q
      rw [hl] at this
      have h0 : ("" : Str).length = 0 := rfl
      omega
  have c1 := of_decide_eq_false hb1
  refine q_when (cmp 2 rfl) (fun hb H5 e5 => s_ret (ev_op ev_c (ev_var rfl) (rv_catS (by show 1 + _ ≤ _; omega))) (fun H6 e6 => ?_)) (fun hb2 H5 e5 => ?_)
  · have hl : ((" " : Str) ++ jn spc ws).length = 1 + (jn spc ws).length := PySem.Str.length_append _ _
    refine k _ H6 ⟨"" :: ws, by simp, ext_tl ?_, fun w hw' => ?_, ⟨"", by simp, numB_nil rfl⟩, fun w hw' => ?_, by simp only [List.length_cons]; have := hw.n; omega⟩ (fun q => ?_) (by rw [hl]; omega) (((((e1.trans e2).trans e3).trans e4).trans e5).trans e6)
    · rw [tl_append, tl_jn, tl_jn, tl_spc, List.map_cons]
      have := joinL_app [32] [tl ("" : Str)] (ws.map tl) (by simp) (fun q => hne (List.map_eq_nil_iff.mp q))
      rw [List.singleton_append] at this
      rw [this]
      rfl
    · rcases List.mem_cons.mp hw' with rfl | hw'
      · exact ⟨by decide, by decide⟩
      · exact ⟨(hw.w w hw').2.1, (hw.w w hw').2.2.1⟩
    · rcases List.mem_cons.mp hw' with rfl | hw'
      · decide
      · have := (hw.w w hw').2.2.2; omega
    · exfalso
      have := congrArg PySem.Str.length q
      rw [hl] at this
      have h0 : ("" : Str).length = 0 := rfl
      omega
  have c2 := of_decide_eq_false hb2
  obtain ⟨lg, g0, gl⟩ := long_ok place
  refine q_asg (v := .str lg) (ev_opL1 (el_lst (ea_cons ev_c (ea_2 (ev_op ev_c ev_c (rv_mulS (mulOk_one (c := 49) rfl (by decide) (by decide)))) ev_c)) (by show 3 ≤ 100000; decide)) (fun H1 _ => ev_modN (K := K) (a := place) (m := 3) rfl ev_c (by decide)) (fun p H6 hp6 _ => rv_ixL (sq_of hp6) (atI_nat g0))) (fun H6 e6 => ?_)
  have h6 := e6 _ _ (e5 _ _ (e4 _ _ (e3 _ _ h2)))
  obtain ⟨w, hwat⟩ : ∃ w, ws[at_]? = some w := ⟨ws[at_]'hat, List.getElem?_eq_getElem hat⟩
  have hwm := hw.w w (List.mem_of_getElem? hwat)
  have evw : ∀ {σ : L2.St} {G : Hp}, σ[3]? = some (some (.ref pw)) → σ[4]? = some (some (vi at_)) → G pw = some (.lst (S ws)) → Ev (tOp (rIxL K) (tVar 3) (tVar 4)) σ G (.str w) := fun s3 s4 hg => ev_op (ev_var s3) (ev_var s4) (rv_ixL (sq_of hg) (atI_nat (by rw [List.getElem?_map, hwat]; rfl)))
  obtain ⟨C, hC, hCj⟩ := wrong_ok hwm gl (j := c - 3) (by omega)
  refine q_asg (v := .str (jn spc C)) (ev_opL1 (el_lst (ea_cons (ev_op (evw rfl rfl h6) ev_c (rv_catS (by show _ + 1 ≤ _; have := hwm.2.2.2; omega))) (ea_cons (ev_op ev_c (evw rfl rfl h6) (rv_catS (by show 1 + _ ≤ _; have := hwm.2.2.2; omega))) (ea_cons (ev_var rfl) (ea_cons ev_c (ea_2 (ev_op (evw rfl rfl h6) ev_c (rv_catS (by show _ + 1 ≤ _; have := hwm.2.2.2; omega))) (ev_op ev_c (evw rfl rfl h6) (rv_catS (by show 1 + _ ≤ _; have := hwm.2.2.2; omega)))))))) (by show 6 ≤ 100000; decide)) (fun H1 _ => ev_op (ev_var rfl) ev_c rv_I0) (fun p H7 hp7 _ => rv_ixL (sq_of hp7) (at_of (j := c - 3) (by dsimp only; omega) hCj))) (fun H7 e7 => ?_)
  have h7 := e7 _ _ h6
  have hA := hw.take at_
  have hB := hw.drop (at_ + 1)
  obtain ⟨b1, b2, b3⟩ := bad_mid hA hB hC
  have ecut := el_cut (K := K) (ta := tVar 3) (te := tVar 6) (v := .str (jn spc C)) (σ := [some (.str (jn spc ws)), some (vi c), some (vi place), some (.ref pw), some (vi at_), some (.str lg), some (.str (jn spc C))]) (p := at_) (q := at_ + 1) (t1 := tVar 4) (t2 := tOp zAdd (tVar 4) (tC (.int 1))) (ev_var rfl) (sq_of h7) (ev_var rfl) (ev_is (ev_op (ev_var rfl) ev_c rv_I0) (by show V.int _ = V.int _; congr 1)) (ev_var rfl) (by rw [List.length_map]; omega) (by rw [List.length_map]; omega) (by rw [List.length_map]; have := hw.n; omega)
  have es : (S ws).take at_ ++ [V.str (jn spc C)] ++ (S ws).drop (at_ + 1) = S (ws.take at_ ++ [jn spc C] ++ ws.drop (at_ + 1)) := by
    show _ = List.map V.str (_ ++ _ ++ _)
    rw [List.map_append, List.map_append, List.map_take, List.map_drop]
    rfl
  rw [es] at ecut
  refine s_ret (ev_joinL ev_c ecut ?_) (fun H8 e8 => k _ H8 b1 (fun q => absurd q b2) b3 (((((((e1.trans e2).trans e3).trans e4).trans e5).trans e6).trans e7).trans e8))
  have := sum_len (ws := ws.take at_ ++ [jn spc C] ++ ws.drop (at_ + 1)) (B := 6000) fun z hz => by
    rcases List.mem_append.mp hz with hz | hz
    · rcases List.mem_append.mp hz with hz | hz
      · have := (hA.w z hz).2.2.2; omega
      · rw [List.mem_singleton.mp hz]; exact hC.all
    · have := (hB.w z hz).2.2.2; omega
  have hl3 : (ws.take at_ ++ [jn spc C] ++ ws.drop (at_ + 1)).length ≤ 201 := by
    rw [List.length_append, List.length_append]
    have := hA.n
    have := hB.n
    simp only [List.length_singleton]
    omega
  have h1' : (" " : Str).length = 1 := rfl
  rw [h1']
  omega
end K14
namespace K14
open PySem PySem.Spec PyProof.Rows L2 Evl TL Hm
def sp_Ltold (K : PySem.W.Frag) : Sp := fun vs H Q _ => ∃ (text : Str) (gs : List (List Nat)) (rest : List Str), vs = [.str text] ∧ text ≠ "" ∧ FacesIn text gs rest ∧ gs.flatten.length ≤ 1000 ∧
  ((rest ≠ [] ∧ ∀ q H', H q = none → Ex H H' → H' q = some (.lst [.str "line", vi (gs.length + 1), .bl true]) → Q (.ref q) H') ∨
   (rest = [] ∧ ¬ Good (L gs.flatten) ∧ ∀ q H', H q = none → Ex H H' → H' q = some (.lst [.str "mesh", .bl true]) → Q (.ref q) H'))
abbrev nm_Ltold : List Str := ["_law_text", "e"]
abbrev pr_Ltold : List Str := ["_law_text"]
def t_Ltold (K : PySem.W.Frag) : TS :=
  (tSeq (tTryM K [(.ref (He.ga K "BadLine"), 1, fun a cls d => tPre (cls = .ref (He.ga K "BadLine")) (tRet (tLst (tCons (tC (.str "line")) (tCons (tXf a cls d (He.ga K "BadLine") "line" (tVar 1)) (tCons (tCB (rIsX K (He.ga K "BadLine") a d) (tCons (tVar 1) (tCons (tC (.ref (He.ga K "MeshError"))) tNil))) tNil)))))), (.ref (He.ga K "NotAMesh"), 1, fun a cls d => tPre (cls = .ref (He.ga K "NotAMesh") ∧ d = none) (tRet (tLst (tCons (tC (.str "mesh")) (tCons (tCB (rIsE K (He.ga K "NotAMesh") a) (tCons (tVar 1) (tCons (tC (.ref (He.ga K "MeshError"))) tNil))) tNil)))))] (fun W => (tDrop (tCall (sp_readmesh K) [] (eLen 2 W) (tCons (tVar 0) tNil)))))
  (tRet (tLst (tCons (tC (.str "none")) tNil))))
abbrev Wt_Ltold (K : PySem.W.Frag) (vs : List V) (H : Hp) (Q : VK) : Prop := t_Ltold K { nx := fun _ H' => Q .non H', rt := Q } (start nm_Ltold vs) H
theorem ln_Ltold {K : PySem.W.Frag} (vs : List V) (H : Hp) (Q : VK) (E : XK) (h : sp_Ltold K vs H Q E) : vs.length = pr_Ltold.length := by
  obtain ⟨_, _, _, rfl, _⟩ := h
  rfl
theorem q_tryC {K : PySem.W.Frag} {sp : Sp} {l : List Cl} {n : Nat} {vs : List V} {tp : TA} {tz : TS} {D : Ends} {σ : L2.St} {H : Hp} (hp : EvA tp σ H vs) (k : ∀ H1, Ex H H1 → sp vs H1 (fun _ H2 => tz D σ H2) (eLen n (wManyAs K (fun _ _ _ _ => False) { D with nx := tz D } l))) :
    tSeq (tTryM K l (fun W => tDrop (tCall sp [] (eLen n W) tp))) tz D σ H := hp H (Ex.refl H) (fun vs H1 => sp (vs ++ []) H1 (fun _ H2 => tz D σ H2) (eLen n (wManyAs K (fun _ _ _ _ => False) { D with nx := tz D } l))) fun H1 e1 => by
  show sp (vs ++ []) H1 _ _
  rw [List.append_nil]
  exact k H1 e1
theorem rd_Ltold {K : PySem.W.Frag} (F : KE K) (vs : List V) (H : Hp) (Q : VK) (E : XK) (h : sp_Ltold K vs H Q E) : Wt_Ltold K vs H Q := by
  obtain ⟨text, gs, rest, rfl, hne, hF, hz, hc⟩ := h
  show t_Ltold K _ [some (.str text), none] H
  refine q_tryC (ea_1 (ev_var rfl)) (fun H1 e1 => ⟨text, rfl, .inr ⟨hne, gs, rest, hF, hz, fun hr => ?_, fun hr H' d ex hd hd2 => ?_⟩⟩)
  · rcases hc with ⟨h1, _⟩ | ⟨_, hb, k⟩
    · exact absurd hr h1
    refine .inr ⟨hb, fun H' e' σ' hσ => ⟨false, F.f2, (fun h => nomatch h), fun _ => ⟨true, F.f1, fun _ a ha => ⟨⟨rfl, rfl⟩, ?_⟩, (fun h => nomatch h)⟩⟩⟩
    have hs : (σ'.set 1 (some (V.ref a)))[1]? = some (some (.ref a)) := List.getElem?_set_self (by omega)
    exact s_retL (el_lst (ea_2 ev_c (ev_cb (ea_2 (ev_var hs) ev_c) (rc_isE (fun u r => r) F.f4))) (by show 2 ≤ 100000; decide)) (fun q H2 hq e2 h2 => k q H2 (fresh_back (e1.trans e') hq) ((e1.trans e').trans e2) h2)
  · rcases hc with ⟨_, k⟩ | ⟨h1, _⟩
    · intro σ' hσ
      refine ⟨true, F.f3, fun _ a ha => ⟨rfl, ?_⟩, (fun h => nomatch h)⟩
      have hs : (σ'.set 1 (some (V.ref a)))[1]? = some (some (.ref a)) := List.getElem?_set_self (by omega)
      exact s_retL (el_lst (ea_cons ev_c (ea_2 (ev_xf (v := vi (gs.length + 1)) (ev_var hs) rfl rfl hd2 (by rw [List.lookup_cons, beq_self_eq_true])) (ev_cb (ea_2 (ev_var hs) ev_c) (rc_isX rfl hd2 (fun u r => r) F.f5)))) (by show 3 ≤ 100000; decide)) (fun q H2 hq e2 h2 => k q H2 (fresh_back (e1.trans ex) hq) ((e1.trans ex).trans e2) h2)
    · exact absurd h1 hr
/-! ### a wrong count -/
theorem bad_big {l : List Nat} {m : Nat} (hm : m ∈ l) (hl : l.length ≤ m) : ¬ Good (L l) := fun h => by
  obtain ⟨n, hn, e⟩ := good_mem h (List.mem_map.mpr ⟨m, hm, rfl⟩)
  rw [L_len] at hn
  have : (m : Int) = (n : Int) := V.int.inj e
  omega
theorem bad_odd {l : List Nat} (h : l.length % 2 = 1) : ¬ Good (L l) := fun q => by
  have := good_even q
  rw [L_len] at this
  omega
theorem bad_twice {A B : List Nat} {x m N : Nat} (hp : (A ++ [x] ++ B).Perm (List.range N)) (hm : m ≠ x) : ¬ Good (L (A ++ [m] ++ B)) := fun h => by
  obtain ⟨ns, e, hP, _⟩ := h
  obtain rfl := L_inj e
  have hlen : (A ++ [m] ++ B).length = N := by
    have := hp.length_eq
    rw [List.length_range] at this
    rw [← this]
    simp
  have hx : x < N := List.mem_range.mp (hp.mem_iff.mp (by simp))
  have hxm : x ∈ A ++ [m] ++ B := hP.mem.mpr (by rw [hlen]; exact hx)
  have hnd : (A ++ [x] ++ B).Nodup := hp.symm.nodup List.nodup_range
  rw [List.append_assoc, List.nodup_append] at hnd
  obtain ⟨_, h2, h3⟩ := hnd
  have h4 : x ∉ B := (List.nodup_cons.mp h2).1
  have h5 : x ∉ A := fun q => h3 x q x (by simp) rfl
  simp only [List.mem_append, List.mem_singleton] at hxm
  rcases hxm with (q | q) | q
  · exact h5 q
  · exact hm q.symm
  · exact h4 q
def sp_Lmiscounted (K : PySem.W.Frag) : Sp := fun vs H Q _ => ∃ (p : Addr) (fs : List (List Nat)) (c place N : Nat), vs = [.ref p, vi c, vi place, vi N] ∧ H p = some (.lst (S (fs.map lineOf))) ∧ (∀ f ∈ fs, GoodG f) ∧ fs ≠ [] ∧ fs.length ≤ 100 ∧ fs.flatten.Perm (List.range N) ∧ 2 ≤ N ∧ N ≤ 60 ∧ N % 2 = 0 ∧ 9 ≤ c ∧ c ≤ 11 ∧ place < 97 ∧
  ∀ q H' hs, H q = none → Ex H H' → H' q = some (.lst (S (hs.map lineOf))) → (∀ h ∈ hs, GoodG h) → hs ≠ [] → hs.length ≤ 101 → hs.flatten.length ≤ 200 → ¬ Good (L hs.flatten) → Q (.ref q) H'
abbrev nm_Lmiscounted : List Str := ["_law_lines", "_law_choice", "_law_place", "_law_size_here", "_law_at", "_law_words", "_law_spot"]
abbrev pr_Lmiscounted : List Str := ["_law_lines", "_law_choice", "_law_place", "_law_size_here"]
def t_Lmiscounted (K : PySem.W.Frag) : TS :=
  (tSeq (tAsg (tOp zMod (tCB cInt (tCons (tVar 2) tNil)) (tCB (cLen K) (tCons (tVar 0) tNil))) (gName 4))
  (tSeq (tAsg (tM1 rSplit (tOp (rIxL K) (tVar 0) (tVar 4)) (tC (.str " "))) (gName 5))
  (tSeq (tAsg (tOp zMod (tCB cInt (tCons (tVar 2) tNil)) (tCB (cLen K) (tCons (tVar 5) tNil))) (gName 6))
  (tSeq (tIfS (tTest (tOp rEq (tVar 1) (tC (.int 11)))) (tRet (tOp rCat (tVar 0) (tLst (tCons (tOp (rIxL K) (tLst (tCons (tOp (rIxL K) (tVar 5) (tVar 6)) (tCons (tCB cStr (tCons (tVar 3) tNil)) tNil))) (tOp zMod (tCB cInt (tCons (tVar 2) tNil)) (tC (.int 2)))) tNil)))) tNext)
  (tSeq (tIfS (tTest (tOp rEq (tVar 1) (tC (.int 9)))) (tAsg (tOp (rIxL K) (tLst (tCons (tCB cStr (tCons (tVar 3) tNil)) (tCons (tCB cStr (tCons (tOp zAdd (tC (.int 100)) (tVar 2)) tNil)) (tCons (tC (.str "9999")) tNil)))) (tOp zMod (tCB cInt (tCons (tVar 2) tNil)) (tC (.int 3)))) (gSub (tVar 5) (tVar 6) rSetL)) (tIfS (tTest (tOp zGt (tVar 2) (tC (.int 40)))) (tAsg (tOp rCat (tOp rCat (tSl (rSlL K) (tVar 5) tNoPart (tPart (tVar 6))) (tLst (tCons (tOp (rIxL K) (tVar 5) (tVar 6)) tNil))) (tSl (rSlL K) (tVar 5) (tPart (tVar 6)) tNoPart)) (gName 5)) (tAsg (tCB cStr (tCons (tOp zMod (tCB cInt (tCons (tOp zAdd (tCB cIntS (tCons (tOp (rIxL K) (tVar 5) (tVar 6)) tNil)) (tC (.int 1))) tNil)) (tVar 3)) tNil)) (gSub (tVar 5) (tVar 6) rSetL))))
  (tRet (tOp rCat (tOp rCat (tSl (rSlL K) (tVar 0) tNoPart (tPart (tVar 4))) (tLst (tCons (tM1 (rJoin K) (tC (.str " ")) (tVar 5)) tNil))) (tSl (rSlL K) (tVar 0) (tPart (tOp zAdd (tVar 4) (tC (.int 1)))) tNoPart))))))))
abbrev Wt_Lmiscounted (K : PySem.W.Frag) (vs : List V) (H : Hp) (Q : VK) : Prop := t_Lmiscounted K { nx := fun _ H' => Q .non H', rt := Q } (start nm_Lmiscounted vs) H
theorem ln_Lmiscounted {K : PySem.W.Frag} (vs : List V) (H : Hp) (Q : VK) (E : XK) (h : sp_Lmiscounted K vs H Q E) : vs.length = pr_Lmiscounted.length := by
  obtain ⟨_, _, _, _, _, rfl, _⟩ := h
  rfl
theorem log_small {n : Nat} (h : n < 100000) : ((n : Nat) : Int).natAbs.log2 < 1920 := by
  rw [Int.natAbs_natCast]
  by_cases h0 : n = 0
  · rw [h0]; decide
  · have h17 : (2 : Nat) ^ 17 = 131072 := by decide
    have := (Nat.log2_lt (k := 17) h0).mpr (by omega)
    omega
theorem ev_strN {σ : L2.St} {H : Hp} {te : TE} {n : Nat} (h : Ev te σ H (vi n)) (hn : n < 100000) : Ev (tCB cStr (tCons te tNil)) σ H (.str (num n)) := ev_cb (ea_1 h) (rc_str (log_small hn))
theorem mem_flat_len {fs : List (List Nat)} {f : List Nat} (h : f ∈ fs) : f.length ≤ fs.flatten.length := by
  induction fs with
  | nil => cases h
  | cons a r ih =>
    rw [List.flatten_cons, List.length_append]
    rcases List.mem_cons.mp h with rfl | h
    · omega
    · have := ih h
      omega
theorem rd_Lmiscounted {K : PySem.W.Frag} (F : KF K) (vs : List V) (H : Hp) (Q : VK) (E : XK) (h : sp_Lmiscounted K vs H Q E) : Wt_Lmiscounted K vs H Q := by
  obtain ⟨p, fs, c, place, N, rfl, hp, hg, hne, hfl, hperm, hN2, hN, hNe, hc1, hc2, hpl, k⟩ := h
  show t_Lmiscounted K _ [some (.ref p), some (vi c), some (vi place), some (vi N), none, none, none] H
  have hpos : 0 < fs.length := List.length_pos_iff.mpr hne
  have hflen : fs.flatten.length = N := by rw [hperm.length_eq, List.length_range]
  refine q_asg (ev_modN (K := K) rfl (ev_is (ev_cb (ea_1 (ev_var rfl)) (rc_len (sq_of hp))) (by rw [List.length_map, List.length_map])) hpos) (fun H1 e1 => ?_)
  have hat : place % fs.length < fs.length := Nat.mod_lt _ hpos
  generalize place % fs.length = at_ at hat
  have hgf : fs[at_]? = some (fs[at_]'hat) := List.getElem?_eq_getElem hat
  have hfeq : fs = fs.take at_ ++ (fs[at_]'hat :: fs.drop (at_ + 1)) := by rw [← List.drop_eq_getElem_cons hat, List.take_append_drop]
  have hgg := hg _ (List.getElem_mem hat)
  generalize fs[at_]'hat = g at hgf hfeq hgg
  have hgl : g.length ≤ 60 := by
    have := mem_flat_len (List.mem_of_getElem? hgf)
    omega
  have gpos : 0 < g.length := List.length_pos_iff.mpr hgg.1
  have hp1 := e1 _ _ hp
  have hll := line_len hgg.2.2
  refine q_asgL (xs := S (g.map num)) (by
    have := el_split (σ := [some (.ref p), some (vi c), some (vi place), some (vi N), some (vi at_), none, none]) (H := H1) (ta := tOp (rIxL K) (tVar 0) (tVar 4)) (tb := tC (.str " ")) (a := lineOf g) (b := " ") (ev_op (ev_var rfl) (ev_var rfl) (rv_ixL (sq_of hp1) (atI_nat (by rw [List.getElem?_map, List.getElem?_map, hgf]; rfl)))) ev_c (by decide +kernel) (by omega)
    rw [show Txt.split (lineOf g) " " = _ from line_words hgg.1] at this
    exact this) (fun pw H2 hpw e2 h2 => ?_)
  refine q_asg (ev_modN (K := K) rfl (ev_is (ev_cb (ea_1 (ev_var rfl)) (rc_len (sq_of h2))) (by rw [List.length_map, List.length_map])) gpos) (fun H3 e3 => ?_)
  have hsp : place % g.length < g.length := Nat.mod_lt _ gpos
  generalize place % g.length = spot at hsp
  have hgx : g[spot]? = some (g[spot]'hsp) := List.getElem?_eq_getElem hsp
  have hgeq : g = g.take spot ++ (g[spot]'hsp :: g.drop (spot + 1)) := by rw [← List.drop_eq_getElem_cons hsp, List.take_append_drop]
  have hxlt := hgg.2.2 _ (List.getElem_mem hsp)
  have hxN : g[spot]'hsp < N := List.mem_range.mp (hperm.mem_iff.mp (List.mem_flatten.mpr ⟨g, List.mem_of_getElem? hgf, List.getElem_mem hsp⟩))
  generalize g[spot]'hsp = x at hgx hgeq hxlt hxN
  have hflat : fs.flatten = ((fs.take at_).flatten ++ g.take spot) ++ [x] ++ (g.drop (spot + 1) ++ (fs.drop (at_ + 1)).flatten) := by
    have h1 := congrArg List.flatten hfeq
    rw [List.flatten_append, List.flatten_cons] at h1
    rw [h1]
    conv => lhs; rw [hgeq]
    simp only [List.append_assoc, List.cons_append, List.nil_append, List.singleton_append]
  have hperm' : (((fs.take at_).flatten ++ g.take spot) ++ [x] ++ (g.drop (spot + 1) ++ (fs.drop (at_ + 1)).flatten)).Perm (List.range N) := by rw [← hflat]; exact hperm
  have hp3 := e3 _ _ (e2 _ _ hp1)
  have h3 := e3 _ _ h2
  have hpwp : H pw = none := fresh_back e1 hpw
  have x3 := (e1.trans e2).trans e3
  have evx : ∀ {σ : L2.St} {G : Hp}, σ[5]? = some (some (.ref pw)) → σ[6]? = some (some (vi spot)) → G pw = some (.lst (S (g.map num))) → Ev (tOp (rIxL K) (tVar 5) (tVar 6)) σ G (.str (num x)) := fun s5 s6 hG => ev_op (ev_var s5) (ev_var s6) (rv_ixL (sq_of hG) (atI_nat (by rw [List.getElem?_map, List.getElem?_map, hgx]; rfl)))
  have cmp : ∀ (n : Nat) {G : Hp} {σ : L2.St}, σ[1]? = some (some (vi c)) → EvT (tTest (tOp rEq (tVar 1) (tC (.int (n : Int))))) σ G (decide (c = n)) := fun n G σ hs => et_is (et_test (ev_op (ev_var hs) ev_c (rv_eq rfl))) (decide_eq_decide.mpr ⟨fun q => by have : (c : Int) = (n : Int) := V.int.inj q; omega, fun q => by rw [q]⟩)
  refine q_when (cmp 11 rfl) (fun hb H4 e4 => ?_) (fun hb H4 e4 => ?_)
  · obtain ⟨m, hm1, hm2⟩ : ∃ m, [V.str (num x), V.str (num N)][place % 2]? = some (.str (num m)) ∧ m < 10000 := by
      have h2' : place % 2 < 2 := Nat.mod_lt _ (by decide)
      match place % 2, h2' with
      | 0, _ => exact ⟨x, rfl, hxlt⟩
      | 1, _ => exact ⟨N, rfl, by omega⟩
      | n + 2, h => exact absurd h (by omega)
    have hp4 := e4 _ _ hp3
    have h4 := e4 _ _ h3
    have el1 : EvL (tLst (tCons (tOp (rIxL K) (tLst (tCons (tOp (rIxL K) (tVar 5) (tVar 6)) (tCons (tCB cStr (tCons (tVar 3) tNil)) tNil))) (tOp zMod (tCB cInt (tCons (tVar 2) tNil)) (tC (.int 2)))) tNil)) [some (.ref p), some (vi c), some (vi place), some (vi N), some (vi at_), some (.ref pw), some (vi spot)] H4 [.str (num m)] :=
      el_lst (ea_1 (ev_opL1 (el_lst (ea_2 (evx rfl rfl h4) (ev_strN (ev_var rfl) (by omega))) (by show 2 ≤ 100000; decide)) (fun G _ => ev_modN (K := K) (a := place) (m := 2) rfl ev_c (by decide)) (fun p' G hp' _ => rv_ixL (sq_of hp') (atI_nat hm1)))) (by show 1 ≤ 100000; decide)
    refine s_retL (fun G e Q' q => (ev_var (v := .ref p) rfl : Ev (tVar 0) _ G _) G (Ex.refl G) _ fun G1 e1' => el1 G1 (e.trans e1') _ fun p' G2 hp' e2' h2' => ⟨p, p', _, _, rfl, rfl, e2' _ _ (e1' _ _ (e _ _ hp4)), h2', sz_of (by rw [List.length_map, List.length_map]; show _ + 1 ≤ _; omega), fun r hr => q r _ (fresh_back (e1'.trans e2') hr) ((e1'.trans e2').trans (Ex.new hr)) upd_same⟩ : EvL (tOp rCat (tVar 0) _) _ H4 (S (fs.map lineOf) ++ [.str (num m)])) (fun q H5 hq e5 h5 => ?_)
    have em : lineOf [m] = num m := by unfold lineOf; exact jn_one _ _
    refine k q H5 (fs ++ [[m]]) (fresh_back (x3.trans e4) hq) ((x3.trans e4).trans e5) (by rw [h5, List.map_append]; show _ = some (HO.lst (List.map V.str (_ ++ _))); rw [List.map_append, List.map_singleton, List.map_singleton, em]) (fun f hf => ?_) (by simp) (by rw [List.length_append]; show _ + 1 ≤ _; omega) (by rw [List.flatten_append, List.length_append, hflen]; show _ + 1 ≤ _; omega) (bad_odd ?_)
    · rcases List.mem_append.mp hf with hf | hf
      · exact hg f hf
      · rw [List.mem_singleton.mp hf]
        exact ⟨by simp, by show 1 ≤ 1000; decide, fun n hn => by rw [List.mem_singleton.mp hn]; exact hm2⟩
    · rw [List.flatten_append, List.length_append, hflen]
      show (N + 1) % 2 = 1
      omega
  have hcn := of_decide_eq_false hb
  have hp4 := e4 _ _ hp3
  have h4 := e4 _ _ h3
  have x4 := x3.trans e4
  -- the end, from the changed words
  have fin : ∀ (g' : List Nat) (pw' : Addr) (H5 : Hp), H5 pw' = some (.lst (S (g'.map num))) → H5 p = some (.lst (S (fs.map lineOf))) → Ex H H5 → GoodG g' → g'.length ≤ 61 → ¬ Good (L (((fs.take at_) ++ [g'] ++ fs.drop (at_ + 1)).flatten)) →
      (tRet (tOp rCat (tOp rCat (tSl (rSlL K) (tVar 0) tNoPart (tPart (tVar 4))) (tLst (tCons (tM1 (rJoin K) (tC (.str " ")) (tVar 5)) tNil))) (tSl (rSlL K) (tVar 0) (tPart (tOp zAdd (tVar 4) (tC (.int 1)))) tNoPart)))
        { nx := fun _ H' => Q .non H', rt := Q } [some (.ref p), some (vi c), some (vi place), some (vi N), some (vi at_), some (.ref pw'), some (vi spot)] H5 := by
    intro g' pw' H5 hw5 hp5 x5 hg' hgl' hbad
    have hj : (((g'.map num)).map (·.length)).sum + (g'.map num).length * (" " : Str).length ≤ 16777216 := by
      have := sum_len (ws := g'.map num) (B := 4) fun w hw => by
        obtain ⟨n, hn, rfl⟩ := List.mem_map.mp hw
        exact num_len (hg'.2.2 n hn)
      rw [List.length_map] at this ⊢
      have h1 : (" " : Str).length = 1 := rfl
      rw [h1]
      omega
    have ecut := el_cut (K := K) (ta := tVar 0) (te := tM1 (rJoin K) (tC (.str " ")) (tVar 5)) (v := .str (lineOf g')) (σ := [some (.ref p), some (vi c), some (vi place), some (vi N), some (vi at_), some (.ref pw'), some (vi spot)]) (p := at_) (q := at_ + 1) (t1 := tVar 4) (t2 := tOp zAdd (tVar 4) (tC (.int 1))) (ev_var rfl) (sq_of hp5) (ev_var rfl) (ev_is (ev_op (ev_var rfl) ev_c rv_I0) (by show V.int _ = V.int _; congr 1)) (ev_join ev_c (ev_var rfl) (sq_of hw5) hj) (by rw [List.length_map, List.length_map]; omega) (by rw [List.length_map, List.length_map]; omega) (by rw [List.length_map, List.length_map]; omega)
    have es : (S (fs.map lineOf)).take at_ ++ [V.str (lineOf g')] ++ (S (fs.map lineOf)).drop (at_ + 1) = S ((fs.take at_ ++ [g'] ++ fs.drop (at_ + 1)).map lineOf) := by
      show _ = List.map V.str (List.map lineOf (_ ++ _ ++ _))
      rw [List.map_append, List.map_append, List.map_append, List.map_append, List.map_take, List.map_drop, List.map_take, List.map_drop]
      rfl
    rw [es] at ecut
    refine s_retL ecut (fun q H6 hq e6 h6 => k q H6 _ (fresh_back x5 hq) (x5.trans e6) h6 (fun f hf => ?_) (by simp) ?_ ?_ hbad)
    · rcases List.mem_append.mp hf with hf | hf
      · rcases List.mem_append.mp hf with hf | hf
        · exact hg f (List.mem_of_mem_take hf)
        · rw [List.mem_singleton.mp hf]; exact hg'
      · exact hg f (List.mem_of_mem_drop hf)
    · simp only [List.length_append, List.length_singleton, List.length_take, List.length_drop]
      omega
    · rw [List.flatten_append, List.flatten_append, List.length_append, List.length_append]
      have h1 := congrArg List.length hflat
      rw [hflen] at h1
      simp only [List.length_append, List.length_singleton] at h1
      simp only [List.flatten_cons, List.flatten_nil, List.append_nil]
      omega
  have fset : ∀ m : Nat, ((fs.take at_) ++ [g.set spot m] ++ fs.drop (at_ + 1)).flatten = ((fs.take at_).flatten ++ g.take spot) ++ [m] ++ (g.drop (spot + 1) ++ (fs.drop (at_ + 1)).flatten) := by
    intro m
    rw [List.set_eq_take_append_cons_drop, if_pos hsp]
    simp only [List.flatten_append, List.flatten_cons, List.flatten_nil, List.append_nil, List.append_assoc, List.cons_append, List.nil_append, List.singleton_append]
  have gset : ∀ m : Nat, m < 10000 → GoodG (g.set spot m) := fun m hm => ⟨fun q => by
    have := congrArg List.length q
    rw [List.length_set] at this
    simp only [List.length_nil] at this
    omega, by rw [List.length_set]; exact hgg.2.1, fun n hn => by
    rcases List.mem_or_eq_of_mem_set hn with h | h
    · exact hgg.2.2 n h
    · rw [h]; exact hm⟩
  have sset : ∀ m : Nat, (S (g.map num)).set spot (.str (num m)) = S ((g.set spot m).map num) := fun m => by
    show (List.map V.str _).set _ _ = List.map V.str (List.map num _)
    rw [List.map_set, List.map_set]
  have pne : p ≠ pw := ne_of_none hp hpwp
  refine q_if (cmp 9 rfl) (fun hb9 H5 e5 => ?_) (fun hb9 H5 e5 => ?_)
  · obtain ⟨m, hm1, hm2, hm3⟩ : ∃ m, [V.str (num N), V.str (num (100 + place)), V.str "9999"][place % 3]? = some (.str (num m)) ∧ m < 10000 ∧ N ≤ m := by
      have h2' : place % 3 < 3 := Nat.mod_lt _ (by decide)
      match place % 3, h2' with
      | 0, _ => exact ⟨N, rfl, by omega, Nat.le_refl _⟩
      | 1, _ => exact ⟨100 + place, rfl, by omega, by omega⟩
      | 2, _ => exact ⟨9999, rfl, by omega, by omega⟩
      | n + 3, h => exact absurd h (by omega)
    have h5 := e5 _ _ h4
    refine s_setL (j := spot) h5 (ev_opL1 (el_lst (ea_cons (ev_strN (ev_var rfl) (by omega)) (ea_2 (ev_strN (n := 100 + place) (ev_is (ev_op ev_c (ev_var rfl) rv_I0) (by show V.int _ = V.int _; congr 1)) (by omega)) ev_c)) (by show 3 ≤ 100000; decide)) (fun G _ => ev_modN (K := K) (a := place) (m := 3) rfl ev_c (by decide)) (fun p' G hp' _ => rv_ixL (sq_of hp') (atI_nat hm1))) (ev_var rfl) (ev_var rfl) (by rw [List.length_map, List.length_map]; exact hsp) (fun H6 e6 => ?_)
    rw [sset]
    refine fin (g.set spot m) pw _ upd_same (by rw [upd_ne pne]; exact e6 _ _ (e5 _ _ hp4)) (Ex.mut ((x4.trans e5).trans e6) hpwp) (gset m hm2) (by rw [List.length_set]; omega) ?_
    refine bad_big (m := m) (by rw [fset]; simp) ?_
    rw [fset]
    have h1 := congrArg List.length hflat
    simp only [List.length_append, List.length_singleton] at h1 ⊢
    omega
  refine s_if (b := decide (40 < place)) (et_is (et_test (ev_op (ev_var rfl) ev_c rv_I0)) (decide_eq_decide.mpr (by omega))) (fun _ H6 e6 => ?_) (fun _ H6 e6 => ?_)
  · have h6 := e6 _ _ (e5 _ _ h4)
    have ecut := el_cut (K := K) (ta := tVar 5) (te := tOp (rIxL K) (tVar 5) (tVar 6)) (v := .str (num x)) (σ := [some (.ref p), some (vi c), some (vi place), some (vi N), some (vi at_), some (.ref pw), some (vi spot)]) (p := spot) (q := spot) (t1 := tVar 6) (t2 := tVar 6) (ev_var rfl) (sq_of h6) (ev_var rfl) (ev_var rfl) (evx rfl rfl h6) (by rw [List.length_map, List.length_map]; omega) (by rw [List.length_map, List.length_map]; omega) (by rw [List.length_map, List.length_map]; omega)
    have es : (S (g.map num)).take spot ++ [V.str (num x)] ++ (S (g.map num)).drop spot = S ((g.take spot ++ [x] ++ g.drop spot).map num) := by
      show _ = List.map V.str (List.map num (_ ++ _ ++ _))
      rw [List.map_append, List.map_append, List.map_append, List.map_append, List.map_take, List.map_drop, List.map_take, List.map_drop]
      rfl
    rw [es] at ecut
    refine s_asgL ecut (fun pn H7 hpn e7 h7 => fin _ pn H7 h7 (e7 _ _ (e6 _ _ (e5 _ _ hp4))) (((x4.trans e5).trans e6).trans e7) ⟨by simp, ?_, fun n hn => ?_⟩ ?_ (bad_odd ?_))
    · simp only [List.length_append, List.length_singleton, List.length_take, List.length_drop]
      omega
    · rcases List.mem_append.mp hn with hn | hn
      · rcases List.mem_append.mp hn with hn | hn
        · exact hgg.2.2 n (List.mem_of_mem_take hn)
        · rw [List.mem_singleton.mp hn]; exact hxlt
      · exact hgg.2.2 n (List.mem_of_mem_drop hn)
    · simp only [List.length_append, List.length_singleton, List.length_take, List.length_drop]
      omega
    · have h1 := congrArg List.length hflat
      rw [List.flatten_append, List.flatten_append]
      simp only [List.length_append, List.length_singleton, List.length_take, List.length_drop, List.flatten_cons, List.flatten_nil, List.append_nil] at h1 ⊢
      omega
  · have h6 := e6 _ _ (e5 _ _ h4)
    have hmN : (x + 1) % N < N := Nat.mod_lt _ (by omega)
    refine s_setL (j := spot) (v := .str (num ((x + 1) % N))) h6 (ev_strN (ev_is (ev_op (ev_cb (ea_1 (ev_op (ev_cb (ea_1 (evx rfl rfl h6)) (rc_intS (int_of_num hxlt) (by have := num_len hxlt; omega))) ev_c rv_I0)) rc_int) (ev_var rfl) (rv_I (by omega))) (by
      show V.int _ = V.int _
      have e : (x : Int) + 1 = ((x + 1 : Nat) : Int) := by omega
      dsimp only
      rw [e, fmod_nat (by omega)])) (by omega)) (ev_var rfl) (ev_var rfl) (by rw [List.length_map, List.length_map]; exact hsp) (fun H7 e7 => ?_)
    rw [sset]
    refine fin (g.set spot ((x + 1) % N)) pw _ upd_same (by rw [upd_ne pne]; exact e7 _ _ (e6 _ _ (e5 _ _ hp4))) (Ex.mut (((x4.trans e5).trans e6).trans e7) hpwp) (gset _ (by omega)) (by rw [List.length_set]; omega) ?_
    rw [fset]
    refine bad_twice hperm' ?_
    intro q
    by_cases h1 : x + 1 < N
    · rw [Nat.mod_eq_of_lt h1] at q
      omega
    · have : x + 1 = N := by omega
      rw [this, Nat.mod_self] at q
      omega
end K14
namespace K14
open PySem PySem.Spec PyProof.Rows L2 Evl TL Hm
/-! ### all rounds together -/
theorem min_of {f : Nat → Nat} {N : Nat} (P : Pf f N) : ∀ y, y < N → ∃ s, s < N ∧ isMin f N s = true ∧ y ∈ rnd f N s := by
  intro y
  induction y using Nat.strongRecOn with
  | ind y ih =>
    intro hy
    by_cases h : isMin f N y = true
    · exact ⟨y, hy, h, rnd_self P hy⟩
    · obtain ⟨s, h1, h2, h3⟩ := (sn_iff_notMin P hy).mpr h
      obtain ⟨s', q1, q2, q3⟩ := ih s h1 h2
      exact ⟨s', q1, q2, rnd_trans P q1 q3 h3⟩
theorem cycs_perm {f : Nat → Nat} {N : Nat} (P : Pf f N) : (cycs f N N).flatten.Perm (List.range N) := by
  refine (List.perm_ext_iff_of_nodup ?_ List.nodup_range).mpr fun y => ?_
  · rw [List.nodup_iff_pairwise_ne, List.pairwise_flatten]
    refine ⟨fun l hl => ?_, ?_⟩
    · unfold cycs at hl
      obtain ⟨s, hs, rfl⟩ := List.mem_map.mp hl
      have hs := List.mem_range.mp (List.mem_filter.mp hs).1
      exact (List.nodup_iff_pairwise_ne).mp (rnd_nodup P hs)
    · unfold cycs
      rw [List.pairwise_map]
      have h0 : ((List.range N).filter (isMin f N)).Pairwise (· < ·) := List.Pairwise.filter _ List.pairwise_lt_range
      refine List.Pairwise.imp_of_mem (fun {a b} ha hb hab x hx y hy e => ?_) h0
      subst e
      obtain ⟨ha1, ha2⟩ := List.mem_filter.mp ha
      obtain ⟨hb1, hb2⟩ := List.mem_filter.mp hb
      have ha1 := List.mem_range.mp ha1
      have hb1 := List.mem_range.mp hb1
      have h1 : a ∈ rnd f N b := rnd_trans P hb1 hy (rnd_symm P ha1 hx)
      have := isMin_iff.mp hb2 a h1
      omega
  · constructor
    · intro h
      obtain ⟨l, hl, hy⟩ := List.mem_flatten.mp h
      unfold cycs at hl
      obtain ⟨s, hs, rfl⟩ := List.mem_map.mp hl
      have hs := List.mem_range.mp (List.mem_filter.mp hs).1
      exact List.mem_range.mpr (rnd_lt P hs hy)
    · intro h
      obtain ⟨s, h1, h2, h3⟩ := min_of P y (List.mem_range.mp h)
      exact List.mem_flatten.mpr ⟨_, List.mem_map.mpr ⟨s, List.mem_filter.mpr ⟨List.mem_range.mpr h1, h2⟩, rfl⟩, h3⟩
/-- each one's next is the one behind it, the first one's behind the last -/
def CycN (ns g : List Nat) : Prop := ∀ i, i < g.length → fn ns (fn g i) = fn g ((i + 1) % g.length)
theorem cycN_ok {ns g : List Nat} (h : CycN ns g) : CycOk ns g := fun i hi => by
  have hp := prv_lt hi
  rw [h _ hp]
  congr 1
  unfold prv
  split
  · rename_i h0
    rw [show g.length - 1 + 1 = g.length by omega, Nat.mod_self, h0]
  · rw [show i - 1 + 1 = i by omega, Nat.mod_eq_of_lt hi]
theorem cycN_rnd {ns : List Nat} (hM : MP ns) {s : Nat} (hs : s < ns.length) : CycN ns (rnd (stp ns true) ns.length s) := by
  intro i hi
  have hP := pf_stp hM.p hM.two true
  have hl := rnd_length (stp ns true) ns.length s
  have hg : ∀ j, j < per (stp ns true) ns.length s → fn (rnd (stp ns true) ns.length s) j = itr (stp ns true) j s := fun j hj => by
    apply fn_at
    unfold rnd
    rw [List.getElem?_map, List.getElem?_range hj]
    rfl
  rw [hl] at hi ⊢
  rw [hg i hi]
  have e1 : fn ns (itr (stp ns true) i s) = itr (stp ns true) (i + 1) s := rfl
  rw [e1]
  by_cases h1 : i + 1 < per (stp ns true) ns.length s
  · rw [Nat.mod_eq_of_lt h1, hg _ h1]
  · have e2 : i + 1 = per (stp ns true) ns.length s := by omega
    rw [e2, Nat.mod_self, hg 0 (per_pos _ _ _), (per_spec hP hs).1]
    rfl
theorem fn_rot {g : List Nat} {k i : Nat} (hk : k < g.length) (hi : i < g.length) : fn (g.drop k ++ g.take k) i = fn g ((i + k) % g.length) := by
  apply fn_at
  by_cases h : i < g.length - k
  · rw [List.getElem?_append_left (by rw [List.length_drop]; exact h), List.getElem?_drop, Nat.mod_eq_of_lt (by omega), Nat.add_comm i k]
    exact fn_get (by omega)
  · rw [List.getElem?_append_right (by rw [List.length_drop]; omega), List.length_drop, List.getElem?_take_of_lt (by omega)]
    have e : (i + k) % g.length = i - (g.length - k) := by
      rw [Nat.mod_eq_sub_mod (by omega), Nat.mod_eq_of_lt (by omega)]
      omega
    rw [e]
    exact fn_get (by omega)
theorem Rot.cycN {ns g f : List Nat} (h : Rot g f) (hg : CycN ns g) : CycN ns f := by
  obtain ⟨k, hk, rfl⟩ := h
  have hl : (g.drop k ++ g.take k).length = g.length := by
    rw [List.length_append, List.length_drop, List.length_take]
    omega
  intro i hi
  rw [hl] at hi ⊢
  have hg0 : 0 < g.length := by omega
  rw [fn_rot hk hi, fn_rot hk (Nat.mod_lt _ hg0), hg _ (Nat.mod_lt _ hg0)]
  congr 1
  rw [Nat.mod_add_mod, Nat.mod_add_mod]
  congr 1
  omega
structure Faces (ns : List Nat) (gs : List (List Nat)) : Prop where
  good : ∀ g ∈ gs, GoodG g
  perm : gs.flatten.Perm (List.range ns.length)
  cyc : ∀ g ∈ gs, CycN ns g
theorem faces_cyc {ns : List Nat} (hM : MP ns) : Faces ns (cyc ns true) := by
  have hP := pf_stp hM.p hM.two true
  refine ⟨fun g hg => ?_, cycs_perm hP, fun g hg => ?_⟩
  · obtain ⟨h1, h2⟩ := cyc_small hM hg
    refine ⟨fun q => ?_, h1, h2⟩
    unfold cyc cycs at hg
    obtain ⟨s, hs, rfl⟩ := List.mem_map.mp hg
    have := congrArg List.length q
    rw [rnd_length] at this
    have h3 := per_pos (stp ns true) ns.length s
    simp only [List.length_nil] at this
    omega
  · unfold cyc cycs at hg
    obtain ⟨s, hs, rfl⟩ := List.mem_map.mp hg
    exact cycN_rnd hM (List.mem_range.mp (List.mem_filter.mp hs).1)
theorem Faces.mix {ns : List Nat} {gs fs : List (List Nat)} (h : Faces ns gs) (m : Mix gs fs) : Faces ns fs := by
  refine ⟨fun f hf => ?_, m.perm.trans h.perm, fun f hf => ?_⟩
  · obtain ⟨g, hg, r⟩ := m.rot f hf
    exact r.good (h.good g hg)
  · obtain ⟨g, hg, r⟩ := m.rot f hf
    exact r.cycN (h.cyc g hg)
theorem len_ge {gs : List (List Nat)} (h : ∀ g ∈ gs, g ≠ []) : gs.length ≤ gs.flatten.length := by
  induction gs with
  | nil => exact Nat.le_refl _
  | cons a r ih =>
    rw [List.flatten_cons, List.length_append, List.length_cons]
    have h1 := ih fun g hg => h g (List.mem_cons_of_mem _ hg)
    have h2 := List.length_pos_iff.mpr (h a (List.mem_cons_self ..))
    omega
theorem Faces.flen {ns : List Nat} {gs : List (List Nat)} (h : Faces ns gs) : gs.flatten.length = ns.length := by rw [h.perm.length_eq, List.length_range]
theorem Faces.len {ns : List Nat} {gs : List (List Nat)} (h : Faces ns gs) : gs.length ≤ ns.length := by
  rw [← h.flen]
  exact len_ge fun g hg => (h.good g hg).1
theorem Faces.nil {ns : List Nat} {gs : List (List Nat)} (h : Faces ns gs) : gs = [] ↔ ns = [] := by
  have h1 := h.flen
  have h2 := h.len
  constructor
  · intro q
    rw [q] at h1
    exact List.length_eq_zero_iff.mp h1.symm
  · intro q
    rw [q] at h2
    exact List.length_eq_zero_iff.mp (Nat.le_zero.mp h2)
/-! ### texts -/
theorem jn_ne {ws : List Str} (h : ∃ w ∈ ws, w ≠ "") : jn nl ws ≠ "" := by
  obtain ⟨w, hw, hne⟩ := h
  intro q
  have h1 : tl (jn nl ws) = [] := by rw [q]; rfl
  rw [tl_jn, tl_nl] at h1
  have h2 := joinL_ge (s := 10) (List.mem_map.mpr ⟨w, hw, rfl⟩ : tl w ∈ ws.map tl)
  rw [h1] at h2
  exact hne (ext_tl (by rw [List.length_eq_zero_iff.mp (Nat.le_zero.mp h2)]; rfl))
theorem jn_ne2 {ws : List Str} (h : 2 ≤ ws.length) : jn nl ws ≠ "" := by
  intro q
  have h1 : tl (jn nl ws) = [] := by rw [q]; rfl
  rw [tl_jn, tl_nl] at h1
  match ws, h with
  | a :: b :: r, _ =>
    have h2 : tl a ++ ([10] ++ joinL [10] ((b :: r).map tl)) = [] := h1
    have h3 := (List.append_eq_nil_iff.mp (List.append_eq_nil_iff.mp h2).2).1
    cases h3
theorem jn_size {ws : List Str} (hl : ws.length ≤ 102) (hb : ∀ w ∈ ws, w.length ≤ 800) : (jn nl ws).length ≤ 89000 := by
  have := jn_len tl_nl hb
  have h5 : ws.length * (800 + 1) ≤ 81702 := by omega
  omega
theorem line_small {g : List Nat} (hg : GoodG g) (hl : g.length ≤ 150) : (lineOf g).length ≤ 750 := by
  have := line_len hg.2.2
  omega
theorem lineS_ne {g : List Nat} (hg : GoodG g) : lineOf g ≠ "" := fun q => line_ne hg.1 (by rw [q]; rfl)
theorem faces_in {gs : List (List Nat)} (hg : ∀ g ∈ gs, GoodG g) (hl : gs.length ≤ 101) (hs : ∀ g ∈ gs, g.length ≤ 150) (hne : gs ≠ []) : FacesIn (textOf gs) gs [] ∧ textOf gs ≠ "" := by
  have e : lineP gs [] = gs.map lineOf := by unfold lineP; rw [List.append_nil]
  refine ⟨⟨by rw [e]; rfl, by rw [e]; exact fun q => hne (List.map_eq_nil_iff.mp q), ?_, hg, by omega, (fun l hl => nomatch hl), (fun y r h => nomatch h)⟩, jn_ne ?_⟩
  · have := jn_size (ws := gs.map lineOf) (by rw [List.length_map]; omega) (fun w hw => by
      obtain ⟨g, hg', rfl⟩ := List.mem_map.mp hw
      have := line_small (hg g hg') (hs g hg')
      omega)
    show (textOf gs).length ≤ _
    unfold textOf
    omega
  · obtain ⟨g, hg'⟩ := List.exists_mem_of_ne_nil gs hne
    exact ⟨lineOf g, List.mem_map.mpr ⟨g, hg', rfl⟩, lineS_ne (hg g hg')⟩
/-- what reading a text of faces gives -/
theorem read_ok {K : PySem.W.Frag} {ns : List Nat} {gs : List (List Nat)} (hM : MP ns) (h60 : ns.length ≤ 100) (F : Faces ns gs) (H : Hp) (Q : VK) (k : ∀ x H', H x = none → MeshN K H H' x ns → Ex H H' → Q (.ref x) H') : sp_readmesh K [.str (textOf gs)] H Q E0 := by
  refine ⟨textOf gs, rfl, ?_⟩
  by_cases h : gs = []
  · have hn := F.nil.mp h
    subst h hn
    refine .inl ⟨?_, k⟩
    unfold textOf
    exact jn_nil nl
  · have hl := F.len
    have hs : ∀ g ∈ gs, g.length ≤ 150 := fun g hg => by
      have := mem_flat_len hg
      rw [F.flen] at this
      omega
    obtain ⟨h1, h2⟩ := faces_in F.good (by omega) hs h
    exact .inr ⟨h2, gs, [], h1, by rw [F.flen]; omega, fun _ => .inl ⟨ns, hM, F.perm, fun g hg => cycN_ok (F.cyc g hg), k⟩, fun h => absurd rfl h⟩
section
variable {K : PySem.W.Frag} {σ : L2.St} {H : Hp} {tp : TA} {D : Ends} {tz : TS}
theorem ev_readEq {ns : List Nat} {gs : List (List Nat)} {x : Addr} {i : Nat} (F : KQ K) (hp : EvA tp σ H [.str (textOf gs)]) (hM : MP ns) (h60 : ns.length ≤ 100) (Fa : Faces ns gs) (s : σ[i]? = some (some (.ref x))) (m : MeshAt K H x ns) :
    Ev (tOp (rOwnEq K (He.ga K "Mesh") (sp_Mesheq K) E0) (tCall (sp_readmesh K) [] E0 tp) (tVar i)) σ H (.bl true) := fun H1 e1 Q q => hp H1 e1 (fun vs H2 => sp_readmesh K (vs ++ []) H2 (fun v H3 => ∃ w, σ[i]? = some (some w) ∧ rOwnEq K (He.ga K "Mesh") (sp_Mesheq K) E0 v w H3 Q) E0) fun H2 e2 =>
  read_ok hM h60 Fa H2 _ fun y H3 hy my e3 => ⟨.ref x, s, by
    have := rv_ownEq F my.at (.mesh (m.ex ((e1.trans e2).trans e3))) H3 (Ex.refl H3) Q (fun H4 e4 => by
      rw [decide_eq_true rfl]
      exact q H4 ((e2.trans e3).trans e4))
    exact this⟩
theorem q_asgEq {sp : Sp} {E : XK} {vs : List V} {c : Int} {i : Nat} (hp : EvA tp σ H vs) (k : ∀ H1, Ex H H1 → sp vs H1 (fun v H2 => rEq v (.int c) H2 (fun z H3 => tz D (σ.set i (some z)) H3)) E) : tSeq (tAsg (tOp rEq (tCall sp [] E tp) (tC (.int c))) (gName i)) tz D σ H :=
  hp H (Ex.refl H) (fun vs H1 => sp (vs ++ []) H1 (fun v H2 => rEq v (.int c) H2 (fun z H3 => tz D (σ.set i (some z)) H3)) E) fun H1 e1 => by
    show sp (vs ++ []) H1 _ _
    rw [List.append_nil]
    exact k H1 e1
theorem spl_Ltold {text : Str} {gs : List (List Nat)} {rest : List Str} (hne : text ≠ "") (hF : FacesIn text gs rest) (hz : gs.flatten.length ≤ 1000) (hr : rest ≠ []) : SpL (sp_Ltold K) [.str text] H [.str "line", vi (gs.length + 1), .bl true] := fun H1 e Q q E => ⟨text, gs, rest, rfl, hne, hF, hz, .inl ⟨hr, fun p H' hp ex h => q p H' hp ex h⟩⟩
theorem spl_Ltold2 {text : Str} {gs : List (List Nat)} (hne : text ≠ "") (hF : FacesIn text gs []) (hz : gs.flatten.length ≤ 1000) (hb : ¬ Good (L gs.flatten)) : SpL (sp_Ltold K) [.str text] H [.str "mesh", .bl true] := fun H1 e Q q E => ⟨text, gs, [], rfl, hne, hF, hz, .inr ⟨rfl, hb, fun p H' hp ex h => q p H' hp ex h⟩⟩
theorem ev_same3 {ta tb : TE} {s : Str} {n : Nat} {b : Bool} (ok : PyData.strOk s = true) (ha : EvL ta σ H [.str s, vi n, .bl b]) (hb : EvL tb σ H [.str s, vi n, .bl b]) : Ev (tOp (rEqD K) ta tb) σ H (.bl true) := ev_opLL ha hb fun p q H1 h1 h2 _ => by
  have hd : SeqAt.shaped (.list [.str s, .int (n : Int), .bool b]) = true := by simp [SeqAt.shaped, PyData.canLay0, PyData.canLayAll0, PyData.depth, PyData.depthAll, ok]
  have e : PyData.eqv (.list [.str s, .int (n : Int), .bool b]) (.list [.str s, .int (n : Int), .bool b]) = true := by simp [PyData.eqv, PyData.eqvAll]
  rw [← e]
  exact rv_eqD' (Dp.lst (sq_of h1) (.cons (.str s) (.cons (.int _) (.cons (.bl b) .nil)))) (Dp.lst (sq_of h2) (.cons (.str s) (.cons (.int _) (.cons (.bl b) .nil)))) hd hd
theorem ev_same2 {ta tb : TE} {s : Str} {b : Bool} (ok : PyData.strOk s = true) (ha : EvL ta σ H [.str s, .bl b]) (hb : EvL tb σ H [.str s, .bl b]) : Ev (tOp (rEqD K) ta tb) σ H (.bl true) := ev_opLL ha hb fun p q H1 h1 h2 _ => by
  have hd : SeqAt.shaped (.list [.str s, .bool b]) = true := by simp [SeqAt.shaped, PyData.canLay0, PyData.canLayAll0, PyData.depth, PyData.depthAll, ok]
  have e : PyData.eqv (.list [.str s, .bool b]) (.list [.str s, .bool b]) = true := by simp [PyData.eqv, PyData.eqvAll]
  rw [← e]
  exact rv_eqD' (Dp.lst (sq_of h1) (.cons (.str s) (.cons (.bl b) .nil))) (Dp.lst (sq_of h2) (.cons (.str s) (.cons (.bl b) .nil))) hd hd
end
/-- lines with a bad one at a place -/
theorem bad_in {gs : List (List Nat)} {y : Str} {r : List Str} (hg : ∀ g ∈ gs, GoodG g) (hl : gs.length + r.length ≤ 100) (hs : ∀ g ∈ gs, g.length ≤ 100) (hb : BadL y) (hyl : y.length ≤ 30000) (hr : ∀ l ∈ r, 10 ∉ tl l ∧ l.length ≤ 505) : FacesIn (jn nl (gs.map lineOf ++ (y :: r))) gs (y :: r) := by
  refine ⟨rfl, by simp [lineP], ?_, hg, by omega, fun l hl => ?_, fun y' r' h => ?_⟩
  · have h1 := joinL_mid (s := 10) ((gs.map lineOf).map tl) (r.map tl) (tl y)
    have h2 := joinL_len 10 ((gs.map lineOf).map tl) 500 (fun w hw => by
      obtain ⟨z, hz, rfl⟩ := List.mem_map.mp hw
      obtain ⟨g, hg', rfl⟩ := List.mem_map.mp hz
      rw [← len_tl]
      have := line_len (hg g hg').2.2
      have := hs g hg'
      omega)
    have h3 := joinL_len 10 (r.map tl) 505 (fun w hw => by
      obtain ⟨z, hz, rfl⟩ := List.mem_map.mp hw
      rw [← len_tl]
      exact (hr z hz).2)
    rw [List.length_map, List.length_map] at h2
    rw [List.length_map] at h3
    rw [len_tl] at hyl
    rw [len_tl, tl_jn, tl_nl, List.map_append, List.map_cons]
    have e : (gs.map lineOf).map tl ++ tl y :: r.map tl = (gs.map lineOf).map tl ++ [tl y] ++ r.map tl := by simp
    rw [e]
    have h5 : gs.length * (500 + 1) ≤ gs.length * 506 := Nat.mul_le_mul_left _ (by decide)
    have h6 : gs.length * 506 + r.length * 506 ≤ 50600 := by omega
    omega
  · rcases List.mem_cons.mp hl with rfl | hl
    · exact hb.free
    · exact (hr l hl).1
  · cases h
    exact hb
end K14
namespace K14
open PySem PySem.Spec PyProof.Rows L2 Evl TL Hm
theorem el_rounds {K : PySem.W.Frag} {σ : L2.St} {H : Hp} {a : Addr} {ns : List Nat} {i : Nat} (s : σ[i]? = some (some (.ref a))) (hS : H a = some (.lst (L ns))) (hM : MP ns) : EvLL (tCall (sp_Lrounds K) [] E0 (tCons (tVar i) (tCons (tC (.bl true)) tNil))) σ H (cyc ns true) := ell_call (ea_2 (ev_var s) ev_c) (spll_Lrounds (sq_of hS) hM)
theorem strs_set {ws : List Str} {i : Nat} {y : Str} : (S ws).set i (.str y) = S (ws.set i y) := by
  show (List.map V.str ws).set _ _ = List.map V.str _
  rw [List.map_set]
theorem set_cut {α : Type} {l : List α} {i : Nat} {y : α} (h : i < l.length) : l.set i y = l.take i ++ y :: l.drop (i + 1) := by rw [List.set_eq_take_append_cons_drop, if_pos h]
theorem sums {ws : List Str} {B : Nat} (h : ∀ w ∈ ws, w.length ≤ B) (h1 : ws.length ≤ 1000) (h2 : B ≤ 15000) : (ws.map (·.length)).sum + ws.length * nl.length ≤ 16777216 := by
  have := sum_len h
  have h3 : nl.length = 1 := rfl
  rw [h3]
  have h4 : ws.length * B ≤ ws.length * 15000 := Nat.mul_le_mul_left _ h2
  omega
def sp_law (K : PySem.W.Frag) : Sp := fun vs H Q _ => ∃ (a : Addr) (zs : List Int), vs = [.ref a] ∧ SqL K H a (zs.map V.int) ∧ ∀ H', Q (.bl true) H'
abbrev nm_law : List Str := ["_law_script", "_law_tape_here", "_law_choice", "_law_twice", "_law_place", "_law_edges", "_law_nexts_here", "_law_mesh", "_law_text", "_law_lines", "_law_at", "_law_changed", "_law_members"]
abbrev pr_law : List Str := ["_law_script"]
def t_law (K : PySem.W.Frag) : TS :=
  (tSeq (tAsg (tCall (sp_Ltape K) [] E0 (tCons (tVar 0) (tCons (tC (.int 0)) tNil))) (gName 1))
  (tSeq (tAsg (tCall (sp_Lpick K) [] E0 (tCons (tVar 1) (tCons (tC (.int 18)) tNil))) (gName 2))
  (tSeq (tAsg (tOp rEq (tCall (sp_Lpick K) [] E0 (tCons (tVar 1) (tCons (tC (.int 4)) tNil))) (tC (.int 1))) (gName 3))
  (tSeq (tAsg (tCall (sp_Lpick K) [] E0 (tCons (tVar 1) (tCons (tC (.int 97)) tNil))) (gName 4))
  (tSeq (tAsg (tCall (sp_Lsize K) [] E0 (tCons (tVar 1) tNil)) (gName 5))
  (tSeq (tIfS (tTest (tOp zLt (tVar 2) (tC (.int 12)))) (tAsg (tCB rMax2 (tCons (tC (.int 1)) (tCons (tVar 5) tNil))) (gName 5)) tNext)
  (tSeq (tAsg (tCall (sp_Lnexts K) [] E0 (tCons (tCall (sp_Ltape K) [] E0 (tCons (tVar 0) (tCons (tC (.int 1)) tNil))) (tCons (tVar 5) tNil))) (gName 6))
  (tSeq (tAsg (tMake (He.ga K "Mesh") (sp_Meshinit K) [] E0 (tCons (tVar 6) tNil)) (gName 7))
  (tSeq (tAsg (tM1 (rJoin K) (tC (.str "\n")) (tLc (iList K (tCall (sp_Lrounds K) [] E0 (tCons (tVar 6) (tCons (tC (.bl true)) tNil)))) (gName 12) tYes (tCall (sp_Lline K) [] E0 (tCons (tVar 12) tNil)) [12])) (gName 8))
  (tSeq (tAsg (tCall (sp_Lmixed K) [] E0 (tCons (tCall (sp_Ltape K) [] E0 (tCons (tVar 0) (tCons (tC (.int 2)) tNil))) (tCons (tCall (sp_Lrounds K) [] E0 (tCons (tVar 6) (tCons (tC (.bl true)) tNil))) tNil))) (gName 9))
  (tSeq (tIfS (tOr (tTest (tOp rNe (tMeth (He.ga K "Mesh") "text" (sp_Meshtext K) [] E0 (tVar 7) tNil) (tVar 8))) (tOr (tNot (tTest (tOp (rOwnEq K (He.ga K "Mesh") (sp_Mesheq K) E0) (tCall (sp_readmesh K) [] E0 (tCons (tVar 8) tNil)) (tVar 7)))) (tNot (tTest (tOp (rOwnEq K (He.ga K "Mesh") (sp_Mesheq K) E0) (tCall (sp_readmesh K) [] E0 (tCons (tM1 (rJoin K) (tC (.str "\n")) (tVar 9)) tNil)) (tVar 7)))))) (tRet (tC (.bl false))) tNext)
  (tSeq (tIfS (tTest (tOp zGt (tVar 2) (tC (.int 11)))) (tRet (tOp (rEqD K) (tCall (sp_Ltold K) [] E0 (tCons (tOp rMulS (tC (.str "\n")) (tOp zAdd (tC (.int 1)) (tOp zMod (tCB cInt (tCons (tVar 4) tNil)) (tC (.int 3))))) tNil)) (tLst (tCons (tC (.str "line")) (tCons (tC (.int 1)) (tCons (tC (.bl true)) tNil)))))) tNext)
  (tSeq (tAsg (tOp zMod (tCB cInt (tCons (tVar 4) tNil)) (tCB (cLen K) (tCons (tVar 9) tNil))) (gName 10))
  (tSeq (tIfS (tTest (tOp zLt (tVar 2) (tC (.int 9)))) (tSeq (tIfS (tB (tVar 3)) (tAsg (tOp rCatStr (tOp (rIxL K) (tVar 9) (tOp zSub (tCB (cLen K) (tCons (tVar 9) tNil)) (tC (.int 1)))) (tC (.str " x"))) (gSub (tVar 9) (tOp zSub (tCB (cLen K) (tCons (tVar 9) tNil)) (tC (.int 1))) rSetL)) tNext)
      (tSeq (tAsg (tCall (sp_Lspoilt K) [] E0 (tCons (tOp (rIxL K) (tVar 9) (tVar 10)) (tCons (tVar 2) (tCons (tVar 4) tNil)))) (gName 11))
      (tSeq (tIfS (tAnd (tTest (tOp rEq (tVar 2) (tC (.int 0)))) (tTest (tOp rEq (tCB (cLen K) (tCons (tVar 9) tNil)) (tC (.int 1))))) (tAsg (tC (.str " ")) (gName 11)) tNext)
      (tSeq (tAsg (tVar 11) (gSub (tVar 9) (tVar 10) rSetL))
      (tRet (tOp (rEqD K) (tCall (sp_Ltold K) [] E0 (tCons (tM1 (rJoin K) (tC (.str "\n")) (tVar 9)) tNil)) (tLst (tCons (tC (.str "line")) (tCons (tOp zAdd (tVar 10) (tC (.int 1))) (tCons (tC (.bl true)) tNil)))))))))) tNext)
  (tSeq (tAsg (tCall (sp_Lmiscounted K) [] E0 (tCons (tVar 9) (tCons (tVar 2) (tCons (tVar 4) (tCons (tOp zMul (tC (.int 2)) (tVar 5)) tNil))))) (gName 9))
  (tSeq (tIfS (tB (tVar 3)) (tRet (tOp (rEqD K) (tCall (sp_Ltold K) [] E0 (tCons (tM1 (rJoin K) (tC (.str "\n")) (tOp rCat (tVar 9) (tLst (tCons (tC (.str "7 x")) tNil)))) tNil)) (tLst (tCons (tC (.str "line")) (tCons (tOp zAdd (tCB (cLen K) (tCons (tVar 9) tNil)) (tC (.int 1))) (tCons (tC (.bl true)) tNil)))))) tNext)
  (tRet (tOp (rEqD K) (tCall (sp_Ltold K) [] E0 (tCons (tM1 (rJoin K) (tC (.str "\n")) (tVar 9)) tNil)) (tLst (tCons (tC (.str "mesh")) (tCons (tC (.bl true)) tNil)))))))))))))))))))))
abbrev Wt_law (K : PySem.W.Frag) (vs : List V) (H : Hp) (Q : VK) : Prop := t_law K { nx := fun _ H' => Q .non H', rt := Q } (start nm_law vs) H
theorem ln_law {K : PySem.W.Frag} (vs : List V) (H : Hp) (Q : VK) (E : XK) (h : sp_law K vs H Q E) : vs.length = pr_law.length := by
  obtain ⟨_, _, rfl, _⟩ := h
  rfl
theorem nl_mul (n : Nat) (h : n = 1 ∨ n = 2 ∨ n = 3) : Txt.mul "\n" (n : Int) = jn nl (([] : List (List Nat)).map lineOf ++ (("" : Str) :: List.replicate n ("" : Str))) := by
  refine ext_tl ?_
  rw [tl_mul (x := "\n") (c := 10) rfl (by omega), tl_jn, tl_nl]
  rcases h with rfl | rfl | rfl <;> rfl
theorem badL_nil : BadL "" := ⟨[""], by simp, by rw [jn_one], fun w hw => by rw [List.mem_singleton.mp hw]; exact ⟨by decide, by decide⟩, ⟨"", by simp, numB_nil rfl⟩, fun w hw => by rw [List.mem_singleton.mp hw]; decide, by decide⟩
theorem badL_sp : BadL " " := ⟨["", ""], by simp, by refine ext_tl ?_; rw [tl_jn]; rfl, fun w hw => by
  simp only [List.mem_cons, List.not_mem_nil, or_false, or_self] at hw
  rw [hw]
  exact ⟨by decide, by decide⟩, ⟨"", by simp, numB_nil rfl⟩, fun w hw => by
  simp only [List.mem_cons, List.not_mem_nil, or_false, or_self] at hw
  rw [hw]
  decide, by decide⟩
theorem badL_7x : BadL "7 x" := ⟨["7", "x"], by simp, by refine ext_tl ?_; rw [tl_jn]; rfl, fun w hw => by
  simp only [List.mem_cons, List.not_mem_nil, or_false] at hw
  rcases hw with rfl | rfl
  · exact ⟨by decide +kernel, by decide +kernel⟩
  · exact ⟨by decide +kernel, by decide +kernel⟩, ⟨"x", by simp, numB_sign (c := 120) (by decide +kernel) (by decide +kernel)⟩, fun w hw => by
  simp only [List.mem_cons, List.not_mem_nil, or_false] at hw
  rcases hw with rfl | rfl
  · decide +kernel
  · decide +kernel, by decide⟩
theorem ws_line {g : List Nat} (hg : GoodG g) (hl : g.length ≤ 90) : WsOk (g.map num) := ⟨fun w hw => by
  obtain ⟨n, hn, rfl⟩ := List.mem_map.mp hw
  have := num_len (hg.2.2 n hn)
  exact ⟨num_ne n, num_free (by decide), num_free (by decide), by omega⟩, by rw [List.length_map]; omega⟩
theorem ws_x {ws : List Str} (h : WsOk ws) (hl : ws.length ≤ 90) : WsOk (ws ++ [("x" : Str)]) := ⟨fun w hw => by
  rcases List.mem_append.mp hw with hw | hw
  · exact h.w w hw
  · rw [List.mem_singleton.mp hw]
    exact ⟨by decide +kernel, by decide +kernel, by decide +kernel, by decide +kernel⟩, by rw [List.length_append]; show _ + 1 ≤ _; omega⟩
theorem jn_x {ws : List Str} (h : ws ≠ []) : jn spc ws ++ " x" = jn spc (ws ++ [("x" : Str)]) := by
  refine ext_tl ?_
  rw [tl_append, tl_jn, tl_jn, tl_spc, List.map_append, joinL_app [32] _ _ (fun q => h (List.map_eq_nil_iff.mp q)) (by simp)]
  rfl
/-- behind the lines: the three ways on -/
theorem law_end {K : PySem.W.Frag} (F : KE K) {H : Hp} {Q : VK} {a t pn x pl : Addr} {tx : Str} {c place e : Nat} {twB : Bool} {ns : List Nat} {fs : List (List Nat)} {w10 w11 w12 : Option V} (hM : MP ns) (hn : ns.length = 2 * e) (he : e ≤ 30) (Fa : Faces ns fs) (hc : c < 18) (hpl : place < 97) (h12 : c < 12 → 1 ≤ e)
    (hlines : H pl = some (.lst (S (fs.map lineOf)))) (k : ∀ H', Q (.bl true) H') :
  (tSeq (tIfS (tTest (tOp zGt (tVar 2) (tC (.int 11)))) (tRet (tOp (rEqD K) (tCall (sp_Ltold K) [] E0 (tCons (tOp rMulS (tC (.str "\n")) (tOp zAdd (tC (.int 1)) (tOp zMod (tCB cInt (tCons (tVar 4) tNil)) (tC (.int 3))))) tNil)) (tLst (tCons (tC (.str "line")) (tCons (tC (.int 1)) (tCons (tC (.bl true)) tNil)))))) tNext)
  (tSeq (tAsg (tOp zMod (tCB cInt (tCons (tVar 4) tNil)) (tCB (cLen K) (tCons (tVar 9) tNil))) (gName 10))
  (tSeq (tIfS (tTest (tOp zLt (tVar 2) (tC (.int 9)))) (tSeq (tIfS (tB (tVar 3)) (tAsg (tOp rCatStr (tOp (rIxL K) (tVar 9) (tOp zSub (tCB (cLen K) (tCons (tVar 9) tNil)) (tC (.int 1)))) (tC (.str " x"))) (gSub (tVar 9) (tOp zSub (tCB (cLen K) (tCons (tVar 9) tNil)) (tC (.int 1))) rSetL)) tNext)
      (tSeq (tAsg (tCall (sp_Lspoilt K) [] E0 (tCons (tOp (rIxL K) (tVar 9) (tVar 10)) (tCons (tVar 2) (tCons (tVar 4) tNil)))) (gName 11))
      (tSeq (tIfS (tAnd (tTest (tOp rEq (tVar 2) (tC (.int 0)))) (tTest (tOp rEq (tCB (cLen K) (tCons (tVar 9) tNil)) (tC (.int 1))))) (tAsg (tC (.str " ")) (gName 11)) tNext)
      (tSeq (tAsg (tVar 11) (gSub (tVar 9) (tVar 10) rSetL))
      (tRet (tOp (rEqD K) (tCall (sp_Ltold K) [] E0 (tCons (tM1 (rJoin K) (tC (.str "\n")) (tVar 9)) tNil)) (tLst (tCons (tC (.str "line")) (tCons (tOp zAdd (tVar 10) (tC (.int 1))) (tCons (tC (.bl true)) tNil)))))))))) tNext)
  (tSeq (tAsg (tCall (sp_Lmiscounted K) [] E0 (tCons (tVar 9) (tCons (tVar 2) (tCons (tVar 4) (tCons (tOp zMul (tC (.int 2)) (tVar 5)) tNil))))) (gName 9))
  (tSeq (tIfS (tB (tVar 3)) (tRet (tOp (rEqD K) (tCall (sp_Ltold K) [] E0 (tCons (tM1 (rJoin K) (tC (.str "\n")) (tOp rCat (tVar 9) (tLst (tCons (tC (.str "7 x")) tNil)))) tNil)) (tLst (tCons (tC (.str "line")) (tCons (tOp zAdd (tCB (cLen K) (tCons (tVar 9) tNil)) (tC (.int 1))) (tCons (tC (.bl true)) tNil)))))) tNext)
  (tRet (tOp (rEqD K) (tCall (sp_Ltold K) [] E0 (tCons (tM1 (rJoin K) (tC (.str "\n")) (tVar 9)) tNil)) (tLst (tCons (tC (.str "mesh")) (tCons (tC (.bl true)) tNil))))))))))
  { nx := fun _ H' => Q .non H', rt := Q } [some (.ref a), some (.ref t), some (vi c), some (.bl twB), some (vi place), some (vi e), some (.ref pn), some (.ref x), some (.str tx), some (.ref pl), w10, w11, w12] H := by
  refine q_when (b := decide (11 < c)) (et_is (et_test (ev_op (ev_var rfl) ev_c rv_I0)) (decide_eq_decide.mpr (by omega))) (fun hb H1 e1 => ?_) (fun hb H1 e1 => ?_)
  · obtain ⟨n, hn1, hn2⟩ : ∃ n : Nat, n = 1 + place % 3 ∧ (n = 1 ∨ n = 2 ∨ n = 3) := ⟨_, rfl, by have := Nat.mod_lt place (show 0 < 3 by decide); omega⟩
    have hF : FacesIn (Txt.mul "\n" (n : Int)) [] (("" : Str) :: List.replicate n ("" : Str)) := by
      rw [nl_mul n hn2]
      refine bad_in (gs := []) (fun g hg => nomatch hg) (by rw [List.length_replicate]; rcases hn2 with h | h | h <;> rw [h] <;> decide) (fun g hg => nomatch hg) badL_nil (by decide) (fun l hl => ?_)
      rw [List.eq_of_mem_replicate hl]
      exact ⟨by decide, by decide⟩
    have hne : Txt.mul "\n" (n : Int) ≠ "" := by
      rw [nl_mul n hn2]
      exact jn_ne2 (by show 2 ≤ (List.replicate n ("" : Str)).length + 1; rw [List.length_replicate]; omega)
    have ev1 : Ev (tOp rMulS (tC (.str "\n")) (tOp zAdd (tC (.int 1)) (tOp zMod (tCB cInt (tCons (tVar 4) tNil)) (tC (.int 3))))) [some (.ref a), some (.ref t), some (vi c), some (.bl twB), some (vi place), some (vi e), some (.ref pn), some (.ref x), some (.str tx), some (.ref pl), w10, w11, w12] H1 (.str (Txt.mul "\n" (n : Int))) :=
      ev_op ev_c (ev_is (w := vi n) (ev_op ev_c (ev_modN (K := K) (a := place) (m := 3) rfl ev_c (by decide)) rv_I0) (by show V.int _ = V.int _; congr 1; dsimp only; omega)) (rv_mulS (mulOk_one (c := 10) rfl (by omega) (by omega)))
    exact s_ret (ev_same3 (by decide +kernel) (el_call (ea_1 ev1) (spl_Ltold hne hF (Nat.zero_le _) (by simp))) (el_lst (ea_cons ev_c (ea_2 (ev_c (v := vi 1)) ev_c)) (by show 3 ≤ 100000; decide))) (fun H2 _ => k H2)
  have hc12 : c < 12 := by have := of_decide_eq_false hb; omega
  have he1 := h12 hc12
  have hns : ns ≠ [] := fun q => by rw [q] at hn; simp only [List.length_nil] at hn; omega
  have hfne : fs ≠ [] := fun q => hns (Fa.nil.mp q)
  have hpos : 0 < fs.length := List.length_pos_iff.mpr hfne
  have hfl := Fa.len
  have hfs : ∀ f ∈ fs, f.length ≤ 60 := fun f hf => by
    have := mem_flat_len hf
    rw [Fa.flen] at this
    omega
  have hl1 := e1 _ _ hlines
  refine q_asg (ev_modN (K := K) rfl (ev_is (ev_cb (ea_1 (ev_var rfl)) (rc_len (sq_of hl1))) (by rw [List.length_map, List.length_map])) hpos) (fun H2 e2 => ?_)
  have hat : place % fs.length < fs.length := Nat.mod_lt _ hpos
  generalize place % fs.length = at_ at hat
  have hl2 := e2 _ _ hl1
  have hlen9 : ∀ {ws : List Str} {G : Hp} {σ : L2.St}, σ[9]? = some (some (.ref pl)) → G pl = some (.lst (S ws)) → Ev (tCB (cLen K) (tCons (tVar 9) tNil)) σ G (vi ws.length) := fun s hG => ev_is (ev_cb (ea_1 (ev_var s)) (rc_len (sq_of hG))) (by rw [List.length_map])
  refine q_when (b := decide (c < 9)) (et_is (et_test (ev_op (ev_var rfl) ev_c rv_I0)) (decide_eq_decide.mpr (by omega))) (fun hb9 H3 e3 => ?_) (fun hb9 H3 e3 => ?_)
  · have hc9 := of_decide_eq_true hb9
    have hl3 := e3 _ _ hl2
    -- the lines, the last one with more
    have go : ∀ (ws : List Str) (wl : List Str) (H4 : Hp), H4 pl = some (.lst (S ws)) → ws.length = fs.length → ws.take at_ = (fs.take at_).map lineOf → ws[at_]? = some (jn spc wl) → wl ≠ [] → WsOk wl → (∀ l ∈ ws, 10 ∉ tl l ∧ l.length ≤ 505) →
        (tSeq (tAsg (tCall (sp_Lspoilt K) [] E0 (tCons (tOp (rIxL K) (tVar 9) (tVar 10)) (tCons (tVar 2) (tCons (tVar 4) tNil)))) (gName 11))
      (tSeq (tIfS (tAnd (tTest (tOp rEq (tVar 2) (tC (.int 0)))) (tTest (tOp rEq (tCB (cLen K) (tCons (tVar 9) tNil)) (tC (.int 1))))) (tAsg (tC (.str " ")) (gName 11)) tNext)
      (tSeq (tAsg (tVar 11) (gSub (tVar 9) (tVar 10) rSetL))
      (tRet (tOp (rEqD K) (tCall (sp_Ltold K) [] E0 (tCons (tM1 (rJoin K) (tC (.str "\n")) (tVar 9)) tNil)) (tLst (tCons (tC (.str "line")) (tCons (tOp zAdd (tVar 10) (tC (.int 1))) (tCons (tC (.bl true)) tNil)))))))))
        { nx := fun σ H' => (tSeq (tAsg (tCall (sp_Lmiscounted K) [] E0 (tCons (tVar 9) (tCons (tVar 2) (tCons (tVar 4) (tCons (tOp zMul (tC (.int 2)) (tVar 5)) tNil))))) (gName 9))
  (tSeq (tIfS (tB (tVar 3)) (tRet (tOp (rEqD K) (tCall (sp_Ltold K) [] E0 (tCons (tM1 (rJoin K) (tC (.str "\n")) (tOp rCat (tVar 9) (tLst (tCons (tC (.str "7 x")) tNil)))) tNil)) (tLst (tCons (tC (.str "line")) (tCons (tOp zAdd (tCB (cLen K) (tCons (tVar 9) tNil)) (tC (.int 1))) (tCons (tC (.bl true)) tNil)))))) tNext)
  (tRet (tOp (rEqD K) (tCall (sp_Ltold K) [] E0 (tCons (tM1 (rJoin K) (tC (.str "\n")) (tVar 9)) tNil)) (tLst (tCons (tC (.str "mesh")) (tCons (tC (.bl true)) tNil))))))) { nx := fun _ H' => Q .non H', rt := Q } σ H', rt := Q } [some (.ref a), some (.ref t), some (vi c), some (.bl twB), some (vi place), some (vi e), some (.ref pn), some (.ref x), some (.str tx), some (.ref pl), some (vi at_), w11, w12] H4 := by
      intro ws wl H4 h4 hwl htk hwat hwne hwok hfree
      refine q_asgC (ea_cons (ev_op (ev_var rfl) (ev_var rfl) (rv_ixL (sq_of h4) (atI_nat (show (S ws)[at_]? = some (.str (jn spc wl)) by rw [List.getElem?_map, hwat]; rfl)))) (ea_2 (ev_var rfl) (ev_var rfl))) (fun H5 e5 => ⟨wl, c, place, rfl, hwne, hwok, hc9, by omega, fun y H6 hby hy0 hyl e6 => ?_⟩)
      have h6 := e6 _ _ (e5 _ _ h4)
      obtain ⟨y', hby', hyl', hyne, hset⟩ : ∃ y', BadL y' ∧ y'.length ≤ 30000 ∧ (ws.length = 1 → y' ≠ "") ∧ ((c = 0 ∧ ws.length = 1) ∧ y' = " " ∨ ¬ (c = 0 ∧ ws.length = 1) ∧ y' = y) := by
        by_cases h : c = 0 ∧ ws.length = 1
        · exact ⟨" ", badL_sp, by decide, (fun _ q => by have := congrArg tl q; cases (show ([32] : List Nat) = [] from this)), .inl ⟨h, rfl⟩⟩
        · exact ⟨y, hby, hyl, fun h1 q => h ⟨hy0 q, h1⟩, .inr ⟨h, rfl⟩⟩
      have tst : EvT (tAnd (tTest (tOp rEq (tVar 2) (tC (.int 0)))) (tTest (tOp rEq (tCB (cLen K) (tCons (tVar 9) tNil)) (tC (.int 1))))) [some (.ref a), some (.ref t), some (vi c), some (.bl twB), some (vi place), some (vi e), some (.ref pn), some (.ref x), some (.str tx), some (.ref pl), some (vi at_), some (.str y), w12] H6 (decide (c = 0) && decide (ws.length = 1)) :=
        et_and (et_is (et_test (ev_op (ev_var rfl) ev_c (rv_eq rfl))) (decide_eq_decide.mpr ⟨fun q => by have : (c : Int) = 0 := V.int.inj q; omega, fun q => by rw [q]; rfl⟩)) (fun _ => et_is (et_test (ev_op (hlen9 rfl h6) ev_c (rv_eq rfl))) (decide_eq_decide.mpr ⟨fun q => by have : (ws.length : Int) = 1 := V.int.inj q; omega, fun q => by rw [q]; rfl⟩))
      refine q_ifAsg (v := .str y') tst (fun hb => ?_) (fun hb => ?_) (fun H7 e7 => ?_)
      · rcases hset with ⟨_, rfl⟩ | ⟨h, _⟩
        · exact ev_c
        · rw [Bool.and_eq_true, decide_eq_true_eq, decide_eq_true_eq] at hb
          exact absurd hb h
      · rcases hset with ⟨h, _⟩ | ⟨_, rfl⟩
        · rw [Bool.and_eq_false_iff, decide_eq_false_iff_not, decide_eq_false_iff_not] at hb
          rcases hb with hb | hb
          · exact absurd h.1 hb
          · exact absurd h.2 hb
        · rfl
      have h7 := e7 _ _ h6
      refine q_setL (j := at_) h7 (ev_var rfl) (ev_var rfl) (ev_var rfl) (by rw [List.length_map]; omega) (fun H8 e8 => ?_)
      rw [strs_set]
      have hcut : ws.set at_ y' = (fs.take at_).map lineOf ++ (y' :: ws.drop (at_ + 1)) := by rw [set_cut (by omega), htk]
      have hF : FacesIn (jn nl (ws.set at_ y')) (fs.take at_) (y' :: ws.drop (at_ + 1)) := by
        rw [hcut]
        exact bad_in (fun g hg => Fa.good g (List.mem_of_mem_take hg)) (by rw [List.length_take, List.length_drop]; omega) (fun g hg => by have := hfs g (List.mem_of_mem_take hg); omega) hby' hyl' (fun l hl => hfree l (List.mem_of_mem_drop hl))
      have hne : jn nl (ws.set at_ y') ≠ "" := by
        by_cases h1 : ws.length = 1
        · refine jn_ne ⟨y', ?_, hyne h1⟩
          rw [hcut]
          simp
        · exact jn_ne2 (by rw [List.length_set]; omega)
      have hgl : (fs.take at_).length = at_ := by rw [List.length_take]; omega
      have hz : (fs.take at_).flatten.length ≤ 1000 := by
        have h2 : fs.flatten = (fs.take at_).flatten ++ (fs.drop at_).flatten := by rw [← List.flatten_append, List.take_append_drop]
        have h3 := Fa.flen
        rw [h2, List.length_append] at h3
        omega
      have htold := spl_Ltold (K := K) (H := upd H8 pl (.lst (S (ws.set at_ y')))) hne hF hz (by simp)
      rw [hgl] at htold
      have hszs := sums (ws := ws.set at_ y') (B := 15000)
      refine s_ret (ev_same3 (by decide +kernel) (el_call (ea_1 (ev_join ev_c (ev_var rfl) (sq_of upd_same) ?_)) htold) (el_lst (ea_cons ev_c (ea_2 (ev_is (ev_op (ev_var rfl) ev_c rv_I0) (by show V.int _ = V.int _; congr 1)) ev_c)) (by show 3 ≤ 100000; decide))) (fun H9 _ => k H9)
      have h30 := sum_len (ws := ws.set at_ y') (B := 30000) fun w hw => by
        rcases List.mem_or_eq_of_mem_set hw with h | h
        · have := (hfree w h).2; omega
        · rw [h]; exact hyl'
      rw [List.length_set] at h30 ⊢
      have h3 : ("\n" : Str).length = 1 := rfl
      rw [h3]
      have h4' : ws.length * 30000 ≤ 60 * 30000 := Nat.mul_le_mul_right _ (by omega)
      omega
    have hfree0 : ∀ l ∈ fs.map lineOf, 10 ∉ tl l ∧ l.length ≤ 500 := fun l hl => by
      obtain ⟨f, hf, rfl⟩ := List.mem_map.mp hl
      have := line_len (Fa.good f hf).2.2
      have := hfs f hf
      exact ⟨line_free f, by omega⟩
    have hfat : fs[at_]? = some (fs[at_]'hat) := List.getElem?_eq_getElem hat
    refine q_when (et_B (ev_var rfl)) (fun htw H4 e4 => ?_) (fun htw H4 e4 => ?_)
    · -- the last line gets ' x'
      have hlast : fs.length - 1 < fs.length := by omega
      have hfl1 : fs[fs.length - 1]? = some (fs[fs.length - 1]'hlast) := List.getElem?_eq_getElem hlast
      have hl4 := e4 _ _ hl3
      have idx : ∀ {σ : L2.St} {G : Hp}, σ[9]? = some (some (.ref pl)) → G pl = some (.lst (S (fs.map lineOf))) → Ev (tOp zSub (tCB (cLen K) (tCons (tVar 9) tNil)) (tC (.int 1))) σ G (vi (fs.length - 1)) := fun s hG => ev_is (ev_op (hlen9 s hG) ev_c rv_I0) (by show V.int _ = V.int _; dsimp only; rw [List.length_map]; congr 1; omega)
      have hgl1 := Fa.good _ (List.getElem_mem hlast)
      have hll1 := hfree0 _ (List.mem_map.mpr ⟨_, List.getElem_mem hlast, rfl⟩)
      have hx : (lineOf (fs[fs.length - 1]'hlast) ++ (" x" : Str)).length = (lineOf (fs[fs.length - 1]'hlast)).length + 2 := PySem.Str.length_append _ _
      refine s_setL (j := fs.length - 1) hl4 (ev_op (ev_op (ev_var rfl) (idx rfl hl4) (rv_ixL (sq_of hl4) (atI_nat (show (S (fs.map lineOf))[fs.length - 1]? = some (.str (lineOf (fs[fs.length - 1]'hlast))) by rw [List.getElem?_map, List.getElem?_map, hfl1]; rfl)))) ev_c (rv_catS (by have := hll1.2; show _ + 2 ≤ _; omega))) (ev_var rfl) (idx rfl hl4) (by rw [List.length_map, List.length_map]; exact hlast) (fun H5 e5 => ?_)
      rw [strs_set]
      have hxj : lineOf (fs[fs.length - 1]'hlast) ++ " x" = jn spc ((fs[fs.length - 1]'hlast).map num ++ [("x" : Str)]) := jn_x (fun q => hgl1.1 (List.map_eq_nil_iff.mp q))
      have hwat : ∃ wl, ((fs.map lineOf).set (fs.length - 1) (lineOf (fs[fs.length - 1]'hlast) ++ " x"))[at_]? = some (jn spc wl) ∧ wl ≠ [] ∧ WsOk wl := by
        by_cases h : at_ = fs.length - 1
        · refine ⟨_, ?_, ?_, ws_x (ws_line hgl1 (by have := hfs _ (List.getElem_mem hlast); omega)) (by rw [List.length_map]; have := hfs _ (List.getElem_mem hlast); omega)⟩
          · rw [h, List.getElem?_set_self (by rw [List.length_map]; exact hlast), hxj]
          · simp
        · refine ⟨(fs[at_]'hat).map num, ?_, fun q => (Fa.good _ (List.getElem_mem hat)).1 (List.map_eq_nil_iff.mp q), ws_line (Fa.good _ (List.getElem_mem hat)) (by have := hfs _ (List.getElem_mem hat); omega)⟩
          rw [List.getElem?_set_ne (fun q => h q.symm), List.getElem?_map, hfat]
          rfl
      obtain ⟨wl, w1, w2, w3⟩ := hwat
      refine go _ wl _ upd_same (by rw [List.length_set, List.length_map]) ?_ w1 w2 w3 (fun l hl => ?_)
      · rw [List.take_set_of_le (by omega), List.map_take]
      · rcases List.mem_or_eq_of_mem_set hl with h | h
        · have := hfree0 l h
          exact ⟨this.1, by omega⟩
        · rw [h]
          refine ⟨?_, by rw [hx]; have := hll1.2; omega⟩
          rw [tl_append]
          exact fun q => (List.mem_append.mp q).elim (line_free _) (fun q => by
            have : (10 : Nat) ∈ [32, 120] := q
            simp at this)
    · exact go _ ((fs[at_]'hat).map num) H4 (e4 _ _ hl3) (by rw [List.length_map]) (by rw [List.map_take]) (by rw [List.getElem?_map, hfat]; rfl) (fun q => (Fa.good _ (List.getElem_mem hat)).1 (List.map_eq_nil_iff.mp q)) (ws_line (Fa.good _ (List.getElem_mem hat)) (by have := hfs _ (List.getElem_mem hat); omega)) (fun l hl => by have := hfree0 l hl; exact ⟨this.1, by omega⟩)
  -- a wrong count
  have hc9 : 9 ≤ c := by have := of_decide_eq_false hb9; omega
  have hl3 := e3 _ _ hl2
  refine q_asgC (ea_cons (ev_var rfl) (ea_cons (ev_var rfl) (ea_2 (ev_var rfl) (ev_is (w := vi (2 * e)) (ev_op ev_c (ev_var rfl) (rv_I (Or.inl ⟨by decide, by decide⟩))) (by show V.int _ = V.int _; congr 1))))) (fun H4 e4 => ⟨pl, fs, c, place, 2 * e, rfl, e4 _ _ hl3, Fa.good, hfne, by omega, by rw [← hn]; exact Fa.perm, by omega, by omega, by omega, hc9, by omega, hpl, fun q H5 hs hq e5 h5 hg5 hne5 hl5 hz5 hbad => ?_⟩)
  have hs150 : ∀ h ∈ hs, h.length ≤ 150 ∨ True := fun _ _ => .inr trivial
  have hsl : ∀ h ∈ hs, h.length ≤ 200 := fun h hh => by have := mem_flat_len hh; omega
  have hlineB : ∀ w ∈ hs.map lineOf, w.length ≤ 1000 := fun w hw => by
    obtain ⟨h, hh, rfl⟩ := List.mem_map.mp hw
    have := line_len (hg5 h hh).2.2
    have := hsl h hh
    omega
  -- a size that does: the numbers of all lines together
  have hsize : (jn nl (hs.map lineOf)).length ≤ 40000 := by
    rw [len_tl, tl_jn, tl_nl, List.map_map]
    have key : ∀ l : List (List Nat), (∀ h ∈ l, GoodG h) → (joinL [10] (l.map (tl ∘ lineOf))).length ≤ l.flatten.length * 5 + l.length := by
      intro l
      induction l with
      | nil => intro _; exact Nat.zero_le _
      | cons a r ih =>
        intro hl
        have h1 := line_len (hl a (List.mem_cons_self ..)).2.2
        rw [len_tl] at h1
        have h2 := ih fun z hz => hl z (List.mem_cons_of_mem _ hz)
        rw [List.flatten_cons, List.length_append, List.length_cons]
        cases r with
        | nil =>
          show (tl (lineOf a)).length ≤ _
          simp only [List.flatten_nil, List.length_nil]
          omega
        | cons b r =>
          have e : joinL [10] ((a :: b :: r).map (tl ∘ lineOf)) = tl (lineOf a) ++ ([10] ++ joinL [10] ((b :: r).map (tl ∘ lineOf))) := rfl
          rw [e, List.length_append, List.length_append, List.length_singleton]
          omega
    have := key hs hg5
    omega
  have hjn : (((hs.map lineOf)).map (·.length)).sum + (hs.map lineOf).length * nl.length ≤ 16777216 := sums hlineB (by rw [List.length_map]; omega) (by decide)
  have hfree5 : ∀ l ∈ hs.map lineOf, 10 ∉ tl l := fun l hl => by
    obtain ⟨h, _, rfl⟩ := List.mem_map.mp hl
    exact line_free h
  refine q_when (et_B (ev_var rfl)) (fun htw H6 e6 => ?_) (fun htw H6 e6 => ?_)
  · have h6 := e6 _ _ h5
    have hF : FacesIn (jn nl (hs.map lineOf ++ [("7 x" : Str)])) hs [("7 x" : Str)] := by
      refine ⟨rfl, by simp [lineP], ?_, hg5, by omega, fun l hl => by rw [List.mem_singleton.mp hl]; exact badL_7x.free, fun y r h => by cases h; exact badL_7x⟩
      rw [len_tl, tl_jn, tl_nl, List.map_append]
      have h1 := joinL_mid (s := 10) ((hs.map lineOf).map tl) [] (tl ("7 x" : Str))
      rw [List.append_nil] at h1
      rw [len_tl, tl_jn, tl_nl] at hsize
      have h2 : (joinL [10] []).length = 0 := rfl
      have h3 : (tl ("7 x" : Str)).length = 3 := rfl
      show (joinL [10] ((hs.map lineOf).map tl ++ [tl ("7 x" : Str)])).length ≤ _
      omega
    have ecat : EvL (tOp rCat (tVar 9) (tLst (tCons (tC (.str "7 x")) tNil))) [some (.ref a), some (.ref t), some (vi c), some (.bl twB), some (vi place), some (vi e), some (.ref pn), some (.ref x), some (.str tx), some (.ref q), some (vi at_), w11, w12] H6 (S (hs.map lineOf ++ [("7 x" : Str)])) := fun G eG Q' q' =>
      (ev_var (v := .ref q) rfl : Ev (tVar 9) _ G _) G (Ex.refl G) _ fun G1 e1' => (el_lst (ea_1 ev_c) (by show 1 ≤ 100000; decide) : EvL (tLst (tCons (tC (.str "7 x")) tNil)) _ G1 [.str "7 x"]) G1 (Ex.refl _) _ fun p' G2 hp' e2' h2' => ⟨q, p', _, _, rfl, rfl, e2' _ _ (e1' _ _ (eG _ _ h6)), h2', sz_of (by rw [List.length_map, List.length_map]; show _ + 1 ≤ _; omega), fun r hr => q' r _ (fresh_back (e1'.trans e2') hr) ((e1'.trans e2').trans (Ex.new hr)) (by rw [upd_same]; show _ = some (HO.lst (List.map V.str (_ ++ _))); rw [List.map_append]; rfl)⟩
    have htold := spl_Ltold (K := K) (H := H6) (jn_ne ⟨"7 x", by simp, fun q => by have := congrArg tl q; cases (show ([55, 32, 120] : List Nat) = [] from this)⟩) hF (by omega) (by simp)
    refine s_ret (ev_same3 (by decide +kernel) (el_call (ea_1 (ev_joinL ev_c ecat (sums (B := 1000) (fun w hw => ?_) (by rw [List.length_append, List.length_map]; show _ + 1 ≤ _; omega) (by decide)))) htold) (el_lst (ea_cons ev_c (ea_2 (ev_is (ev_op (ev_is (ev_cb (ea_1 (ev_var rfl)) (rc_len (sq_of h6))) (by rw [List.length_map, List.length_map])) ev_c rv_I0) (by show V.int _ = V.int _; congr 1)) ev_c)) (by show 3 ≤ 100000; decide))) (fun H7 _ => k H7)
    rcases List.mem_append.mp hw with h | h
    · exact hlineB w h
    · rw [List.mem_singleton.mp h]; decide +kernel
  · have h6 := e6 _ _ h5
    have hF : FacesIn (jn nl (hs.map lineOf)) hs [] := ⟨by unfold lineP; rw [List.append_nil], by unfold lineP; rw [List.append_nil]; exact fun q => hne5 (List.map_eq_nil_iff.mp q), by omega, hg5, by omega, (fun l hl => nomatch hl), (fun y r h => nomatch h)⟩
    obtain ⟨h0, hh0⟩ := List.exists_mem_of_ne_nil hs hne5
    exact s_ret (ev_same2 (by decide +kernel) (el_call (ea_1 (ev_join ev_c (ev_var rfl) (sq_of h6) hjn)) (spl_Ltold2 (jn_ne ⟨_, List.mem_map.mpr ⟨h0, hh0, rfl⟩, lineS_ne (hg5 h0 hh0)⟩) hF (by omega) hbad)) (el_lst (ea_2 ev_c ev_c) (by show 2 ≤ 100000; decide))) (fun H7 _ => k H7)
end K14
namespace K14
open PySem PySem.Spec PyProof.Rows L2 Evl TL Hm
theorem rd_law {K : PySem.W.Frag} (F : KE K) (vs : List V) (H : Hp) (Q : VK) (E : XK) (h : sp_law K vs H Q E) : Wt_law K vs H Q := by
  obtain ⟨a, zs, rfl, hS, k⟩ := h
  show t_law K _ [some (.ref a), none, none, none, none, none, none, none, none, none, none, none, none] H
  refine q_asgC (ea_2 (ev_var rfl) ev_c) (fun H1 e1 => ⟨a, zs, 0, rfl, ex_l e1 hS, by decide, by decide, fun t H2 ht tp e2 => ?_⟩)
  have x2 := e1.trans e2
  have ht0 : H t = none := fresh_back e1 ht
  refine q_asgC (ea_2 (ev_var rfl) ev_c) (fun H3 e3 => ⟨t, 18, rfl, tp_ex tp e3, by decide, by decide, fun c H4 c0 c1 t4 o4 => ?_⟩)
  obtain ⟨c, rfl⟩ : ∃ n : Nat, c = (n : Int) := ⟨c.toNat, by omega⟩
  refine q_asgEq (ea_2 (ev_var rfl) ev_c) (fun H5 e5 => ⟨t, 4, rfl, tp_ex t4 e5, by decide, by decide, fun d H6 d0 d1 t6 o6 => ⟨rfl, ?_⟩⟩)
  generalize hT : decide (V.int d = V.int 1) = twB
  refine q_asgC (ea_2 (ev_var rfl) ev_c) (fun H7 e7 => ⟨t, 97, rfl, tp_ex t6 e7, by decide, by decide, fun pl H8 p0 p1 t8 o8 => ?_⟩)
  obtain ⟨place, rfl⟩ : ∃ n : Nat, pl = (n : Int) := ⟨pl.toNat, by omega⟩
  refine q_asgC (ea_1 (ev_var rfl)) (fun H9 e9 => ⟨t, rfl, tp_ex t8 e9, fun e H10 he _ o10 => ?_⟩)
  have x10 : Ex H H10 := fun b o hb => by
    have nt := ne_of_none hb ht0
    exact o10 b o nt (e9 _ _ (o8 b o nt (e7 _ _ (o6 b o nt (e5 _ _ (o4 b o nt (e3 _ _ (x2 b o hb))))))))
  obtain ⟨e', he', h1', hsame, hmax⟩ : ∃ e' : Nat, e' ≤ 30 ∧ (c < 12 → 1 ≤ e') ∧ (¬ c < 12 → e' = e) ∧ (c < 12 → (if (e : Int) > 1 then (e : Int) else 1) = (e' : Int)) := by
    by_cases h : c < 12
    · refine ⟨if 1 < e then e else 1, by split <;> omega, fun _ => by split <;> omega, fun h2 => absurd h h2, fun _ => ?_⟩
      split <;> split <;> omega
    · exact ⟨e, he, fun h2 => absurd h2 h, fun _ => rfl, fun h2 => absurd h2 h⟩
  refine q_ifAsg (b := decide ((c : Int) < 12)) (v := .int (e' : Int)) (et_test (ev_op (ev_var rfl) ev_c rv_I0)) (fun hb => ev_is (ev_max2 ev_c (ev_var rfl)) ?_) (fun hb => ?_) (fun H11 e11 => ?_)
  · have := of_decide_eq_true hb
    rw [hmax (by omega)]
  · have := of_decide_eq_false hb
    rw [hsame (by omega)]
    rfl
  have x11 := x10.trans e11
  refine q_nexts (e := e') (zs := zs) rfl (ex_l x11 hS) (by decide) (by decide) rfl (by omega) (fun pn ns H12 hp x12 h12 P12 l12 => ?_)
  have hM : MP ns := ⟨P12, by omega, by omega⟩
  refine q_mesh (ev_var rfl) (sq_of h12) hM (fun x H13 hx m13 x13 => ?_)
  have h13 := x13 _ _ h12
  have Fa := faces_cyc hM
  have hc := el_lcLL (K := K) (σ := [some (.ref a), some (.ref t), some (vi c), some (.bl twB), some (vi place), some (vi e'), some (.ref pn), some (.ref x), none, none, none, none, none]) (H := H13) (tl := tCall (sp_Lrounds K) [] E0 (tCons (tVar 6) (tCons (tC (.bl true)) tNil))) (j := 12) (vs := [12]) (te := tCall (sp_Lline K) [] E0 (tCons (tVar 12) tNil)) (fun i => V.str (lineOf ((cyc ns true).getD i []))) (el_rounds rfl h13 hM) (by have := cyc_len hM true; omega) (fun _ => rfl) (fun i hi b H1 e1 hb => by
    have hg := cyc_small hM (List.getElem_mem hi)
    rw [show (cyc ns true).getD i [] = (cyc ns true)[i]'hi from by rw [List.getD_eq_getElem?_getD, List.getElem?_eq_getElem hi]; rfl]
    exact ev_call (ea_1 (ev_var rfl)) (spv_Lline (sq_of hb) hg.1 hg.2))
  rw [range_map_get (cyc ns true) (fun g => V.str (lineOf g)) _ (fun i hi => by
    rw [List.getD_eq_getElem?_getD, List.getElem?_eq_getElem hi]
    rfl)] at hc
  have ee : (cyc ns true).map (fun g => V.str (lineOf g)) = ((cyc ns true).map lineOf).map V.str := by rw [List.map_map]; rfl
  rw [ee] at hc
  refine q_asg (ev_joinL ev_c hc (text_size (cyc_len hM true) fun g hg => cyc_small hM hg)) (fun H14 e14 => ?_)
  have x14 : Ex H H14 := (x11.trans x12).trans (x13.trans e14)
  refine q_call2 (ea_2 (ev_var rfl) ev_c) fun H15 e15 => ?_
  refine ⟨a, zs, 2, rfl, ex_l (x14.trans e15) hS, by decide, by decide, fun t3 H16 ht3 tp3 e16 => ?_⟩
  have h16 : H16 pn = some (.lst (L ns)) := e16 _ _ (e15 _ _ (e14 _ _ h13))
  refine (el_rounds (K := K) (i := 6) (σ := [some (.ref a), some (.ref t), some (vi c), some (.bl twB), some (vi place), some (vi e'), some (.ref pn), some (.ref x), some (.str (textOf (cyc ns true))), none, none, none, none]) rfl h16 hM) H16 (Ex.refl _) _ (fun pf H17 hpf e17 hl17 => ?_)
  obtain ⟨as, hps, la, hfr⟩ := hl17
  obtain ⟨_, _, ht3', _⟩ := id tp3
  have nt3 : ∀ {b : Addr}, H16 b = none → b ≠ t3 := fun {b} q z => by
    rw [z, ht3'] at q
    cases q
  refine ⟨t3, pf, as, cyc ns true, rfl, tp_ex tp3 e17, hps, la, fun b hb => nt3 (hfr b hb).1, nt3 hpf, Fa.good, cyc_len hM true, fun pr H18 fs hpr o18 h18 hmix => ?_⟩
  have Fs := Fa.mix hmix
  have x18 : Ex H14 H18 := fun b o hb => o18 b o (ne_of_none (e15 _ _ hb) ht3) (e17 _ _ (e16 _ _ (e15 _ _ hb)))
  have m18 : MeshAt K H18 x ns := (m13.at.ex e14).ex x18
  have h60 : ns.length ≤ 100 := by omega
  have hfl := Fs.len
  have evj : Ev (tM1 (rJoin K) (tC (.str "\n")) (tVar 9)) [some (.ref a), some (.ref t), some (vi c), some (.bl twB), some (vi place), some (vi e'), some (.ref pn), some (.ref x), some (.str (textOf (cyc ns true))), some (.ref pr), none, none, none] H18 (.str (textOf fs)) := by
    refine ev_join ev_c (ev_var rfl) (sq_of h18) (text_size (by omega) fun g hg => ⟨(Fs.good g hg).2.1, (Fs.good g hg).2.2⟩)
  have evt : Ev (tMeth (He.ga K "Mesh") "text" (sp_Meshtext K) [] E0 (tVar 7) tNil) [some (.ref a), some (.ref t), some (vi c), some (.bl twB), some (vi place), some (vi e'), some (.ref pn), some (.ref x), some (.str (textOf (cyc ns true))), some (.ref pr), none, none, none] H18 (.str (textOf (cyc ns true))) :=
    ev_mm m18 (ev_var rfl) (by decide +kernel) ea_nil (fun H1 e1 Q q E => ⟨x, ns, rfl, m18.ex e1, hM, q⟩)
  refine q_when (b := !decide (V.str (textOf (cyc ns true)) = V.str (textOf (cyc ns true))) || (!true || !true)) (et_or (et_test (ev_op evt (ev_var rfl) (rv_ne rfl))) (fun _ => et_or (et_not (et_test (ev_readEq F.kq (ea_1 (ev_var rfl)) hM h60 Fa rfl m18))) (fun _ => et_not (et_test (ev_readEq F.kq (ea_1 evj) hM h60 Fs rfl m18))))) (fun hb => ?_) (fun _ H19 e19 => ?_)
  · rw [decide_eq_true rfl] at hb
    cases hb
  exact law_end F hM (by omega) he' Fs (by omega) (by omega) h1' (e19 _ _ h18) k
end K14
namespace K14
open PySem PySem.Spec PyProof.Rows L2 Evl Hm
def fileS : Str := PySem.Challenge.pw_halfmeshes_k14_texts_of_meshes.main.file
def topS (i : Nat) : Stmt := PySem.Challenge.pw_halfmeshes_k14_texts_of_meshes.main.body.getD i (.Pass ⟨0, 0, 0, 0⟩)
abbrev s_NotAMeshinit : Stmt := inClass (topS 3) 0
abbrev s_BadLineinit : Stmt := inClass (topS 4) 0
abbrev s_Meshinit : Stmt := inClass (topS 6) 0
theorem sc_Meshinit : FnScope nm_Meshinit pr_Meshinit (defScope s_Meshinit) := ⟨rfl, rfl, rfl, by decide +kernel, rfl, by decide +kernel, by decide +kernel⟩
abbrev s_Mesheq : Stmt := inClass (topS 6) 1
theorem sc_Mesheq : FnScope nm_Mesheq pr_Mesheq (defScope s_Mesheq) := ⟨rfl, rfl, rfl, by decide +kernel, rfl, by decide +kernel, by decide +kernel⟩
abbrev s_Meshfaces : Stmt := inClass (topS 6) 10
theorem sc_Meshfaces : FnScope nm_Meshfaces pr_Meshfaces (defScope s_Meshfaces) := ⟨rfl, rfl, rfl, by decide +kernel, rfl, by decide +kernel, by decide +kernel⟩
abbrev s_Meshtext : Stmt := inClass (topS 6) 17
theorem sc_Meshtext : FnScope nm_Meshtext pr_Meshtext (defScope s_Meshtext) := ⟨rfl, rfl, rfl, by decide +kernel, rfl, by decide +kernel, by decide +kernel⟩
abbrev s_readmesh : Stmt := topS 7
theorem sc_readmesh : FnScope nm_readmesh pr_readmesh (defScope s_readmesh) := ⟨rfl, rfl, rfl, by decide +kernel, rfl, by decide +kernel, by decide +kernel⟩
abbrev s_readfaces : Stmt := topS 8
theorem sc_readfaces : FnScope nm_readfaces pr_readfaces (defScope s_readfaces) := ⟨rfl, rfl, rfl, by decide +kernel, rfl, by decide +kernel, by decide +kernel⟩
abbrev s_isnumber : Stmt := topS 9
theorem sc_isnumber : FnScope nm_isnumber pr_isnumber (defScope s_isnumber) := ⟨rfl, rfl, rfl, by decide +kernel, rfl, by decide +kernel, by decide +kernel⟩
abbrev s_isinteger : Stmt := topS 10
theorem sc_isinteger : FnScope nm_isinteger pr_isinteger (defScope s_isinteger) := ⟨rfl, rfl, rfl, by decide +kernel, rfl, by decide +kernel, by decide +kernel⟩
abbrev s_arehalves : Stmt := topS 11
theorem sc_arehalves : FnScope nm_arehalves pr_arehalves (defScope s_arehalves) := ⟨rfl, rfl, rfl, by decide +kernel, rfl, by decide +kernel, by decide +kernel⟩
abbrev s_areallhalves : Stmt := topS 12
theorem sc_areallhalves : FnScope nm_areallhalves pr_areallhalves (defScope s_areallhalves) := ⟨rfl, rfl, rfl, by decide +kernel, rfl, by decide +kernel, by decide +kernel⟩
abbrev s_inverse : Stmt := topS 13
theorem sc_inverse : FnScope nm_inverse pr_inverse (defScope s_inverse) := ⟨rfl, rfl, rfl, by decide +kernel, rfl, by decide +kernel, by decide +kernel⟩
abbrev s_rounds : Stmt := topS 14
theorem sc_rounds : FnScope nm_rounds pr_rounds (defScope s_rounds) := ⟨rfl, rfl, rfl, by decide +kernel, rfl, by decide +kernel, by decide +kernel⟩
abbrev s_Ltape : Stmt := topS 16
theorem sc_Ltape : FnScope nm_Ltape pr_Ltape (defScope s_Ltape) := ⟨rfl, rfl, rfl, by decide +kernel, rfl, by decide +kernel, by decide +kernel⟩
abbrev s_Lpick : Stmt := topS 17
theorem sc_Lpick : FnScope nm_Lpick pr_Lpick (defScope s_Lpick) := ⟨rfl, rfl, rfl, by decide +kernel, rfl, by decide +kernel, by decide +kernel⟩
abbrev s_Lnexts : Stmt := topS 18
theorem sc_Lnexts : FnScope nm_Lnexts pr_Lnexts (defScope s_Lnexts) := ⟨rfl, rfl, rfl, by decide +kernel, rfl, by decide +kernel, by decide +kernel⟩
abbrev s_Lsize : Stmt := topS 19
theorem sc_Lsize : FnScope nm_Lsize pr_Lsize (defScope s_Lsize) := ⟨rfl, rfl, rfl, by decide +kernel, rfl, by decide +kernel, by decide +kernel⟩
abbrev s_Ltwin : Stmt := topS 20
theorem sc_Ltwin : FnScope nm_Ltwin pr_Ltwin (defScope s_Ltwin) := ⟨rfl, rfl, rfl, by decide +kernel, rfl, by decide +kernel, by decide +kernel⟩
abbrev s_Lturned : Stmt := topS 21
theorem sc_Lturned : FnScope nm_Lturned pr_Lturned (defScope s_Lturned) := ⟨rfl, rfl, rfl, by decide +kernel, rfl, by decide +kernel, by decide +kernel⟩
abbrev s_Lround : Stmt := topS 22
theorem sc_Lround : FnScope nm_Lround pr_Lround (defScope s_Lround) := ⟨rfl, rfl, rfl, by decide +kernel, rfl, by decide +kernel, by decide +kernel⟩
abbrev s_Lrounds : Stmt := topS 23
theorem sc_Lrounds : FnScope nm_Lrounds pr_Lrounds (defScope s_Lrounds) := ⟨rfl, rfl, rfl, by decide +kernel, rfl, by decide +kernel, by decide +kernel⟩
abbrev s_Lline : Stmt := topS 24
theorem sc_Lline : FnScope nm_Lline pr_Lline (defScope s_Lline) := ⟨rfl, rfl, rfl, by decide +kernel, rfl, by decide +kernel, by decide +kernel⟩
abbrev s_Lmixed : Stmt := topS 25
theorem sc_Lmixed : FnScope nm_Lmixed pr_Lmixed (defScope s_Lmixed) := ⟨rfl, rfl, rfl, by decide +kernel, rfl, by decide +kernel, by decide +kernel⟩
abbrev s_Lspoilt : Stmt := topS 26
theorem sc_Lspoilt : FnScope nm_Lspoilt pr_Lspoilt (defScope s_Lspoilt) := ⟨rfl, rfl, rfl, by decide +kernel, rfl, by decide +kernel, by decide +kernel⟩
abbrev s_Ltold : Stmt := topS 27
theorem sc_Ltold : FnScope nm_Ltold pr_Ltold (defScope s_Ltold) := ⟨rfl, rfl, rfl, by decide +kernel, rfl, by decide +kernel, by decide +kernel⟩
abbrev s_Lmiscounted : Stmt := topS 28
theorem sc_Lmiscounted : FnScope nm_Lmiscounted pr_Lmiscounted (defScope s_Lmiscounted) := ⟨rfl, rfl, rfl, by decide +kernel, rfl, by decide +kernel, by decide +kernel⟩
abbrev s_law : Stmt := topS 29
theorem sc_law : FnScope nm_law pr_law (defScope s_law) := ⟨rfl, rfl, rfl, by decide +kernel, rfl, by decide +kernel, by decide +kernel⟩
def cl_NotAMesh : CloD := ⟨"NotAMesh", "NotAMesh.__init__", defArgs s_NotAMeshinit, defBody s_NotAMeshinit, defScope s_NotAMeshinit⟩
def cl_BadLine : CloD := ⟨"BadLine", "BadLine.__init__", defArgs s_BadLineinit, defBody s_BadLineinit, defScope s_BadLineinit⟩
structure PF (P : Program) : Prop where
  file : P.main.file = fileS
  top : (P.main.scope.names.lookup ("super" : Str)).isSome = false
structure Tx (P : Program) (K : PySem.W.Frag) (mg : Str → Option Value) where
  n_len : mg "len" = none
  n_abs : mg "abs" = none
  n_int : mg "int" = none
  n_list : mg "list" = none
  n_all : mg "all" = none
  n_isinstance : mg "isinstance" = none
  n_min : mg "min" = none
  n_max : mg "max" = none
  n_range : mg "range" = none
  n_bool : mg "bool" = none
  n_enumerate : mg "enumerate" = none
  n_str : mg "str" = none
  n_super : mg "super" = none
  n_set : mg "set" = none
  m_MeshError : mg "MeshError" = some (.ref (He.ga K "MeshError"))
  m_NotAMesh : mg "NotAMesh" = some (.ref (He.ga K "NotAMesh"))
  m_BadLine : mg "BadLine" = some (.ref (He.ga K "BadLine"))
  m_Mesh : mg "Mesh" = some (.ref (He.ga K "Mesh"))
  cl_Mesh : Cls K (He.ga K "Mesh")
  na_nexts : NoAttr K (He.ga K "Mesh") "_nexts"
  na_prevs : NoAttr K (He.ga K "Mesh") "_prevs"
  na_turns : NoAttr K (He.ga K "Mesh") "_turns"
  mk_Mesh : Mk K (He.ga K "Mesh") (He.ma K (He.ga K "Mesh") "__init__")
  fd_NotAMeshinit : FuncData
  u_NotAMesh : SupX P K cl_NotAMesh fd_NotAMeshinit
  b_NotAMeshinit : Binds K fd_NotAMeshinit pr_NotAMeshinit []
  fd_BadLineinit : FuncData
  u_BadLine : SupX P K cl_BadLine fd_BadLineinit
  b_BadLineinit : Binds K fd_BadLineinit pr_BadLineinit []
  fd_Meshinit : FuncData
  F_Meshinit : FunD K "__init__" "Mesh.__init__" (defArgs s_Meshinit) (defBody s_Meshinit) (defScope s_Meshinit) [] [] (He.ma K (He.ga K "Mesh") "__init__") fd_Meshinit
  b_Meshinit : Binds K fd_Meshinit pr_Meshinit []
  me_Mesheq : Meth K (He.ga K "Mesh") "__eq__" (He.ma K (He.ga K "Mesh") "__eq__")
  fd_Mesheq : FuncData
  F_Mesheq : FunD K "__eq__" "Mesh.__eq__" (defArgs s_Mesheq) (defBody s_Mesheq) (defScope s_Mesheq) [] [] (He.ma K (He.ga K "Mesh") "__eq__") fd_Mesheq
  b_Mesheq : Binds K fd_Mesheq pr_Mesheq []
  me_Meshfaces : Meth K (He.ga K "Mesh") "faces" (He.ma K (He.ga K "Mesh") "faces")
  fd_Meshfaces : FuncData
  F_Meshfaces : FunD K "faces" "Mesh.faces" (defArgs s_Meshfaces) (defBody s_Meshfaces) (defScope s_Meshfaces) [] [] (He.ma K (He.ga K "Mesh") "faces") fd_Meshfaces
  b_Meshfaces : Binds K fd_Meshfaces pr_Meshfaces []
  me_Meshtext : Meth K (He.ga K "Mesh") "text" (He.ma K (He.ga K "Mesh") "text")
  fd_Meshtext : FuncData
  F_Meshtext : FunD K "text" "Mesh.text" (defArgs s_Meshtext) (defBody s_Meshtext) (defScope s_Meshtext) [] [] (He.ma K (He.ga K "Mesh") "text") fd_Meshtext
  b_Meshtext : Binds K fd_Meshtext pr_Meshtext []
  m_readmesh : mg "read_mesh" = some (.ref (He.ga K "read_mesh"))
  fd_readmesh : FuncData
  F_readmesh : FunD K "read_mesh" "read_mesh" (defArgs s_readmesh) (defBody s_readmesh) (defScope s_readmesh) [] [] (He.ga K "read_mesh") fd_readmesh
  b_readmesh : Binds K fd_readmesh pr_readmesh []
  m_readfaces : mg "_read_faces" = some (.ref (He.ga K "_read_faces"))
  fd_readfaces : FuncData
  F_readfaces : FunD K "_read_faces" "_read_faces" (defArgs s_readfaces) (defBody s_readfaces) (defScope s_readfaces) [] [] (He.ga K "_read_faces") fd_readfaces
  b_readfaces : Binds K fd_readfaces pr_readfaces []
  m_isnumber : mg "_is_number" = some (.ref (He.ga K "_is_number"))
  fd_isnumber : FuncData
  F_isnumber : FunD K "_is_number" "_is_number" (defArgs s_isnumber) (defBody s_isnumber) (defScope s_isnumber) [] [] (He.ga K "_is_number") fd_isnumber
  b_isnumber : Binds K fd_isnumber pr_isnumber []
  m_isinteger : mg "_is_integer" = some (.ref (He.ga K "_is_integer"))
  fd_isinteger : FuncData
  F_isinteger : FunD K "_is_integer" "_is_integer" (defArgs s_isinteger) (defBody s_isinteger) (defScope s_isinteger) [] [] (He.ga K "_is_integer") fd_isinteger
  b_isinteger : Binds K fd_isinteger pr_isinteger []
  m_arehalves : mg "are_halves" = some (.ref (He.ga K "are_halves"))
  fd_arehalves : FuncData
  F_arehalves : FunD K "are_halves" "are_halves" (defArgs s_arehalves) (defBody s_arehalves) (defScope s_arehalves) [] [] (He.ga K "are_halves") fd_arehalves
  b_arehalves : Binds K fd_arehalves pr_arehalves []
  m_areallhalves : mg "_are_all_halves" = some (.ref (He.ga K "_are_all_halves"))
  fd_areallhalves : FuncData
  F_areallhalves : FunD K "_are_all_halves" "_are_all_halves" (defArgs s_areallhalves) (defBody s_areallhalves) (defScope s_areallhalves) [] [] (He.ga K "_are_all_halves") fd_areallhalves
  b_areallhalves : Binds K fd_areallhalves pr_areallhalves []
  m_inverse : mg "_inverse" = some (.ref (He.ga K "_inverse"))
  fd_inverse : FuncData
  F_inverse : FunD K "_inverse" "_inverse" (defArgs s_inverse) (defBody s_inverse) (defScope s_inverse) [] [] (He.ga K "_inverse") fd_inverse
  b_inverse : Binds K fd_inverse pr_inverse []
  m_rounds : mg "_rounds" = some (.ref (He.ga K "_rounds"))
  fd_rounds : FuncData
  F_rounds : FunD K "_rounds" "_rounds" (defArgs s_rounds) (defBody s_rounds) (defScope s_rounds) [] [] (He.ga K "_rounds") fd_rounds
  b_rounds : Binds K fd_rounds pr_rounds []
  m_Ltape : mg "_law_tape" = some (.ref (He.ga K "_law_tape"))
  fd_Ltape : FuncData
  F_Ltape : FunD K "_law_tape" "_law_tape" (defArgs s_Ltape) (defBody s_Ltape) (defScope s_Ltape) [] [] (He.ga K "_law_tape") fd_Ltape
  b_Ltape : Binds K fd_Ltape pr_Ltape []
  m_Lpick : mg "_law_pick" = some (.ref (He.ga K "_law_pick"))
  fd_Lpick : FuncData
  F_Lpick : FunD K "_law_pick" "_law_pick" (defArgs s_Lpick) (defBody s_Lpick) (defScope s_Lpick) [] [] (He.ga K "_law_pick") fd_Lpick
  b_Lpick : Binds K fd_Lpick pr_Lpick []
  m_Lnexts : mg "_law_nexts" = some (.ref (He.ga K "_law_nexts"))
  fd_Lnexts : FuncData
  F_Lnexts : FunD K "_law_nexts" "_law_nexts" (defArgs s_Lnexts) (defBody s_Lnexts) (defScope s_Lnexts) [] [] (He.ga K "_law_nexts") fd_Lnexts
  b_Lnexts : Binds K fd_Lnexts pr_Lnexts []
  m_Lsize : mg "_law_size" = some (.ref (He.ga K "_law_size"))
  fd_Lsize : FuncData
  F_Lsize : FunD K "_law_size" "_law_size" (defArgs s_Lsize) (defBody s_Lsize) (defScope s_Lsize) [] [] (He.ga K "_law_size") fd_Lsize
  b_Lsize : Binds K fd_Lsize pr_Lsize []
  m_Ltwin : mg "_law_twin" = some (.ref (He.ga K "_law_twin"))
  fd_Ltwin : FuncData
  F_Ltwin : FunD K "_law_twin" "_law_twin" (defArgs s_Ltwin) (defBody s_Ltwin) (defScope s_Ltwin) [] [] (He.ga K "_law_twin") fd_Ltwin
  b_Ltwin : Binds K fd_Ltwin pr_Ltwin []
  m_Lturned : mg "_law_turned" = some (.ref (He.ga K "_law_turned"))
  fd_Lturned : FuncData
  F_Lturned : FunD K "_law_turned" "_law_turned" (defArgs s_Lturned) (defBody s_Lturned) (defScope s_Lturned) [] [] (He.ga K "_law_turned") fd_Lturned
  b_Lturned : Binds K fd_Lturned pr_Lturned []
  m_Lround : mg "_law_round" = some (.ref (He.ga K "_law_round"))
  fd_Lround : FuncData
  F_Lround : FunD K "_law_round" "_law_round" (defArgs s_Lround) (defBody s_Lround) (defScope s_Lround) [] [] (He.ga K "_law_round") fd_Lround
  b_Lround : Binds K fd_Lround pr_Lround []
  m_Lrounds : mg "_law_rounds" = some (.ref (He.ga K "_law_rounds"))
  fd_Lrounds : FuncData
  F_Lrounds : FunD K "_law_rounds" "_law_rounds" (defArgs s_Lrounds) (defBody s_Lrounds) (defScope s_Lrounds) [] [] (He.ga K "_law_rounds") fd_Lrounds
  b_Lrounds : Binds K fd_Lrounds pr_Lrounds []
  m_Lline : mg "_law_line" = some (.ref (He.ga K "_law_line"))
  fd_Lline : FuncData
  F_Lline : FunD K "_law_line" "_law_line" (defArgs s_Lline) (defBody s_Lline) (defScope s_Lline) [] [] (He.ga K "_law_line") fd_Lline
  b_Lline : Binds K fd_Lline pr_Lline []
  m_Lmixed : mg "_law_mixed" = some (.ref (He.ga K "_law_mixed"))
  fd_Lmixed : FuncData
  F_Lmixed : FunD K "_law_mixed" "_law_mixed" (defArgs s_Lmixed) (defBody s_Lmixed) (defScope s_Lmixed) [] [] (He.ga K "_law_mixed") fd_Lmixed
  b_Lmixed : Binds K fd_Lmixed pr_Lmixed []
  m_Lspoilt : mg "_law_spoilt" = some (.ref (He.ga K "_law_spoilt"))
  fd_Lspoilt : FuncData
  F_Lspoilt : FunD K "_law_spoilt" "_law_spoilt" (defArgs s_Lspoilt) (defBody s_Lspoilt) (defScope s_Lspoilt) [] [] (He.ga K "_law_spoilt") fd_Lspoilt
  b_Lspoilt : Binds K fd_Lspoilt pr_Lspoilt []
  m_Ltold : mg "_law_told" = some (.ref (He.ga K "_law_told"))
  fd_Ltold : FuncData
  F_Ltold : FunD K "_law_told" "_law_told" (defArgs s_Ltold) (defBody s_Ltold) (defScope s_Ltold) [] [] (He.ga K "_law_told") fd_Ltold
  b_Ltold : Binds K fd_Ltold pr_Ltold []
  m_Lmiscounted : mg "_law_miscounted" = some (.ref (He.ga K "_law_miscounted"))
  fd_Lmiscounted : FuncData
  F_Lmiscounted : FunD K "_law_miscounted" "_law_miscounted" (defArgs s_Lmiscounted) (defBody s_Lmiscounted) (defScope s_Lmiscounted) [] [] (He.ga K "_law_miscounted") fd_Lmiscounted
  b_Lmiscounted : Binds K fd_Lmiscounted pr_Lmiscounted []
  fd_law : FuncData
  F_law : FunD K "law" "law" (defArgs s_law) (defBody s_law) (defScope s_law) [] [] (He.ga K "law") fd_law
  b_law : Binds K fd_law pr_law []
  na_BadLine_line : NoAttr K (He.ga K "BadLine") "line"
  x_NotAMesh : ExcC K (He.ga K "NotAMesh")
  x_BadLine : ExcC K (He.ga K "BadLine")
  f_1 : PySem.W.exmOne K (.ref (He.ga K "NotAMesh")) (.ref (He.ga K "NotAMesh")) = some true
  f_2 : PySem.W.exmOne K (.ref (He.ga K "NotAMesh")) (.ref (He.ga K "BadLine")) = some false
  f_3 : PySem.W.exmOne K (.ref (He.ga K "BadLine")) (.ref (He.ga K "BadLine")) = some true
  f_4 : PySem.W.kitOne K (.ref (He.ga K "NotAMesh")) (.ref (He.ga K "MeshError")) = some true
  f_5 : PySem.W.kitOne K (.ref (He.ga K "BadLine")) (.ref (He.ga K "MeshError")) = some true
  i_Mesh : InsF K (He.ga K "Mesh")
  e_1 : PySem.W.kitOne K (.type "list") (.ref (He.ga K "Mesh")) = some false
  e_2 : PySem.W.kitOne K (.type "int") (.ref (He.ga K "Mesh")) = some false
  e_3 : PySem.W.subIn K (.type "list") (.ref (He.ga K "Mesh")) = some false
  e_4 : PySem.W.subIn K (.type "int") (.ref (He.ga K "Mesh")) = some false
theorem Tx.kf {P : Program} {K : PySem.W.Frag} {mg : Str → Option Value} (T : Tx P K mg) : Hm.KF K := ⟨T.cl_Mesh, T.na_nexts, T.na_prevs, T.na_turns⟩
theorem Tx.kq {P : Program} {K : PySem.W.Frag} {mg : Str → Option Value} (T : Tx P K mg) : Hm.KQ K := ⟨T.kf, T.i_Mesh, T.e_1, T.e_2, T.e_3, T.e_4⟩
theorem Tx.ke {P : Program} {K : PySem.W.Frag} {mg : Str → Option Value} (T : Tx P K mg) : K14.KE K := ⟨T.kq, T.u_BadLine.F.oex, T.na_BadLine_line, T.f_1, T.f_2, T.f_3, T.f_4, T.f_5⟩
def fn : List He.DefD := [⟨("Mesh", some "__init__"), "__init__", "Mesh.__init__", defArgs s_Meshinit, defBody s_Meshinit, defScope s_Meshinit, [], []⟩,
  ⟨("Mesh", some "__eq__"), "__eq__", "Mesh.__eq__", defArgs s_Mesheq, defBody s_Mesheq, defScope s_Mesheq, [], []⟩,
  ⟨("Mesh", some "faces"), "faces", "Mesh.faces", defArgs s_Meshfaces, defBody s_Meshfaces, defScope s_Meshfaces, [], []⟩,
  ⟨("Mesh", some "text"), "text", "Mesh.text", defArgs s_Meshtext, defBody s_Meshtext, defScope s_Meshtext, [], []⟩,
  ⟨("read_mesh", none), "read_mesh", "read_mesh", defArgs s_readmesh, defBody s_readmesh, defScope s_readmesh, [], []⟩,
  ⟨("_read_faces", none), "_read_faces", "_read_faces", defArgs s_readfaces, defBody s_readfaces, defScope s_readfaces, [], []⟩,
  ⟨("_is_number", none), "_is_number", "_is_number", defArgs s_isnumber, defBody s_isnumber, defScope s_isnumber, [], []⟩,
  ⟨("_is_integer", none), "_is_integer", "_is_integer", defArgs s_isinteger, defBody s_isinteger, defScope s_isinteger, [], []⟩,
  ⟨("are_halves", none), "are_halves", "are_halves", defArgs s_arehalves, defBody s_arehalves, defScope s_arehalves, [], []⟩,
  ⟨("_are_all_halves", none), "_are_all_halves", "_are_all_halves", defArgs s_areallhalves, defBody s_areallhalves, defScope s_areallhalves, [], []⟩,
  ⟨("_inverse", none), "_inverse", "_inverse", defArgs s_inverse, defBody s_inverse, defScope s_inverse, [], []⟩,
  ⟨("_rounds", none), "_rounds", "_rounds", defArgs s_rounds, defBody s_rounds, defScope s_rounds, [], []⟩,
  ⟨("_law_tape", none), "_law_tape", "_law_tape", defArgs s_Ltape, defBody s_Ltape, defScope s_Ltape, [], []⟩,
  ⟨("_law_pick", none), "_law_pick", "_law_pick", defArgs s_Lpick, defBody s_Lpick, defScope s_Lpick, [], []⟩,
  ⟨("_law_nexts", none), "_law_nexts", "_law_nexts", defArgs s_Lnexts, defBody s_Lnexts, defScope s_Lnexts, [], []⟩,
  ⟨("_law_size", none), "_law_size", "_law_size", defArgs s_Lsize, defBody s_Lsize, defScope s_Lsize, [], []⟩,
  ⟨("_law_twin", none), "_law_twin", "_law_twin", defArgs s_Ltwin, defBody s_Ltwin, defScope s_Ltwin, [], []⟩,
  ⟨("_law_turned", none), "_law_turned", "_law_turned", defArgs s_Lturned, defBody s_Lturned, defScope s_Lturned, [], []⟩,
  ⟨("_law_round", none), "_law_round", "_law_round", defArgs s_Lround, defBody s_Lround, defScope s_Lround, [], []⟩,
  ⟨("_law_rounds", none), "_law_rounds", "_law_rounds", defArgs s_Lrounds, defBody s_Lrounds, defScope s_Lrounds, [], []⟩,
  ⟨("_law_line", none), "_law_line", "_law_line", defArgs s_Lline, defBody s_Lline, defScope s_Lline, [], []⟩,
  ⟨("_law_mixed", none), "_law_mixed", "_law_mixed", defArgs s_Lmixed, defBody s_Lmixed, defScope s_Lmixed, [], []⟩,
  ⟨("_law_spoilt", none), "_law_spoilt", "_law_spoilt", defArgs s_Lspoilt, defBody s_Lspoilt, defScope s_Lspoilt, [], []⟩,
  ⟨("_law_told", none), "_law_told", "_law_told", defArgs s_Ltold, defBody s_Ltold, defScope s_Ltold, [], []⟩,
  ⟨("_law_miscounted", none), "_law_miscounted", "_law_miscounted", defArgs s_Lmiscounted, defBody s_Lmiscounted, defScope s_Lmiscounted, [], []⟩,
  ⟨("law", none), "law", "law", defArgs s_law, defBody s_law, defScope s_law, [], []⟩]
def fa : List He.Fa := [.free "len", .free "abs", .free "int", .free "list", .free "all", .free "isinstance", .free "min", .free "max", .free "range", .free "bool", .free "enumerate", .free "str", .free "super", .free "set", .glo "MeshError", .glo "NotAMesh", .glo "BadLine", .glo "Mesh", .cls "Mesh", .noat "Mesh" "_nexts", .noat "Mesh" "_prevs", .noat "Mesh" "_turns", .mkr "Mesh", .meth "Mesh" "__eq__", .meth "Mesh" "faces", .meth "Mesh" "text", .glo "read_mesh", .glo "_read_faces", .glo "_is_number", .glo "_is_integer", .glo "are_halves", .glo "_are_all_halves", .glo "_inverse", .glo "_rounds", .glo "_law_tape", .glo "_law_pick", .glo "_law_nexts", .glo "_law_size", .glo "_law_twin", .glo "_law_turned", .glo "_law_round", .glo "_law_rounds", .glo "_law_line", .glo "_law_mixed", .glo "_law_spoilt", .glo "_law_told", .glo "_law_miscounted", .noat "BadLine" "line", .glo "law"]
def fx : List Fx := [.sup "NotAMesh", .sup "BadLine", .exc "NotAMesh", .exc "BadLine", .exm "NotAMesh" "NotAMesh" true, .exm "NotAMesh" "BadLine" false, .exm "BadLine" "BadLine" true, .kit (.own "NotAMesh") (.own "MeshError") true, .kit (.own "BadLine") (.own "MeshError") true, .ins "Mesh", .kit (.ty "list") (.own "Mesh") false, .kit (.ty "int") (.own "Mesh") false, .sub (.ty "list") "Mesh" false, .sub (.ty "int") "Mesh" false]
def cl : List CloD := [cl_NotAMesh, cl_BadLine]
def pg : List PgD := []
theorem tx_of {P : Program} {K : PySem.W.Frag} {h : Heap} {mg : Str → Option Value} (hP : PF P) (X : K.In h) (G : h.Ns mainGlobals mg) (c : SaysS fa fn fx cl fileS K) : Nonempty (Tx P K mg) := by
  have cd := c.d
  obtain ⟨fd_NotAMeshinit, u_NotAMesh⟩ := sup_of (P := P) (d := cl_NotAMesh) (c.clo 0 rfl) (by rw [hP.file]; exact c.fact 0 (f := .sup "NotAMesh") rfl) hP.top
  have b_NotAMeshinit : Binds K fd_NotAMeshinit pr_NotAMeshinit [] := by
    obtain ⟨cl, kV, doc, pm, an, cdv, ct, e⟩ := u_NotAMesh.fx
    rw [e]
    exact Binds.all fun us hl => match us, hl with | [_], _ => rfl
  obtain ⟨fd_BadLineinit, u_BadLine⟩ := sup_of (P := P) (d := cl_BadLine) (c.clo 1 rfl) (by rw [hP.file]; exact c.fact 1 (f := .sup "BadLine") rfl) hP.top
  have b_BadLineinit : Binds K fd_BadLineinit pr_BadLineinit [] := by
    obtain ⟨cl, kV, doc, pm, an, cdv, ct, e⟩ := u_BadLine.fx
    rw [e]
    exact Binds.all fun us hl => match us, hl with | [_, _], _ => rfl
  obtain ⟨fd_Meshinit, F_Meshinit⟩ := cd.def_ 0 rfl
  have b_Meshinit : Binds K fd_Meshinit pr_Meshinit [] := F_Meshinit.bindsN fun _ _ _ _ _ _ us hl => match us, hl with | [_, _], _ => rfl
  obtain ⟨fd_Mesheq, F_Mesheq⟩ := cd.def_ 1 rfl
  have b_Mesheq : Binds K fd_Mesheq pr_Mesheq [] := F_Mesheq.bindsN fun _ _ _ _ _ _ us hl => match us, hl with | [_, _], _ => rfl
  obtain ⟨fd_Meshfaces, F_Meshfaces⟩ := cd.def_ 2 rfl
  have b_Meshfaces : Binds K fd_Meshfaces pr_Meshfaces [] := F_Meshfaces.bindsN fun _ _ _ _ _ _ us hl => match us, hl with | [_], _ => rfl
  obtain ⟨fd_Meshtext, F_Meshtext⟩ := cd.def_ 3 rfl
  have b_Meshtext : Binds K fd_Meshtext pr_Meshtext [] := F_Meshtext.bindsN fun _ _ _ _ _ _ us hl => match us, hl with | [_], _ => rfl
  obtain ⟨fd_readmesh, F_readmesh⟩ := cd.def_ 4 rfl
  have b_readmesh : Binds K fd_readmesh pr_readmesh [] := F_readmesh.bindsN fun _ _ _ _ _ _ us hl => match us, hl with | [_], _ => rfl
  obtain ⟨fd_readfaces, F_readfaces⟩ := cd.def_ 5 rfl
  have b_readfaces : Binds K fd_readfaces pr_readfaces [] := F_readfaces.bindsN fun _ _ _ _ _ _ us hl => match us, hl with | [_], _ => rfl
  obtain ⟨fd_isnumber, F_isnumber⟩ := cd.def_ 6 rfl
  have b_isnumber : Binds K fd_isnumber pr_isnumber [] := F_isnumber.bindsN fun _ _ _ _ _ _ us hl => match us, hl with | [_], _ => rfl
  obtain ⟨fd_isinteger, F_isinteger⟩ := cd.def_ 7 rfl
  have b_isinteger : Binds K fd_isinteger pr_isinteger [] := F_isinteger.bindsN fun _ _ _ _ _ _ us hl => match us, hl with | [_], _ => rfl
  obtain ⟨fd_arehalves, F_arehalves⟩ := cd.def_ 8 rfl
  have b_arehalves : Binds K fd_arehalves pr_arehalves [] := F_arehalves.bindsN fun _ _ _ _ _ _ us hl => match us, hl with | [_, _], _ => rfl
  obtain ⟨fd_areallhalves, F_areallhalves⟩ := cd.def_ 9 rfl
  have b_areallhalves : Binds K fd_areallhalves pr_areallhalves [] := F_areallhalves.bindsN fun _ _ _ _ _ _ us hl => match us, hl with | [_], _ => rfl
  obtain ⟨fd_inverse, F_inverse⟩ := cd.def_ 10 rfl
  have b_inverse : Binds K fd_inverse pr_inverse [] := F_inverse.bindsN fun _ _ _ _ _ _ us hl => match us, hl with | [_], _ => rfl
  obtain ⟨fd_rounds, F_rounds⟩ := cd.def_ 11 rfl
  have b_rounds : Binds K fd_rounds pr_rounds [] := F_rounds.bindsN fun _ _ _ _ _ _ us hl => match us, hl with | [_], _ => rfl
  obtain ⟨fd_Ltape, F_Ltape⟩ := cd.def_ 12 rfl
  have b_Ltape : Binds K fd_Ltape pr_Ltape [] := F_Ltape.bindsN fun _ _ _ _ _ _ us hl => match us, hl with | [_, _], _ => rfl
  obtain ⟨fd_Lpick, F_Lpick⟩ := cd.def_ 13 rfl
  have b_Lpick : Binds K fd_Lpick pr_Lpick [] := F_Lpick.bindsN fun _ _ _ _ _ _ us hl => match us, hl with | [_, _], _ => rfl
  obtain ⟨fd_Lnexts, F_Lnexts⟩ := cd.def_ 14 rfl
  have b_Lnexts : Binds K fd_Lnexts pr_Lnexts [] := F_Lnexts.bindsN fun _ _ _ _ _ _ us hl => match us, hl with | [_, _], _ => rfl
  obtain ⟨fd_Lsize, F_Lsize⟩ := cd.def_ 15 rfl
  have b_Lsize : Binds K fd_Lsize pr_Lsize [] := F_Lsize.bindsN fun _ _ _ _ _ _ us hl => match us, hl with | [_], _ => rfl
  obtain ⟨fd_Ltwin, F_Ltwin⟩ := cd.def_ 16 rfl
  have b_Ltwin : Binds K fd_Ltwin pr_Ltwin [] := F_Ltwin.bindsN fun _ _ _ _ _ _ us hl => match us, hl with | [_], _ => rfl
  obtain ⟨fd_Lturned, F_Lturned⟩ := cd.def_ 17 rfl
  have b_Lturned : Binds K fd_Lturned pr_Lturned [] := F_Lturned.bindsN fun _ _ _ _ _ _ us hl => match us, hl with | [_, _], _ => rfl
  obtain ⟨fd_Lround, F_Lround⟩ := cd.def_ 18 rfl
  have b_Lround : Binds K fd_Lround pr_Lround [] := F_Lround.bindsN fun _ _ _ _ _ _ us hl => match us, hl with | [_, _, _], _ => rfl
  obtain ⟨fd_Lrounds, F_Lrounds⟩ := cd.def_ 19 rfl
  have b_Lrounds : Binds K fd_Lrounds pr_Lrounds [] := F_Lrounds.bindsN fun _ _ _ _ _ _ us hl => match us, hl with | [_, _], _ => rfl
  obtain ⟨fd_Lline, F_Lline⟩ := cd.def_ 20 rfl
  have b_Lline : Binds K fd_Lline pr_Lline [] := F_Lline.bindsN fun _ _ _ _ _ _ us hl => match us, hl with | [_], _ => rfl
  obtain ⟨fd_Lmixed, F_Lmixed⟩ := cd.def_ 21 rfl
  have b_Lmixed : Binds K fd_Lmixed pr_Lmixed [] := F_Lmixed.bindsN fun _ _ _ _ _ _ us hl => match us, hl with | [_, _], _ => rfl
  obtain ⟨fd_Lspoilt, F_Lspoilt⟩ := cd.def_ 22 rfl
  have b_Lspoilt : Binds K fd_Lspoilt pr_Lspoilt [] := F_Lspoilt.bindsN fun _ _ _ _ _ _ us hl => match us, hl with | [_, _, _], _ => rfl
  obtain ⟨fd_Ltold, F_Ltold⟩ := cd.def_ 23 rfl
  have b_Ltold : Binds K fd_Ltold pr_Ltold [] := F_Ltold.bindsN fun _ _ _ _ _ _ us hl => match us, hl with | [_], _ => rfl
  obtain ⟨fd_Lmiscounted, F_Lmiscounted⟩ := cd.def_ 24 rfl
  have b_Lmiscounted : Binds K fd_Lmiscounted pr_Lmiscounted [] := F_Lmiscounted.bindsN fun _ _ _ _ _ _ us hl => match us, hl with | [_, _, _, _], _ => rfl
  obtain ⟨fd_law, F_law⟩ := cd.def_ 25 rfl
  have b_law : Binds K fd_law pr_law [] := F_law.bindsN fun _ _ _ _ _ _ us hl => match us, hl with | [_], _ => rfl
  exact ⟨⟨He.free_ok X G (cd.fact 0 (f := .free "len") rfl),
    He.free_ok X G (cd.fact 1 (f := .free "abs") rfl),
    He.free_ok X G (cd.fact 2 (f := .free "int") rfl),
    He.free_ok X G (cd.fact 3 (f := .free "list") rfl),
    He.free_ok X G (cd.fact 4 (f := .free "all") rfl),
    He.free_ok X G (cd.fact 5 (f := .free "isinstance") rfl),
    He.free_ok X G (cd.fact 6 (f := .free "min") rfl),
    He.free_ok X G (cd.fact 7 (f := .free "max") rfl),
    He.free_ok X G (cd.fact 8 (f := .free "range") rfl),
    He.free_ok X G (cd.fact 9 (f := .free "bool") rfl),
    He.free_ok X G (cd.fact 10 (f := .free "enumerate") rfl),
    He.free_ok X G (cd.fact 11 (f := .free "str") rfl),
    He.free_ok X G (cd.fact 12 (f := .free "super") rfl),
    He.free_ok X G (cd.fact 13 (f := .free "set") rfl),
    He.glo_ok X G (cd.fact 14 (f := .glo "MeshError") rfl),
    He.glo_ok X G (cd.fact 15 (f := .glo "NotAMesh") rfl),
    He.glo_ok X G (cd.fact 16 (f := .glo "BadLine") rfl),
    He.glo_ok X G (cd.fact 17 (f := .glo "Mesh") rfl),
    He.cls_ok (cd.fact 18 (f := .cls "Mesh") rfl),
    He.noat_ok (cd.fact 19 (f := .noat "Mesh" "_nexts") rfl),
    He.noat_ok (cd.fact 20 (f := .noat "Mesh" "_prevs") rfl),
    He.noat_ok (cd.fact 21 (f := .noat "Mesh" "_turns") rfl),
    He.mkr_ok (cd.fact 22 (f := .mkr "Mesh") rfl),
    fd_NotAMeshinit,
    u_NotAMesh,
    b_NotAMeshinit,
    fd_BadLineinit,
    u_BadLine,
    b_BadLineinit,
    fd_Meshinit,
    F_Meshinit,
    b_Meshinit,
    He.meth_ok (cd.fact 23 (f := .meth "Mesh" "__eq__") rfl),
    fd_Mesheq,
    F_Mesheq,
    b_Mesheq,
    He.meth_ok (cd.fact 24 (f := .meth "Mesh" "faces") rfl),
    fd_Meshfaces,
    F_Meshfaces,
    b_Meshfaces,
    He.meth_ok (cd.fact 25 (f := .meth "Mesh" "text") rfl),
    fd_Meshtext,
    F_Meshtext,
    b_Meshtext,
    He.glo_ok X G (cd.fact 26 (f := .glo "read_mesh") rfl),
    fd_readmesh,
    F_readmesh,
    b_readmesh,
    He.glo_ok X G (cd.fact 27 (f := .glo "_read_faces") rfl),
    fd_readfaces,
    F_readfaces,
    b_readfaces,
    He.glo_ok X G (cd.fact 28 (f := .glo "_is_number") rfl),
    fd_isnumber,
    F_isnumber,
    b_isnumber,
    He.glo_ok X G (cd.fact 29 (f := .glo "_is_integer") rfl),
    fd_isinteger,
    F_isinteger,
    b_isinteger,
    He.glo_ok X G (cd.fact 30 (f := .glo "are_halves") rfl),
    fd_arehalves,
    F_arehalves,
    b_arehalves,
    He.glo_ok X G (cd.fact 31 (f := .glo "_are_all_halves") rfl),
    fd_areallhalves,
    F_areallhalves,
    b_areallhalves,
    He.glo_ok X G (cd.fact 32 (f := .glo "_inverse") rfl),
    fd_inverse,
    F_inverse,
    b_inverse,
    He.glo_ok X G (cd.fact 33 (f := .glo "_rounds") rfl),
    fd_rounds,
    F_rounds,
    b_rounds,
    He.glo_ok X G (cd.fact 34 (f := .glo "_law_tape") rfl),
    fd_Ltape,
    F_Ltape,
    b_Ltape,
    He.glo_ok X G (cd.fact 35 (f := .glo "_law_pick") rfl),
    fd_Lpick,
    F_Lpick,
    b_Lpick,
    He.glo_ok X G (cd.fact 36 (f := .glo "_law_nexts") rfl),
    fd_Lnexts,
    F_Lnexts,
    b_Lnexts,
    He.glo_ok X G (cd.fact 37 (f := .glo "_law_size") rfl),
    fd_Lsize,
    F_Lsize,
    b_Lsize,
    He.glo_ok X G (cd.fact 38 (f := .glo "_law_twin") rfl),
    fd_Ltwin,
    F_Ltwin,
    b_Ltwin,
    He.glo_ok X G (cd.fact 39 (f := .glo "_law_turned") rfl),
    fd_Lturned,
    F_Lturned,
    b_Lturned,
    He.glo_ok X G (cd.fact 40 (f := .glo "_law_round") rfl),
    fd_Lround,
    F_Lround,
    b_Lround,
    He.glo_ok X G (cd.fact 41 (f := .glo "_law_rounds") rfl),
    fd_Lrounds,
    F_Lrounds,
    b_Lrounds,
    He.glo_ok X G (cd.fact 42 (f := .glo "_law_line") rfl),
    fd_Lline,
    F_Lline,
    b_Lline,
    He.glo_ok X G (cd.fact 43 (f := .glo "_law_mixed") rfl),
    fd_Lmixed,
    F_Lmixed,
    b_Lmixed,
    He.glo_ok X G (cd.fact 44 (f := .glo "_law_spoilt") rfl),
    fd_Lspoilt,
    F_Lspoilt,
    b_Lspoilt,
    He.glo_ok X G (cd.fact 45 (f := .glo "_law_told") rfl),
    fd_Ltold,
    F_Ltold,
    b_Ltold,
    He.glo_ok X G (cd.fact 46 (f := .glo "_law_miscounted") rfl),
    fd_Lmiscounted,
    F_Lmiscounted,
    b_Lmiscounted,
    fd_law,
    F_law,
    b_law,
    He.noat_ok (cd.fact 47 (f := .noat "BadLine" "line") rfl),
    exc_of (c.fact 2 (f := .exc "NotAMesh") rfl),
    exc_of (c.fact 3 (f := .exc "BadLine") rfl),
    exm_ok (c.fact 4 (f := .exm "NotAMesh" "NotAMesh" true) rfl),
    exm_ok (c.fact 5 (f := .exm "NotAMesh" "BadLine" false) rfl),
    exm_ok (c.fact 6 (f := .exm "BadLine" "BadLine" true) rfl),
    kit_ok (c.fact 7 (f := .kit (.own "NotAMesh") (.own "MeshError") true) rfl),
    kit_ok (c.fact 8 (f := .kit (.own "BadLine") (.own "MeshError") true) rfl),
    ins_of (c.fact 9 (f := .ins "Mesh") rfl),
    kit_ok (c.fact 10 (f := .kit (.ty "list") (.own "Mesh") false) rfl),
    kit_ok (c.fact 11 (f := .kit (.ty "int") (.own "Mesh") false) rfl),
    sub_ok (c.fact 12 (f := .sub (.ty "list") "Mesh" false) rfl),
    sub_ok (c.fact 13 (f := .sub (.ty "int") "Mesh" false) rfl)⟩⟩
abbrev RR : PySem.W.OpenRow := PySem.W.OpenLaw.row PySem.Challenge.rw_halfmeshes_k14_texts_of_meshes
abbrev hk : PySem.W.Hook := hookS 5 fa fn fx cl fileS
def ob (s : PySem.W.SharedT) : AlS := obsSG 5 fa fn fx cl fileS (HandSHeadRun.getT s)
theorem ob_hk (s : PySem.W.SharedT) : ob s = hk.obs s.abs := obsSG_eq (HandSHeadRun.getT_eq s)
def lse : List Str := (["_wall", "MeshError", "NotAMesh", "BadLine", "Mesh", "read_mesh", "_read_faces", "_is_number", "_is_integer", "are_halves", "_are_all_halves", "_inverse", "_rounds", "_law_tape", "_law_pick", "_law_nexts", "_law_size", "_law_twin", "_law_turned", "_law_round"] : List Str) ++ (["_law_rounds", "_law_line", "_law_mixed", "_law_spoilt", "_law_told", "_law_miscounted"] : List Str)
theorem top_run (w : World) : HandSHeadRun.RunEq RR (PySem.W.view RR.prog [29]) hk ob 9000 lse w := by
  intro os
  kernel_rfl
theorem ok_NotAMeshinit {P : Program} {w : World} {K : PySem.W.Frag} {mg : Str → Option Value} {base : Heap} (T : Tx P K mg) : FnOk P w K mg base (L2.CX P w) 1 (iA K "NotAMesh") T.fd_NotAMeshinit pr_NotAMeshinit (sp_NotAMeshinit K) :=
  sup_fn (N := ["self", "__class__"]) (k := 0) T.u_NotAMesh.F (NdefX.nscope_by (by decide +kernel)) rfl rfl (by decide) rfl ln_NotAMeshinit (fun F A outer s H vs Q E hq hsc hr h => by
    obtain ⟨x, rfl, hx, q⟩ := h
    exact ⟨x, _, _, rfl, hx, pa_cons pe_str pa_nil, pss_nil, ⟨by show 1 ≤ 1000; decide, hx, q⟩⟩) (fun _ => rfl) (fun _ => rfl) (fun _ => ⟨_, rfl⟩)
theorem ok_BadLineinit {P : Program} {w : World} {K : PySem.W.Frag} {mg : Str → Option Value} {base : Heap} (T : Tx P K mg) : FnOk P w K mg base (L2.CX P w) 1 (iA K "BadLine") T.fd_BadLineinit pr_BadLineinit (sp_BadLineinit K) :=
  sup_fn (N := ["self", "line", "__class__"]) (k := 0) T.u_BadLine.F (NdefX.nscope_by (by decide +kernel)) rfl rfl (by decide) rfl ln_BadLineinit (fun F A outer s H vs Q E hq hsc hr h => by
    obtain ⟨nmF, qlF, prF, bdF, scF, clF, cdF⟩ := F
    dsimp only at hq hsc
    subst hq hsc
    obtain ⟨x, h0, hx, q⟩ := rd_BadLineinit T.ke vs H Q E h
    exact ⟨x, a_BadLineinit K, t_BadLineinit K, h0, hx, pa_cons (pe_joined (.cons pe_str (.cons (pe_fmt (pv 1)) (.cons pe_str .nil)))) pa_nil, (pss_one (ps_ost (pv 0) (pv 1))), q⟩) (fun _ => rfl) (fun _ => rfl) (fun _ => ⟨_, rfl⟩)
theorem ok_isinteger {P : Program} {w : World} {K : PySem.W.Frag} {mg : Str → Option Value} {base : Heap} (T : Tx P K mg) : FnOk P w K mg base (L2.CX P w) 1 (He.ga K "_is_integer") T.fd_isinteger pr_isinteger (sp_isinteger K) := by
  refine T.F_isinteger.ok sc_isinteger ln_isinteger (fun cdv A outer s H vs Q E hr h => ⟨t_isinteger K, PSs.nox ?_, rd_isinteger T.kf vs H Q E h⟩)
  exact (pss_one (ps_ret (pe_and (pe_callB call_isi (by rfl) T.n_isinstance (by decide +kernel) (pa_cons (pv 0) (pa_cons (pe_bltn (v := .ty "int") rfl T.n_int (by decide +kernel) rfl) pa_nil))) (pe_one (pe_not (pe_callB call_isi (by rfl) T.n_isinstance (by decide +kernel) (pa_cons (pv 0) (pa_cons (pe_bltn (v := .ty "bool") rfl T.n_bool (by decide +kernel) rfl) pa_nil))))))))
theorem ok_arehalves {P : Program} {w : World} {K : PySem.W.Frag} {mg : Str → Option Value} {base : Heap} (T : Tx P K mg) : FnOk P w K mg base (L2.CX P w) 2 (He.ga K "are_halves") T.fd_arehalves pr_arehalves (sp_arehalves K) := by
  have G_isinteger := ok_isinteger (P := P) (w := w) (base := base) T
  refine T.F_arehalves.ok sc_arehalves ln_arehalves (fun cdv A outer s H vs Q E hr h => ⟨t_arehalves K, PSs.nox ?_, rd_arehalves T.kf vs H Q E h⟩)
  exact (pss_cons (ps_if (pt_not (pt_val (pe_callB (cr_all rfl) (by rfl) T.n_all (by decide +kernel) (pa_cons (pe_lc (own := [("number", 2)]) (g := gName 2) (tt := tYes) rfl sc_arehalves.nd (pi_list (pv 0)) (blkOk_by (own := [("number", 2)]) (N := nm_arehalves) (sc := defScope s_arehalves) (by decide +kernel)) (fun _ _ _ _ _ => pg_name (i := 2) sc_arehalves.nd rfl (by first | exact Or.inl rfl | exact Or.inr rfl)) (fun _ _ _ _ _ => pts_nil) (fun _ _ _ _ _ => (pe_and (pe_call G_isinteger (hr.mono (by decide)) rfl T.m_isinteger T.F_isinteger.kp T.b_isinteger .nil passL (pa_cons (pv 2) pa_nil)) (pe_one (pe_chain op_le op_lt pe_int (pv 2) (pv 1)))))) pa_nil)))) (pss_one (ps_ret pe_bl)) pss_nil)
      (pss_one (ps_ret (pe_cmpR op_eq (PSetI.pe_lenI rfl (by rfl) T.n_len (by rfl) T.n_set (pv 0)) (pe_callB call_len_seq (by rfl) T.n_len PySem.boot_len (pa_cons (pv 0) pa_nil)) (nomark _)))))
theorem ok_areallhalves {P : Program} {w : World} {K : PySem.W.Frag} {mg : Str → Option Value} {base : Heap} (T : Tx P K mg) : FnOk P w K mg base (L2.CX P w) 3 (He.ga K "_are_all_halves") T.fd_areallhalves pr_areallhalves (sp_areallhalves K) := by
  have G_arehalves := ok_arehalves (P := P) (w := w) (base := base) T
  refine T.F_areallhalves.ok sc_areallhalves ln_areallhalves (fun cdv A outer s H vs Q E hr h => ⟨t_areallhalves K, PSs.nox ?_, rd_areallhalves T.kf vs H Q E h⟩)
  exact (pss_one (ps_ret (pe_and (pe_cmpR op_eq (pe_op op_modN (pe_callB call_len_seq (by rfl) T.n_len PySem.boot_len (pa_cons (pv 0) pa_nil)) pe_int) pe_int (nomark _)) (pe_one (pe_call G_arehalves (hr.mono (by decide)) rfl T.m_arehalves T.F_arehalves.kp T.b_arehalves .nil passL (pa_cons (pv 0) (pa_cons (pe_callB call_len_seq (by rfl) T.n_len PySem.boot_len (pa_cons (pv 0) pa_nil)) pa_nil)))))))
theorem ok_inverse {P : Program} {w : World} {K : PySem.W.Frag} {mg : Str → Option Value} {base : Heap} (T : Tx P K mg) : FnOk P w K mg base (L2.CX P w) 1 (He.ga K "_inverse") T.fd_inverse pr_inverse (sp_inverse K) := by
  refine T.F_inverse.ok sc_inverse ln_inverse (fun cdv A outer s H vs Q E hr h => ⟨t_inverse K, PSs.nox ?_, rd_inverse T.kf vs H Q E h⟩)
  exact (pss_cons (ps_set (i := 1) sc_inverse.nd rfl (Or.inl rfl) (pe_op op_rep (pe_lst (pa_cons pe_int pa_nil)) (pe_callB call_len_seq (by rfl) T.n_len PySem.boot_len (pa_cons (pv 0) pa_nil))))
      (pss_cons (ps_for PassesOwn.never rfl (pi_enum (by rfl) T.n_enumerate (pa_cons (pv 0) pa_nil)) (pg_tup (by rfl) (pgs_cons (pg_name (i := 2) sc_inverse.nd rfl (Or.inl rfl)) (pgs_cons (pg_name (i := 3) sc_inverse.nd rfl (Or.inl rfl)) pgs_nil))) (pss_one (ps_asg (pv 2) (pg_sub (pv 1) (pv 3) set_list))))
      (pss_one (ps_ret (pv 1)))))
theorem ok_Meshinit {P : Program} {w : World} {K : PySem.W.Frag} {mg : Str → Option Value} {base : Heap} (T : Tx P K mg) : FnOk P w K mg base (L2.CX P w) 4 (He.ma K (He.ga K "Mesh") "__init__") T.fd_Meshinit pr_Meshinit (sp_Meshinit K) := by
  have G_NotAMeshinit := ok_NotAMeshinit (P := P) (w := w) (base := base) T
  have G_areallhalves := ok_areallhalves (P := P) (w := w) (base := base) T
  have G_inverse := ok_inverse (P := P) (w := w) (base := base) T
  refine T.F_Meshinit.ok sc_Meshinit ln_Meshinit (fun cdv A outer s H vs Q E hr h => ⟨t_Meshinit K E, ?_, rd_Meshinit T.kf vs H Q E h⟩)
  exact (pss_cons (ps_set (i := 2) sc_Meshinit.nd rfl (Or.inl rfl) (pe_callTy call_list_of (by rfl) T.n_list (by decide +kernel) (pa_cons (pv 1) pa_nil)))
      (pss_cons (ps_if (pt_not (pt_val (pe_call G_areallhalves (hr.mono (by decide)) rfl T.m_areallhalves T.F_areallhalves.kp T.b_areallhalves .nil passL (pa_cons (pv 2) pa_nil)))) (pss_one (ps_raise rfl (takes_of rfl rfl rfl rfl) (pmk_sup0 T.u_NotAMesh.F.oex T.u_NotAMesh.iC T.u_NotAMesh.tI G_NotAMeshinit (hr.mono (by decide)) T.b_NotAMeshinit passL rfl T.m_NotAMesh))) pss_nil)
      (pss_cons (ps_fld (pv 0) (pv 2) rfl)
      (pss_cons (ps_fld (pv 0) (pe_call G_inverse (hr.mono (by decide)) rfl T.m_inverse T.F_inverse.kp T.b_inverse .nil passL (pa_cons (pv 2) pa_nil)) rfl)
      (pss_one (ps_fld (pv 0) (pe_lc (own := [("half", 3)]) (g := gName 3) (tt := tYes) rfl sc_Meshinit.nd (pi_list (pe_fld (pv 0) rfl)) (blkOk_by (own := [("half", 3)]) (N := nm_Meshinit) (sc := defScope s_Meshinit) (by decide +kernel)) (fun _ _ _ _ _ => pg_name (i := 3) sc_Meshinit.nd rfl (by first | exact Or.inl rfl | exact Or.inr rfl)) (fun _ _ _ _ _ => pts_nil) (fun _ _ _ _ _ => (pe_op op_xor (pv 3) pe_int))) rfl))))))
theorem ok_Mesheq {P : Program} {w : World} {K : PySem.W.Frag} {mg : Str → Option Value} {base : Heap} (T : Tx P K mg) : FnOk P w K mg base (L2.CX P w) 1 (He.ma K (He.ga K "Mesh") "__eq__") T.fd_Mesheq pr_Mesheq (sp_Mesheq K) := by
  refine T.F_Mesheq.ok sc_Mesheq ln_Mesheq (fun cdv A outer s H vs Q E hr h => ⟨t_Mesheq K, PSs.nox ?_, rd_Mesheq T.kq vs H Q E h⟩)
  exact (pss_one (ps_ret (pe_and (pe_callB call_isi (by rfl) T.n_isinstance (by decide +kernel) (pa_cons (pv 1) (pa_cons (pe_glob rfl T.m_Mesh rfl) pa_nil))) (pe_one (pe_cmpR (op_eqD hr.units) (pe_fld (pv 0) rfl) (pe_fld (pv 1) rfl) (nomark _))))))
theorem ok_rounds {P : Program} {w : World} {K : PySem.W.Frag} {mg : Str → Option Value} {base : Heap} (T : Tx P K mg) : FnOk P w K mg base (L2.CX P w) 1 (He.ga K "_rounds") T.fd_rounds pr_rounds (sp_rounds K) := by
  refine T.F_rounds.ok sc_rounds ln_rounds (fun cdv A outer s H vs Q E hr h => ⟨t_rounds K, PSs.nox ?_, rd_rounds T.kf vs H Q E h⟩)
  exact (pss_cons (ps_set (i := 1) sc_rounds.nd rfl (Or.inl rfl) (pe_lst pa_nil))
      (pss_cons (ps_set (i := 2) sc_rounds.nd rfl (Or.inl rfl) (pe_op op_rep (pe_lst (pa_cons pe_bl pa_nil)) (pe_callB call_len_seq (by rfl) T.n_len PySem.boot_len (pa_cons (pv 0) pa_nil))))
      (pss_cons (ps_for PassesOwn.never rfl (pi_range1 (by rfl) T.n_range (pa_cons (pe_callB call_len_seq (by rfl) T.n_len PySem.boot_len (pa_cons (pv 0) pa_nil)) pa_nil)) (pg_name (i := 3) sc_rounds.nd rfl (Or.inl rfl)) (pss_one (ps_if (pt_not (pt_val (pe_ix ix_list (pv 2) (pv 3) (fun _ _ => rfl)))) (pss_cons (ps_set (i := 4) sc_rounds.nd rfl (Or.inl rfl) (pe_lst pa_nil))
      (pss_cons (ps_set (i := 5) sc_rounds.nd rfl (Or.inl rfl) (pv 3))
      (pss_cons (ps_while PassesOwn.never (pt_not (pt_val (pe_ix ix_list (pv 2) (pv 5) (fun _ _ => rfl)))) (pss_cons (ps_asg pe_bl (pg_sub (pv 2) (pv 5) set_list))
      (pss_cons (ps_expr (pe_bm PySem.F.plainAttrs_list PySem.F.slot_list_append PySem.F.type_list_append mt_append (pv 4) (pa_cons (pv 5) pa_nil)))
      (pss_one (ps_set (i := 5) sc_rounds.nd rfl (Or.inl rfl) (pe_ix ix_list (pv 0) (pv 5) (fun _ _ => rfl)))))))
      (pss_one (ps_expr (pe_bm PySem.F.plainAttrs_list PySem.F.slot_list_append PySem.F.type_list_append mt_append (pv 1) (pa_cons (pv 4) pa_nil))))))) pss_nil)))
      (pss_one (ps_ret (pv 1))))))
theorem ok_Meshfaces {P : Program} {w : World} {K : PySem.W.Frag} {mg : Str → Option Value} {base : Heap} (T : Tx P K mg) : FnOk P w K mg base (L2.CX P w) 2 (He.ma K (He.ga K "Mesh") "faces") T.fd_Meshfaces pr_Meshfaces (sp_Meshfaces K) := by
  have G_rounds := ok_rounds (P := P) (w := w) (base := base) T
  refine T.F_Meshfaces.ok sc_Meshfaces ln_Meshfaces (fun cdv A outer s H vs Q E hr h => ⟨t_Meshfaces K, PSs.nox ?_, rd_Meshfaces T.kf vs H Q E h⟩)
  exact (pss_one (ps_ret (pe_call G_rounds (hr.mono (by decide)) rfl T.m_rounds T.F_rounds.kp T.b_rounds .nil passL (pa_cons (pe_fld (pv 0) rfl) pa_nil))))
theorem ok_Meshtext {P : Program} {w : World} {K : PySem.W.Frag} {mg : Str → Option Value} {base : Heap} (T : Tx P K mg) : FnOk P w K mg base (L2.CX P w) 3 (He.ma K (He.ga K "Mesh") "text") T.fd_Meshtext pr_Meshtext (sp_Meshtext K) := by
  have G_Meshfaces := ok_Meshfaces (P := P) (w := w) (base := base) T
  refine T.F_Meshtext.ok sc_Meshtext ln_Meshtext (fun cdv A outer s H vs Q E hr h => ⟨t_Meshtext K, PSs.nox ?_, rd_Meshtext T.kf vs H Q E h⟩)
  exact (pss_one (ps_ret (pe_join pe_str (pe_lc (own := [("face", 1)]) (g := gName 1) (tt := tYes) rfl sc_Meshtext.nd (pi_list (pe_meth0 (pv 0) T.cl_Mesh T.me_Meshfaces G_Meshfaces (hr.mono (by decide)) T.b_Meshfaces .nil passL)) (blkOk_by (own := [("face", 1)]) (N := nm_Meshtext) (sc := defScope s_Meshtext) (by decide +kernel)) (fun _ _ _ _ _ => pg_name (i := 1) sc_Meshtext.nd rfl (by first | exact Or.inl rfl | exact Or.inr rfl)) (fun _ _ _ _ _ => pts_nil) (fun _ _ _ _ _ => (pe_join pe_str (pe_lc (own := [("half", 2)]) (g := gName 2) (tt := tYes) rfl sc_Meshtext.nd (pi_list (pv 1)) (blkOk_n (own := [("half", 2)]) (N := nm_Meshtext) (by decide +kernel)) (fun _ _ _ _ _ => pg_name (i := 2) sc_Meshtext.nd rfl (by first | exact Or.inl rfl | exact Or.inr rfl)) (fun _ _ _ _ _ => pts_nil) (fun _ _ _ _ _ => (pe_callTy call_str_int (by rfl) T.n_str (by decide +kernel) (pa_cons (pv 2) pa_nil))))))))))
theorem ok_isnumber {P : Program} {w : World} {K : PySem.W.Frag} {mg : Str → Option Value} {base : Heap} (T : Tx P K mg) : FnOk P w K mg base (L2.CX P w) 1 (He.ga K "_is_number") T.fd_isnumber pr_isnumber (sp_isnumber K) := by
  refine T.F_isnumber.ok sc_isnumber ln_isnumber (fun cdv A outer s H vs Q E hr h => ⟨t_isnumber K, PSs.nox ?_, rd_isnumber T.kf vs H Q E h⟩)
  exact (pss_cons (ps_if (PW.pt (pw_or (pt_not (pt_val (pe_m0 PySem.F.slot_str_isascii PySem.F.type_str_isascii mt_isascii (pv 0)))) (pw_or (pt_not (pt_val (pe_m0 PySem.F.slot_str_isdigit PySem.F.type_str_isdigit mt_isdigit (pv 0)))) (pw_or1 (pt_cmpR op_gt (pe_callB call_len_str (by rfl) T.n_len PySem.boot_len (pa_cons (pv 0) pa_nil)) pe_int (nomark _)))))) (pss_one (ps_ret pe_bl)) pss_nil)
      (pss_one (ps_ret (pe_or (pe_cmpR op_eq (pv 0) pe_str (nomark _)) (pe_one (pe_not (pe_m1 PySem.F.slot_str_startswith PySem.F.type_str_startswith mt_startswith (pv 0) pe_str)))))))
theorem ok_readfaces {P : Program} {w : World} {K : PySem.W.Frag} {mg : Str → Option Value} {base : Heap} (T : Tx P K mg) : FnOk P w K mg base (L2.CX P w) 3 (He.ga K "_read_faces") T.fd_readfaces pr_readfaces (sp_readfaces K) := by
  have G_BadLineinit := ok_BadLineinit (P := P) (w := w) (base := base) T
  have G_isnumber := ok_isnumber (P := P) (w := w) (base := base) T
  refine T.F_readfaces.ok sc_readfaces ln_readfaces (fun cdv A outer s H vs Q E hr h => ⟨t_readfaces K E, ?_, rd_readfaces  vs H Q E h⟩)
  exact (pss_cons (ps_set (i := 1) sc_readfaces.nd rfl (Or.inl rfl) (pe_lst pa_nil))
      (pss_cons (ps_for (passes_of rfl) rfl (pi_enum (by rfl) T.n_enumerate (pa_cons (pe_split (pv 0) pe_str) pa_nil)) (pg_tup (by rfl) (pgs_cons (pg_name (i := 2) sc_readfaces.nd rfl (Or.inl rfl)) (pgs_cons (pg_name (i := 3) sc_readfaces.nd rfl (Or.inl rfl)) pgs_nil))) (pss_cons (ps_set (i := 4) sc_readfaces.nd rfl (Or.inl rfl) (pe_split (pv 3) pe_str))
      (pss_cons (ps_if (pt_not (pt_val (pe_callB (cr_all rfl) (by rfl) T.n_all (by decide +kernel) (pa_cons (pe_lc (own := [("word", 5)]) (g := gName 5) (tt := tYes) rfl sc_readfaces.nd (pi_list (pv 4)) (blkOk_by (own := [("word", 5)]) (N := nm_readfaces) (sc := defScope s_readfaces) (by decide +kernel)) (fun _ _ _ _ _ => pg_name (i := 5) sc_readfaces.nd rfl (by first | exact Or.inl rfl | exact Or.inr rfl)) (fun _ _ _ _ _ => pts_nil) (fun _ _ _ _ _ => (pe_call G_isnumber (hr.mono (by decide)) rfl T.m_isnumber T.F_isnumber.kp T.b_isnumber .nil passL (pa_cons (pv 5) pa_nil)))) pa_nil)))) (pss_one (ps_raise rfl (takes_of rfl rfl rfl rfl) (pmk_oex T.u_BadLine.F.oex T.u_BadLine.iC T.u_BadLine.tI G_BadLineinit (hr.mono (by decide)) T.b_BadLineinit .nil passL rfl T.m_BadLine (pa_cons (pe_op op_add (pv 2) pe_int) pa_nil)))) pss_nil)
      (pss_one (ps_expr (pe_bm PySem.F.plainAttrs_list PySem.F.slot_list_append PySem.F.type_list_append mt_append (pv 1) (pa_cons (pe_lc (own := [("word", 5)]) (g := gName 5) (tt := tYes) rfl sc_readfaces.nd (pi_list (pv 4)) (blkOk_by (own := [("word", 5)]) (N := nm_readfaces) (sc := defScope s_readfaces) (by decide +kernel)) (fun _ _ _ _ _ => pg_name (i := 5) sc_readfaces.nd rfl (by first | exact Or.inl rfl | exact Or.inr rfl)) (fun _ _ _ _ _ => pts_nil) (fun _ _ _ _ _ => (pe_callTy call_int_str (by rfl) T.n_int (by decide +kernel) (pa_cons (pv 5) pa_nil)))) pa_nil)))))))
      (pss_one (ps_ret (pv 1)))))
theorem ok_readmesh {P : Program} {w : World} {K : PySem.W.Frag} {mg : Str → Option Value} {base : Heap} (T : Tx P K mg) : FnOk P w K mg base (L2.CX P w) 6 (He.ga K "read_mesh") T.fd_readmesh pr_readmesh (sp_readmesh K) := by
  have G_Meshinit := ok_Meshinit (P := P) (w := w) (base := base) T
  have G_NotAMeshinit := ok_NotAMeshinit (P := P) (w := w) (base := base) T
  have G_areallhalves := ok_areallhalves (P := P) (w := w) (base := base) T
  have G_readfaces := ok_readfaces (P := P) (w := w) (base := base) T
  refine T.F_readmesh.ok sc_readmesh ln_readmesh (fun cdv A outer s H vs Q E hr h => ⟨t_readmesh K E, ?_, rd_readmesh  vs H Q E h⟩)
  exact (pss_cons (ps_if (pt_cmpR op_eq (pv 0) pe_str (nomark _)) (pss_one (ps_ret (pe_make T.mk_Mesh G_Meshinit (hr.mono (by decide)) rfl T.m_Mesh T.b_Meshinit .nil (passes_call (takes_of rfl rfl rfl rfl) (fun _ _ _ _ h => h)) (pa_cons (pe_lst pa_nil) pa_nil)))) pss_nil)
      (pss_cons (ps_set (i := 1) sc_readmesh.nd rfl (Or.inl rfl) (pe_call G_readfaces (hr.mono (by decide)) rfl T.m_readfaces T.F_readfaces.kp T.b_readfaces .nil (passes_call (takes_of rfl rfl rfl rfl) (fun _ _ _ _ h => h)) (pa_cons (pv 0) pa_nil)))
      (pss_cons (ps_setLc2 (i := 2) (own := [("row", 7), ("number", 8)]) (vs1 := [8]) (g := gName 7) (tt := tYes) (g1 := gName 8) (tt1 := tYes) rfl sc_readmesh.nd rfl rfl (sw_true rfl rfl rfl (by decide +kernel)) (pi_list (pv 1)) (blkOk_by (own := [("row", 7), ("number", 8)]) (N := nm_readmesh) (sc := defScope s_readmesh) (by decide +kernel)) (by decide) (fun _ _ _ _ _ => pg_name (i := 7) sc_readmesh.nd rfl (by first | exact Or.inl rfl | exact Or.inr rfl)) (fun _ _ _ _ _ => pts_nil) (fun _ _ _ _ _ => (pi_list (pv 7))) (fun _ _ _ _ _ => pg_name (i := 8) sc_readmesh.nd rfl (by first | exact Or.inl rfl | exact Or.inr rfl)) (fun _ _ _ _ _ => pts_nil) (fun _ _ _ _ _ => (pv 8)))
      (pss_cons (ps_if (pt_not (pt_val (pe_call G_areallhalves (hr.mono (by decide)) rfl T.m_areallhalves T.F_areallhalves.kp T.b_areallhalves .nil passL (pa_cons (pv 2) pa_nil)))) (pss_one (ps_raise rfl (takes_of rfl rfl rfl rfl) (pmk_sup0 T.u_NotAMesh.F.oex T.u_NotAMesh.iC T.u_NotAMesh.tI G_NotAMeshinit (hr.mono (by decide)) T.b_NotAMeshinit passL rfl T.m_NotAMesh))) pss_nil)
      (pss_cons (ps_set (i := 3) sc_readmesh.nd rfl (Or.inl rfl) (pe_op op_rep (pe_lst (pa_cons pe_int pa_nil)) (pe_callB call_len_seq (by rfl) T.n_len PySem.boot_len (pa_cons (pv 2) pa_nil))))
      (pss_cons (ps_for (passes_of rfl) rfl (pi_list (pv 1)) (pg_name (i := 4) sc_readmesh.nd rfl (Or.inl rfl)) (pss_one (ps_for (passes_of rfl) rfl (pi_enum (by rfl) T.n_enumerate (pa_cons (pv 4) pa_nil)) (pg_tup (by rfl) (pgs_cons (pg_name (i := 5) sc_readmesh.nd rfl (Or.inl rfl)) (pgs_cons (pg_name (i := 6) sc_readmesh.nd rfl (Or.inl rfl)) pgs_nil))) (pss_one (ps_asg (pv 6) (pg_sub (pv 3) (pe_ix ix_list (pv 4) (pe_op op_sub (pv 5) pe_int) (fun _ _ => rfl)) set_list))))))
      (pss_one (ps_ret (pe_make T.mk_Mesh G_Meshinit (hr.mono (by decide)) rfl T.m_Mesh T.b_Meshinit .nil (passes_call (takes_of rfl rfl rfl rfl) (fun _ _ _ _ h => h)) (pa_cons (pv 3) pa_nil))))))))))
theorem ok_Ltape {P : Program} {w : World} {K : PySem.W.Frag} {mg : Str → Option Value} {base : Heap} (T : Tx P K mg) : FnOk P w K mg base (L2.CX P w) 1 (He.ga K "_law_tape") T.fd_Ltape pr_Ltape (sp_Ltape K) := by
  refine T.F_Ltape.ok sc_Ltape ln_Ltape (fun cdv A outer s H vs Q E hr h => ⟨t_Ltape K, PSs.nox ?_, rd_Ltape T.kf vs H Q E h⟩)
  exact (pss_cons (ps_set (i := 2) sc_Ltape.nd rfl (Or.inl rfl) pe_int)
      (pss_cons (ps_if (pt_cmpR (op_neD hr.units) (pv 0) (pe_lst pa_nil) (nomark _)) (pss_one (ps_set (i := 2) sc_Ltape.nd rfl (Or.inl rfl) (pe_ix ix_list (pv 0) (pe_op op_modN (pe_callTy call_int1 (by rfl) T.n_int (by decide +kernel) (pa_cons (pv 1) pa_nil)) (pe_callB call_len_seq (by rfl) T.n_len PySem.boot_len (pa_cons (pv 0) pa_nil))) (fun _ _ => rfl)))) pss_nil)
      (pss_one (ps_ret (pe_lst (pa_cons (pe_callB call_abs (by rfl) T.n_abs (by decide +kernel) (pa_cons (pv 2) pa_nil)) (pa_cons (pe_op op_add (pe_op op_mul pe_int (pv 1)) pe_int) pa_nil)))))))
theorem ok_Lpick {P : Program} {w : World} {K : PySem.W.Frag} {mg : Str → Option Value} {base : Heap} (T : Tx P K mg) : FnOk P w K mg base (L2.CX P w) 1 (He.ga K "_law_pick") T.fd_Lpick pr_Lpick (sp_Lpick K) := by
  refine T.F_Lpick.ok sc_Lpick ln_Lpick (fun cdv A outer s H vs Q E hr h => ⟨t_Lpick K, PSs.nox ?_, rd_Lpick T.kf vs H Q E h⟩)
  exact (pss_cons (ps_if (pt_cmpR op_ge (pe_ix ix_list (pv 0) pe_int (fun _ _ => rfl)) (pe_op op_pow pe_int pe_int) (nomark _)) (pss_cons (ps_set (i := 2) sc_Lpick.nd rfl (Or.inl rfl) (pe_op op_modN (pe_callTy call_int1 (by rfl) T.n_int (by decide +kernel) (pa_cons (pe_ix ix_list (pv 0) pe_int (fun _ _ => rfl)) pa_nil)) (pv 1)))
      (pss_cons (ps_asg (pe_op op_fdivN (pe_ix ix_list (pv 0) pe_int (fun _ _ => rfl)) (pv 1)) (pg_sub (pv 0) pe_int set_list))
      (pss_one (ps_ret (pv 2))))) pss_nil)
      (pss_cons (ps_asg (pe_op op_modN (pe_callTy call_int1 (by rfl) T.n_int (by decide +kernel) (pa_cons (pe_op op_add (pe_op op_add (pe_op op_mul (pe_ix ix_list (pv 0) pe_int (fun _ _ => rfl)) pe_int) (pe_op op_mul (pe_ix ix_list (pv 0) pe_int (fun _ _ => rfl)) pe_int)) pe_int) pa_nil)) pe_int) (pg_sub (pv 0) pe_int set_list))
      (pss_cons (ps_set (i := 3) sc_Lpick.nd rfl (Or.inl rfl) (pe_op op_modN (pe_callTy call_int1 (by rfl) T.n_int (by decide +kernel) (pa_cons (pe_op op_add (pe_op op_add (pe_op op_mul (pe_ix ix_list (pv 0) pe_int (fun _ _ => rfl)) (pe_ix ix_list (pv 0) pe_int (fun _ _ => rfl))) (pe_op op_mul (pe_ix ix_list (pv 0) pe_int (fun _ _ => rfl)) pe_int)) pe_int) pa_nil)) pe_int))
      (pss_one (ps_ret (pe_op op_modN (pe_callTy call_int1 (by rfl) T.n_int (by decide +kernel) (pa_cons (pe_op op_fdivN (pv 3) pe_int) pa_nil)) (pv 1)))))))
theorem ok_Lnexts {P : Program} {w : World} {K : PySem.W.Frag} {mg : Str → Option Value} {base : Heap} (T : Tx P K mg) : FnOk P w K mg base (L2.CX P w) 2 (He.ga K "_law_nexts") T.fd_Lnexts pr_Lnexts (sp_Lnexts K) := by
  have G_Lpick := ok_Lpick (P := P) (w := w) (base := base) T
  refine T.F_Lnexts.ok sc_Lnexts ln_Lnexts (fun cdv A outer s H vs Q E hr h => ⟨t_Lnexts K, PSs.nox ?_, rd_Lnexts T.kf vs H Q E h⟩)
  exact (pss_cons (ps_setLc (i := 3) (own := [("_law_k", 2)]) (g := gName 2) (tt := tYes) rfl sc_Lnexts.nd rfl rfl (sw_true rfl rfl rfl (by decide +kernel)) (pi_range1 (by rfl) T.n_range (pa_cons (pe_op op_mul pe_int (pv 1)) pa_nil)) (blkOk_by (own := [("_law_k", 2)]) (N := nm_Lnexts) (sc := defScope s_Lnexts) (by decide +kernel)) (fun _ _ _ _ _ => pg_name (i := 2) sc_Lnexts.nd rfl (by first | exact Or.inl rfl | exact Or.inr rfl)) (fun _ _ _ _ _ => pts_nil) (fun _ _ _ _ _ => (pv 2)))
      (pss_cons (ps_set (i := 4) sc_Lnexts.nd rfl (Or.inl rfl) (pe_lst pa_nil))
      (pss_cons (ps_for PassesOwn.never rfl (pi_range1 (by rfl) T.n_range (pa_cons (pe_op op_mul pe_int (pv 1)) pa_nil)) (pg_name (i := 2) sc_Lnexts.nd rfl (Or.inl rfl)) (pss_cons (ps_set (i := 5) sc_Lnexts.nd rfl (Or.inl rfl) (pe_call G_Lpick (hr.mono (by decide)) rfl T.m_Lpick T.F_Lpick.kp T.b_Lpick .nil passL (pa_cons (pv 0) (pa_cons (pe_callB call_len_seq (by rfl) T.n_len PySem.boot_len (pa_cons (pv 3) pa_nil)) pa_nil))))
      (pss_cons (ps_expr (pe_bm PySem.F.plainAttrs_list PySem.F.slot_list_append PySem.F.type_list_append mt_append (pv 4) (pa_cons (pe_ix ix_list (pv 3) (pv 5) (fun _ _ => rfl)) pa_nil)))
      (pss_one (ps_set (i := 3) sc_Lnexts.nd rfl (Or.inl rfl) (pe_op op_cat (pe_slice sl_list (pv 3) po_none (po_some (pv 5))) (pe_slice sl_list (pv 3) (po_some (pe_op op_add (pv 5) pe_int)) po_none)))))))
      (pss_one (ps_ret (pv 4))))))
theorem ok_Lsize {P : Program} {w : World} {K : PySem.W.Frag} {mg : Str → Option Value} {base : Heap} (T : Tx P K mg) : FnOk P w K mg base (L2.CX P w) 2 (He.ga K "_law_size") T.fd_Lsize pr_Lsize (sp_Lsize K) := by
  have G_Lpick := ok_Lpick (P := P) (w := w) (base := base) T
  refine T.F_Lsize.ok sc_Lsize ln_Lsize (fun cdv A outer s H vs Q E hr h => ⟨t_Lsize K, PSs.nox ?_, rd_Lsize T.kf vs H Q E h⟩)
  exact (pss_cons (ps_set (i := 1) sc_Lsize.nd rfl (Or.inl rfl) (pe_call G_Lpick (hr.mono (by decide)) rfl T.m_Lpick T.F_Lpick.kp T.b_Lpick .nil passL (pa_cons (pv 0) (pa_cons pe_int pa_nil))))
      (pss_cons (ps_if (pt_cmpR op_eq (pv 1) pe_int (nomark _)) (pss_one (ps_ret pe_int)) pss_nil)
      (pss_cons (ps_if (pt_cmpR op_lt (pv 1) pe_int (nomark _)) (pss_one (ps_ret (pe_call G_Lpick (hr.mono (by decide)) rfl T.m_Lpick T.F_Lpick.kp T.b_Lpick .nil passL (pa_cons (pv 0) (pa_cons pe_int pa_nil))))) pss_nil)
      (pss_one (ps_ret (pe_call G_Lpick (hr.mono (by decide)) rfl T.m_Lpick T.F_Lpick.kp T.b_Lpick .nil passL (pa_cons (pv 0) (pa_cons pe_int pa_nil))))))))
theorem ok_Ltwin {P : Program} {w : World} {K : PySem.W.Frag} {mg : Str → Option Value} {base : Heap} (T : Tx P K mg) : FnOk P w K mg base (L2.CX P w) 1 (He.ga K "_law_twin") T.fd_Ltwin pr_Ltwin (sp_Ltwin K) := by
  refine T.F_Ltwin.ok sc_Ltwin ln_Ltwin (fun cdv A outer s H vs Q E hr h => ⟨t_Ltwin K, PSs.nox ?_, rd_Ltwin T.kf vs H Q E h⟩)
  exact (pss_one (ps_ret (pe_op op_sub (pe_op op_add (pv 0) pe_int) (pe_op op_mul pe_int (pe_op op_modN (pe_callTy call_int1 (by rfl) T.n_int (by decide +kernel) (pa_cons (pv 0) pa_nil)) pe_int)))))
theorem ok_Lturned {P : Program} {w : World} {K : PySem.W.Frag} {mg : Str → Option Value} {base : Heap} (T : Tx P K mg) : FnOk P w K mg base (L2.CX P w) 2 (He.ga K "_law_turned") T.fd_Lturned pr_Lturned (sp_Lturned K) := by
  have G_Ltwin := ok_Ltwin (P := P) (w := w) (base := base) T
  refine T.F_Lturned.ok sc_Lturned ln_Lturned (fun cdv A outer s H vs Q E hr h => ⟨t_Lturned K, PSs.nox ?_, rd_Lturned T.kf vs H Q E h⟩)
  exact (pss_cons (ps_for PassesOwn.never rfl (pi_range1 (by rfl) T.n_range (pa_cons (pe_callB call_len_seq (by rfl) T.n_len PySem.boot_len (pa_cons (pv 0) pa_nil)) pa_nil)) (pg_name (i := 2) sc_Lturned.nd rfl (Or.inl rfl)) (pss_one (ps_if (pt_cmpR op_eq (pe_ix ix_list (pv 0) (pv 2) (fun _ _ => rfl)) (pv 1) (nomark _)) (pss_one (ps_ret (pe_call G_Ltwin (hr.mono (by decide)) rfl T.m_Ltwin T.F_Ltwin.kp T.b_Ltwin .nil passL (pa_cons (pv 2) pa_nil)))) pss_nil)))
      (pss_one (ps_ret (pe_un un_neg pe_int))))
theorem ok_Lround {P : Program} {w : World} {K : PySem.W.Frag} {mg : Str → Option Value} {base : Heap} (T : Tx P K mg) : FnOk P w K mg base (L2.CX P w) 3 (He.ga K "_law_round") T.fd_Lround pr_Lround (sp_Lround K) := by
  have G_Lturned := ok_Lturned (P := P) (w := w) (base := base) T
  refine T.F_Lround.ok sc_Lround ln_Lround (fun cdv A outer s H vs Q E hr h => ⟨t_Lround K, PSs.nox ?_, rd_Lround T.kf vs H Q E h⟩)
  exact (pss_cons (ps_set (i := 3) sc_Lround.nd rfl (Or.inl rfl) (pe_lst (pa_cons (pv 1) pa_nil)))
      (pss_cons (ps_set (i := 4) sc_Lround.nd rfl (Or.inl rfl) (pe_ifExp (pt_val (pv 2)) (pe_ix ix_list (pv 0) (pv 1) (fun _ _ => rfl)) (pe_call G_Lturned (hr.mono (by decide)) rfl T.m_Lturned T.F_Lturned.kp T.b_Lturned .nil passL (pa_cons (pv 0) (pa_cons (pv 1) pa_nil)))))
      (pss_cons (ps_while PassesOwn.never (PW.pt (pw_and (pt_cmpR op_ne (pv 4) (pv 1) (nomark _)) (pw_and1 (pt_cmpR op_le (pe_callB call_len_seq (by rfl) T.n_len PySem.boot_len (pa_cons (pv 3) pa_nil)) (pe_callB call_len_seq (by rfl) T.n_len PySem.boot_len (pa_cons (pv 0) pa_nil)) (nomark _))))) (pss_cons (ps_expr (pe_bm PySem.F.plainAttrs_list PySem.F.slot_list_append PySem.F.type_list_append mt_append (pv 3) (pa_cons (pv 4) pa_nil)))
      (pss_one (ps_set (i := 4) sc_Lround.nd rfl (Or.inl rfl) (pe_ifExp (pt_val (pv 2)) (pe_ix ix_list (pv 0) (pv 4) (fun _ _ => rfl)) (pe_call G_Lturned (hr.mono (by decide)) rfl T.m_Lturned T.F_Lturned.kp T.b_Lturned .nil passL (pa_cons (pv 0) (pa_cons (pv 4) pa_nil))))))))
      (pss_one (ps_ret (pv 3))))))
theorem ok_Lrounds {P : Program} {w : World} {K : PySem.W.Frag} {mg : Str → Option Value} {base : Heap} (T : Tx P K mg) : FnOk P w K mg base (L2.CX P w) 4 (He.ga K "_law_rounds") T.fd_Lrounds pr_Lrounds (sp_Lrounds K) := by
  have G_Lround := ok_Lround (P := P) (w := w) (base := base) T
  refine T.F_Lrounds.ok sc_Lrounds ln_Lrounds (fun cdv A outer s H vs Q E hr h => ⟨t_Lrounds K, PSs.nox ?_, rd_Lrounds T.kf vs H Q E h⟩)
  exact (pss_cons (ps_set (i := 2) sc_Lrounds.nd rfl (Or.inl rfl) (pe_lst pa_nil))
      (pss_cons (ps_for PassesOwn.never rfl (pi_range1 (by rfl) T.n_range (pa_cons (pe_callB call_len_seq (by rfl) T.n_len PySem.boot_len (pa_cons (pv 0) pa_nil)) pa_nil)) (pg_name (i := 3) sc_Lrounds.nd rfl (Or.inl rfl)) (pss_cons (ps_set (i := 4) sc_Lrounds.nd rfl (Or.inl rfl) (pe_call G_Lround (hr.mono (by decide)) rfl T.m_Lround T.F_Lround.kp T.b_Lround .nil passL (pa_cons (pv 0) (pa_cons (pv 3) (pa_cons (pv 1) pa_nil)))))
      (pss_one (ps_if (pt_cmpR op_eq (pe_callB (cr_min rfl) (by rfl) T.n_min (by decide +kernel) (pa_cons (pv 4) pa_nil)) (pv 3) (nomark _)) (pss_one (ps_expr (pe_bm PySem.F.plainAttrs_list PySem.F.slot_list_append PySem.F.type_list_append mt_append (pv 2) (pa_cons (pv 4) pa_nil)))) pss_nil))))
      (pss_one (ps_ret (pv 2)))))
theorem ok_Lline {P : Program} {w : World} {K : PySem.W.Frag} {mg : Str → Option Value} {base : Heap} (T : Tx P K mg) : FnOk P w K mg base (L2.CX P w) 1 (He.ga K "_law_line") T.fd_Lline pr_Lline (sp_Lline K) := by
  refine T.F_Lline.ok sc_Lline ln_Lline (fun cdv A outer s H vs Q E hr h => ⟨t_Lline K, PSs.nox ?_, rd_Lline T.kf vs H Q E h⟩)
  exact (pss_one (ps_ret (pe_join pe_str (pe_lc (own := [("_law_half", 1)]) (g := gName 1) (tt := tYes) rfl sc_Lline.nd (pi_list (pv 0)) (blkOk_by (own := [("_law_half", 1)]) (N := nm_Lline) (sc := defScope s_Lline) (by decide +kernel)) (fun _ _ _ _ _ => pg_name (i := 1) sc_Lline.nd rfl (by first | exact Or.inl rfl | exact Or.inr rfl)) (fun _ _ _ _ _ => pts_nil) (fun _ _ _ _ _ => (pe_callTy call_str_int (by rfl) T.n_str (by decide +kernel) (pa_cons (pv 1) pa_nil)))))))
theorem ok_Lmixed {P : Program} {w : World} {K : PySem.W.Frag} {mg : Str → Option Value} {base : Heap} (T : Tx P K mg) : FnOk P w K mg base (L2.CX P w) 2 (He.ga K "_law_mixed") T.fd_Lmixed pr_Lmixed (sp_Lmixed K) := by
  have G_Lline := ok_Lline (P := P) (w := w) (base := base) T
  have G_Lpick := ok_Lpick (P := P) (w := w) (base := base) T
  refine T.F_Lmixed.ok sc_Lmixed ln_Lmixed (fun cdv A outer s H vs Q E hr h => ⟨t_Lmixed K, PSs.nox ?_, rd_Lmixed T.kf vs H Q E h⟩)
  exact (pss_cons (ps_setLc (i := 3) (own := [("_law_members", 2)]) (g := gName 2) (tt := tYes) rfl sc_Lmixed.nd rfl rfl (sw_true rfl rfl rfl (by decide +kernel)) (pi_list (pv 1)) (blkOk_by (own := [("_law_members", 2)]) (N := nm_Lmixed) (sc := defScope s_Lmixed) (by decide +kernel)) (fun _ _ _ _ _ => pg_name (i := 2) sc_Lmixed.nd rfl (by first | exact Or.inl rfl | exact Or.inr rfl)) (fun _ _ _ _ _ => pts_nil) (fun _ _ _ _ _ => (pv 2)))
      (pss_cons (ps_set (i := 4) sc_Lmixed.nd rfl (Or.inl rfl) (pe_lst pa_nil))
      (pss_cons (ps_for PassesOwn.never rfl (pi_range1 (by rfl) T.n_range (pa_cons (pe_callB call_len_seq (by rfl) T.n_len PySem.boot_len (pa_cons (pv 1) pa_nil)) pa_nil)) (pg_name (i := 5) sc_Lmixed.nd rfl (Or.inl rfl)) (pss_cons (ps_set (i := 6) sc_Lmixed.nd rfl (Or.inl rfl) (pe_call G_Lpick (hr.mono (by decide)) rfl T.m_Lpick T.F_Lpick.kp T.b_Lpick .nil passL (pa_cons (pv 0) (pa_cons (pe_callB call_len_seq (by rfl) T.n_len PySem.boot_len (pa_cons (pv 3) pa_nil)) pa_nil))))
      (pss_cons (ps_set (i := 2) sc_Lmixed.nd rfl (Or.inl rfl) (pe_ix ix_list (pv 3) (pv 6) (fun _ _ => rfl)))
      (pss_cons (ps_set (i := 7) sc_Lmixed.nd rfl (Or.inl rfl) (pe_call G_Lpick (hr.mono (by decide)) rfl T.m_Lpick T.F_Lpick.kp T.b_Lpick .nil passL (pa_cons (pv 0) (pa_cons (pe_callB call_len_seq (by rfl) T.n_len PySem.boot_len (pa_cons (pv 2) pa_nil)) pa_nil))))
      (pss_cons (ps_expr (pe_bm PySem.F.plainAttrs_list PySem.F.slot_list_append PySem.F.type_list_append mt_append (pv 4) (pa_cons (pe_call G_Lline (hr.mono (by decide)) rfl T.m_Lline T.F_Lline.kp T.b_Lline .nil passL (pa_cons (pe_op op_cat (pe_slice sl_list (pv 2) (po_some (pv 7)) po_none) (pe_slice sl_list (pv 2) po_none (po_some (pv 7)))) pa_nil)) pa_nil)))
      (pss_one (ps_set (i := 3) sc_Lmixed.nd rfl (Or.inl rfl) (pe_op op_cat (pe_slice sl_list (pv 3) po_none (po_some (pv 6))) (pe_slice sl_list (pv 3) (po_some (pe_op op_add (pv 6) pe_int)) po_none)))))))))
      (pss_one (ps_ret (pv 4))))))
theorem ok_Lspoilt {P : Program} {w : World} {K : PySem.W.Frag} {mg : Str → Option Value} {base : Heap} (T : Tx P K mg) : FnOk P w K mg base (L2.CX P w) 1 (He.ga K "_law_spoilt") T.fd_Lspoilt pr_Lspoilt (sp_Lspoilt K) := by
  refine T.F_Lspoilt.ok sc_Lspoilt ln_Lspoilt (fun cdv A outer s H vs Q E hr h => ⟨t_Lspoilt K, PSs.nox ?_, rd_Lspoilt T.kf vs H Q E h⟩)
  exact (pss_cons (ps_set (i := 3) sc_Lspoilt.nd rfl (Or.inl rfl) (pe_split (pv 0) pe_str))
      (pss_cons (ps_set (i := 4) sc_Lspoilt.nd rfl (Or.inl rfl) (pe_op op_modN (pe_callTy call_int1 (by rfl) T.n_int (by decide +kernel) (pa_cons (pv 2) pa_nil)) (pe_callB call_len_seq (by rfl) T.n_len PySem.boot_len (pa_cons (pv 3) pa_nil))))
      (pss_cons (ps_if (pt_cmpR op_eq (pv 1) pe_int (nomark _)) (pss_one (ps_ret pe_str)) pss_nil)
      (pss_cons (ps_if (pt_cmpR op_eq (pv 1) pe_int (nomark _)) (pss_one (ps_ret (pe_op op_add_str (pv 0) pe_str))) pss_nil)
      (pss_cons (ps_if (pt_cmpR op_eq (pv 1) pe_int (nomark _)) (pss_one (ps_ret (pe_op op_add_str pe_str (pv 0)))) pss_nil)
      (pss_cons (ps_set (i := 5) sc_Lspoilt.nd rfl (Or.inl rfl) (pe_ix ix_list (pe_lst (pa_cons pe_str (pa_cons (pe_op op_mulS pe_str pe_int) (pa_cons pe_str pa_nil)))) (pe_op op_modN (pe_callTy call_int1 (by rfl) T.n_int (by decide +kernel) (pa_cons (pv 2) pa_nil)) pe_int) (fun _ _ => rfl)))
      (pss_cons (ps_set (i := 6) sc_Lspoilt.nd rfl (Or.inl rfl) (pe_ix ix_list (pe_lst (pa_cons (pe_op op_add_str (pe_ix ix_list (pv 3) (pv 4) (fun _ _ => rfl)) pe_str) (pa_cons (pe_op op_add_str pe_str (pe_ix ix_list (pv 3) (pv 4) (fun _ _ => rfl))) (pa_cons (pv 5) (pa_cons pe_str (pa_cons (pe_op op_add_str (pe_ix ix_list (pv 3) (pv 4) (fun _ _ => rfl)) pe_str) (pa_cons (pe_op op_add_str pe_str (pe_ix ix_list (pv 3) (pv 4) (fun _ _ => rfl))) pa_nil))))))) (pe_op op_sub (pv 1) pe_int) (fun _ _ => rfl)))
      (pss_one (ps_ret (pe_join pe_str (pe_op op_cat (pe_op op_cat (pe_slice sl_list (pv 3) po_none (po_some (pv 4))) (pe_lst (pa_cons (pv 6) pa_nil))) (pe_slice sl_list (pv 3) (po_some (pe_op op_add (pv 4) pe_int)) po_none))))))))))))
theorem ok_Ltold {P : Program} {w : World} {K : PySem.W.Frag} {mg : Str → Option Value} {base : Heap} (T : Tx P K mg) : FnOk P w K mg base (L2.CX P w) 7 (He.ga K "_law_told") T.fd_Ltold pr_Ltold (sp_Ltold K) := by
  have G_readmesh := ok_readmesh (P := P) (w := w) (base := base) T
  refine T.F_Ltold.ok sc_Ltold ln_Ltold (fun cdv A outer s H vs Q E hr h => ⟨t_Ltold K, PSs.nox ?_, rd_Ltold T.ke vs H Q E h⟩)
  exact (pss_cons (ps_tryM rfl rfl sc_Ltold.nd (fun W pn xe tk po => (pss_one (ps_expr (pe_call G_readmesh (hr.mono (by decide)) rfl T.m_readmesh T.F_readmesh.kp T.b_readmesh .nil (passes_len tk) (pa_cons (pv 0) pa_nil))))) (.cons (i := 1) rfl rfl ⟨rfl, by decide, Or.inl T.m_BadLine⟩ (fun a oe cls d pn hz hf => pss_pre (fun hq => (pss_one (ps_ret (pe_lst (pa_cons pe_str (pa_cons (pe_xf (Hm.ExcC.xf T.x_BadLine) T.na_BadLine_line hz hf (pv 1)) (pa_cons (pe_callB (call_isX T.x_BadLine (zc_ref hz hq) hf) (by rfl) T.n_isinstance (by decide +kernel) (pa_cons (pv 1) (pa_cons (pe_glob rfl T.m_MeshError rfl) pa_nil))) pa_nil)))))))) (.cons (i := 1) rfl rfl ⟨rfl, by decide, Or.inl T.m_NotAMesh⟩ (fun a oe cls d pn hz hf => pss_pre (fun hq => (pss_one (ps_ret (pe_lst (pa_cons pe_str (pa_cons (pe_callB (call_isE T.x_NotAMesh (zc_of hz hq) hf) (by rfl) T.n_isinstance (by decide +kernel) (pa_cons (pv 1) (pa_cons (pe_glob rfl T.m_MeshError rfl) pa_nil))) pa_nil))))))) .nil)))
      (pss_one (ps_ret (pe_lst (pa_cons pe_str pa_nil)))))
theorem ok_Lmiscounted {P : Program} {w : World} {K : PySem.W.Frag} {mg : Str → Option Value} {base : Heap} (T : Tx P K mg) : FnOk P w K mg base (L2.CX P w) 1 (He.ga K "_law_miscounted") T.fd_Lmiscounted pr_Lmiscounted (sp_Lmiscounted K) := by
  refine T.F_Lmiscounted.ok sc_Lmiscounted ln_Lmiscounted (fun cdv A outer s H vs Q E hr h => ⟨t_Lmiscounted K, PSs.nox ?_, rd_Lmiscounted T.kf vs H Q E h⟩)
  exact (pss_cons (ps_set (i := 4) sc_Lmiscounted.nd rfl (Or.inl rfl) (pe_op op_modN (pe_callTy call_int1 (by rfl) T.n_int (by decide +kernel) (pa_cons (pv 2) pa_nil)) (pe_callB call_len_seq (by rfl) T.n_len PySem.boot_len (pa_cons (pv 0) pa_nil))))
      (pss_cons (ps_set (i := 5) sc_Lmiscounted.nd rfl (Or.inl rfl) (pe_split (pe_ix ix_list (pv 0) (pv 4) (fun _ _ => rfl)) pe_str))
      (pss_cons (ps_set (i := 6) sc_Lmiscounted.nd rfl (Or.inl rfl) (pe_op op_modN (pe_callTy call_int1 (by rfl) T.n_int (by decide +kernel) (pa_cons (pv 2) pa_nil)) (pe_callB call_len_seq (by rfl) T.n_len PySem.boot_len (pa_cons (pv 5) pa_nil))))
      (pss_cons (ps_if (pt_cmpR op_eq (pv 1) pe_int (nomark _)) (pss_one (ps_ret (pe_op op_cat (pv 0) (pe_lst (pa_cons (pe_ix ix_list (pe_lst (pa_cons (pe_ix ix_list (pv 5) (pv 6) (fun _ _ => rfl)) (pa_cons (pe_callTy call_str_int (by rfl) T.n_str (by decide +kernel) (pa_cons (pv 3) pa_nil)) pa_nil))) (pe_op op_modN (pe_callTy call_int1 (by rfl) T.n_int (by decide +kernel) (pa_cons (pv 2) pa_nil)) pe_int) (fun _ _ => rfl)) pa_nil))))) pss_nil)
      (pss_cons (ps_if (pt_cmpR op_eq (pv 1) pe_int (nomark _)) (pss_one (ps_asg (pe_ix ix_list (pe_lst (pa_cons (pe_callTy call_str_int (by rfl) T.n_str (by decide +kernel) (pa_cons (pv 3) pa_nil)) (pa_cons (pe_callTy call_str_int (by rfl) T.n_str (by decide +kernel) (pa_cons (pe_op op_add pe_int (pv 2)) pa_nil)) (pa_cons pe_str pa_nil)))) (pe_op op_modN (pe_callTy call_int1 (by rfl) T.n_int (by decide +kernel) (pa_cons (pv 2) pa_nil)) pe_int) (fun _ _ => rfl)) (pg_sub (pv 5) (pv 6) set_list))) (pss_one (ps_if (pt_cmpR op_gt (pv 2) pe_int (nomark _)) (pss_one (ps_set (i := 5) sc_Lmiscounted.nd rfl (Or.inl rfl) (pe_op op_cat (pe_op op_cat (pe_slice sl_list (pv 5) po_none (po_some (pv 6))) (pe_lst (pa_cons (pe_ix ix_list (pv 5) (pv 6) (fun _ _ => rfl)) pa_nil))) (pe_slice sl_list (pv 5) (po_some (pv 6)) po_none)))) (pss_one (ps_asg (pe_callTy call_str_int (by rfl) T.n_str (by decide +kernel) (pa_cons (pe_op op_modN (pe_callTy call_int1 (by rfl) T.n_int (by decide +kernel) (pa_cons (pe_op op_add (pe_callTy call_int_str (by rfl) T.n_int (by decide +kernel) (pa_cons (pe_ix ix_list (pv 5) (pv 6) (fun _ _ => rfl)) pa_nil)) pe_int) pa_nil)) (pv 3)) pa_nil)) (pg_sub (pv 5) (pv 6) set_list))))))
      (pss_one (ps_ret (pe_op op_cat (pe_op op_cat (pe_slice sl_list (pv 0) po_none (po_some (pv 4))) (pe_lst (pa_cons (pe_join pe_str (pv 5)) pa_nil))) (pe_slice sl_list (pv 0) (po_some (pe_op op_add (pv 4) pe_int)) po_none)))))))))
theorem ok_law {P : Program} {w : World} {K : PySem.W.Frag} {mg : Str → Option Value} {base : Heap} (T : Tx P K mg) : FnOk P w K mg base CX0 8 (He.ga K "law") T.fd_law pr_law (sp_law K) := by
  have G_Mesheq := ok_Mesheq (P := P) (w := w) (base := base) T
  have G_Meshinit := ok_Meshinit (P := P) (w := w) (base := base) T
  have G_Meshtext := ok_Meshtext (P := P) (w := w) (base := base) T
  have G_Lline := ok_Lline (P := P) (w := w) (base := base) T
  have G_Lmiscounted := ok_Lmiscounted (P := P) (w := w) (base := base) T
  have G_Lmixed := ok_Lmixed (P := P) (w := w) (base := base) T
  have G_Lnexts := ok_Lnexts (P := P) (w := w) (base := base) T
  have G_Lpick := ok_Lpick (P := P) (w := w) (base := base) T
  have G_Lrounds := ok_Lrounds (P := P) (w := w) (base := base) T
  have G_Lsize := ok_Lsize (P := P) (w := w) (base := base) T
  have G_Lspoilt := ok_Lspoilt (P := P) (w := w) (base := base) T
  have G_Ltape := ok_Ltape (P := P) (w := w) (base := base) T
  have G_Ltold := ok_Ltold (P := P) (w := w) (base := base) T
  have G_readmesh := ok_readmesh (P := P) (w := w) (base := base) T
  refine T.F_law.ok sc_law ln_law (fun cdv A outer s H vs Q E hr h => ⟨t_law K, PSs.nox ?_, rd_law T.ke vs H Q E h⟩)
  exact (pss_cons (ps_set (i := 1) sc_law.nd rfl (Or.inl rfl) (pe_call G_Ltape (hr.mono (by decide)) rfl T.m_Ltape T.F_Ltape.kp T.b_Ltape .nil passL (pa_cons (pv 0) (pa_cons pe_int pa_nil))))
      (pss_cons (ps_set (i := 2) sc_law.nd rfl (Or.inl rfl) (pe_call G_Lpick (hr.mono (by decide)) rfl T.m_Lpick T.F_Lpick.kp T.b_Lpick .nil passL (pa_cons (pv 1) (pa_cons pe_int pa_nil))))
      (pss_cons (ps_set (i := 3) sc_law.nd rfl (Or.inl rfl) (pe_cmpR op_eq (pe_call G_Lpick (hr.mono (by decide)) rfl T.m_Lpick T.F_Lpick.kp T.b_Lpick .nil passL (pa_cons (pv 1) (pa_cons pe_int pa_nil))) pe_int (nomark _)))
      (pss_cons (ps_set (i := 4) sc_law.nd rfl (Or.inl rfl) (pe_call G_Lpick (hr.mono (by decide)) rfl T.m_Lpick T.F_Lpick.kp T.b_Lpick .nil passL (pa_cons (pv 1) (pa_cons pe_int pa_nil))))
      (pss_cons (ps_set (i := 5) sc_law.nd rfl (Or.inl rfl) (pe_call G_Lsize (hr.mono (by decide)) rfl T.m_Lsize T.F_Lsize.kp T.b_Lsize .nil passL (pa_cons (pv 1) pa_nil)))
      (pss_cons (ps_if (pt_cmpR op_lt (pv 2) pe_int (nomark _)) (pss_one (ps_set (i := 5) sc_law.nd rfl (Or.inl rfl) (pe_callB (call_max2 rfl) (by rfl) T.n_max (by decide +kernel) (pa_cons pe_int (pa_cons (pv 5) pa_nil))))) pss_nil)
      (pss_cons (ps_set (i := 6) sc_law.nd rfl (Or.inl rfl) (pe_call G_Lnexts (hr.mono (by decide)) rfl T.m_Lnexts T.F_Lnexts.kp T.b_Lnexts .nil passL (pa_cons (pe_call G_Ltape (hr.mono (by decide)) rfl T.m_Ltape T.F_Ltape.kp T.b_Ltape .nil passL (pa_cons (pv 0) (pa_cons pe_int pa_nil))) (pa_cons (pv 5) pa_nil))))
      (pss_cons (ps_set (i := 7) sc_law.nd rfl (Or.inl rfl) (pe_make T.mk_Mesh G_Meshinit (hr.mono (by decide)) rfl T.m_Mesh T.b_Meshinit .nil passL (pa_cons (pv 6) pa_nil)))
      (pss_cons (ps_set (i := 8) sc_law.nd rfl (Or.inl rfl) (pe_join pe_str (pe_lc (own := [("_law_members", 12)]) (g := gName 12) (tt := tYes) rfl sc_law.nd (pi_list (pe_call G_Lrounds (hr.mono (by decide)) rfl T.m_Lrounds T.F_Lrounds.kp T.b_Lrounds .nil passL (pa_cons (pv 6) (pa_cons pe_bl pa_nil)))) (blkOk_by (own := [("_law_members", 12)]) (N := nm_law) (sc := defScope s_law) (by decide +kernel)) (fun _ _ _ _ _ => pg_name (i := 12) sc_law.nd rfl (by first | exact Or.inl rfl | exact Or.inr rfl)) (fun _ _ _ _ _ => pts_nil) (fun _ _ _ _ _ => (pe_call G_Lline (hr.mono (by decide)) rfl T.m_Lline T.F_Lline.kp T.b_Lline .nil passL (pa_cons (pv 12) pa_nil))))))
      (pss_cons (ps_set (i := 9) sc_law.nd rfl (Or.inl rfl) (pe_call G_Lmixed (hr.mono (by decide)) rfl T.m_Lmixed T.F_Lmixed.kp T.b_Lmixed .nil passL (pa_cons (pe_call G_Ltape (hr.mono (by decide)) rfl T.m_Ltape T.F_Ltape.kp T.b_Ltape .nil passL (pa_cons (pv 0) (pa_cons pe_int pa_nil))) (pa_cons (pe_call G_Lrounds (hr.mono (by decide)) rfl T.m_Lrounds T.F_Lrounds.kp T.b_Lrounds .nil passL (pa_cons (pv 6) (pa_cons pe_bl pa_nil))) pa_nil))))
      (pss_cons (ps_if (PW.pt (pw_or (pt_cmpR op_ne (pe_meth0 (pv 7) T.cl_Mesh T.me_Meshtext G_Meshtext (hr.mono (by decide)) T.b_Meshtext .nil passL) (pv 8) (nomark _)) (pw_or (pt_not (pt_cmpR (op_own_eq (E := E0) G_Mesheq T.me_Mesheq.1 T.me_Mesheq.2 T.b_Mesheq passL (hr.mono (by decide))) (pe_call G_readmesh (hr.mono (by decide)) rfl T.m_readmesh T.F_readmesh.kp T.b_readmesh .nil passL (pa_cons (pv 8) pa_nil)) (pv 7) (nomark _))) (pw_or1 (pt_not (pt_cmpR (op_own_eq (E := E0) G_Mesheq T.me_Mesheq.1 T.me_Mesheq.2 T.b_Mesheq passL (hr.mono (by decide))) (pe_call G_readmesh (hr.mono (by decide)) rfl T.m_readmesh T.F_readmesh.kp T.b_readmesh .nil passL (pa_cons (pe_join pe_str (pv 9)) pa_nil)) (pv 7) (nomark _))))))) (pss_one (ps_ret pe_bl)) pss_nil)
      (pss_cons (ps_if (pt_cmpR op_gt (pv 2) pe_int (nomark _)) (pss_one (ps_ret (pe_cmpR (op_eqD hr.units) (pe_call G_Ltold (hr.mono (by decide)) rfl T.m_Ltold T.F_Ltold.kp T.b_Ltold .nil passL (pa_cons (pe_op op_mulS pe_str (pe_op op_add pe_int (pe_op op_modN (pe_callTy call_int1 (by rfl) T.n_int (by decide +kernel) (pa_cons (pv 4) pa_nil)) pe_int))) pa_nil)) (pe_lst (pa_cons pe_str (pa_cons pe_int (pa_cons pe_bl pa_nil)))) (nomark _)))) pss_nil)
      (pss_cons (ps_set (i := 10) sc_law.nd rfl (Or.inl rfl) (pe_op op_modN (pe_callTy call_int1 (by rfl) T.n_int (by decide +kernel) (pa_cons (pv 4) pa_nil)) (pe_callB call_len_seq (by rfl) T.n_len PySem.boot_len (pa_cons (pv 9) pa_nil))))
      (pss_cons (ps_if (pt_cmpR op_lt (pv 2) pe_int (nomark _)) (pss_cons (ps_if (pt_val (pv 3)) (pss_one (ps_asg (pe_op op_add_str (pe_ix ix_list (pv 9) (pe_op op_sub (pe_callB call_len_seq (by rfl) T.n_len PySem.boot_len (pa_cons (pv 9) pa_nil)) pe_int) (fun _ _ => rfl)) pe_str) (pg_sub (pv 9) (pe_op op_sub (pe_callB call_len_seq (by rfl) T.n_len PySem.boot_len (pa_cons (pv 9) pa_nil)) pe_int) set_list))) pss_nil)
      (pss_cons (ps_set (i := 11) sc_law.nd rfl (Or.inl rfl) (pe_call G_Lspoilt (hr.mono (by decide)) rfl T.m_Lspoilt T.F_Lspoilt.kp T.b_Lspoilt .nil passL (pa_cons (pe_ix ix_list (pv 9) (pv 10) (fun _ _ => rfl)) (pa_cons (pv 2) (pa_cons (pv 4) pa_nil)))))
      (pss_cons (ps_if (PW.pt (pw_and (pt_cmpR op_eq (pv 2) pe_int (nomark _)) (pw_and1 (pt_cmpR op_eq (pe_callB call_len_seq (by rfl) T.n_len PySem.boot_len (pa_cons (pv 9) pa_nil)) pe_int (nomark _))))) (pss_one (ps_set (i := 11) sc_law.nd rfl (Or.inl rfl) pe_str)) pss_nil)
      (pss_cons (ps_asg (pv 11) (pg_sub (pv 9) (pv 10) set_list))
      (pss_one (ps_ret (pe_cmpR (op_eqD hr.units) (pe_call G_Ltold (hr.mono (by decide)) rfl T.m_Ltold T.F_Ltold.kp T.b_Ltold .nil passL (pa_cons (pe_join pe_str (pv 9)) pa_nil)) (pe_lst (pa_cons pe_str (pa_cons (pe_op op_add (pv 10) pe_int) (pa_cons pe_bl pa_nil)))) (nomark _)))))))) pss_nil)
      (pss_cons (ps_set (i := 9) sc_law.nd rfl (Or.inl rfl) (pe_call G_Lmiscounted (hr.mono (by decide)) rfl T.m_Lmiscounted T.F_Lmiscounted.kp T.b_Lmiscounted .nil passL (pa_cons (pv 9) (pa_cons (pv 2) (pa_cons (pv 4) (pa_cons (pe_op op_mul pe_int (pv 5)) pa_nil))))))
      (pss_cons (ps_if (pt_val (pv 3)) (pss_one (ps_ret (pe_cmpR (op_eqD hr.units) (pe_call G_Ltold (hr.mono (by decide)) rfl T.m_Ltold T.F_Ltold.kp T.b_Ltold .nil passL (pa_cons (pe_join pe_str (pe_op op_cat (pv 9) (pe_lst (pa_cons pe_str pa_nil)))) pa_nil)) (pe_lst (pa_cons pe_str (pa_cons (pe_op op_add (pe_callB call_len_seq (by rfl) T.n_len PySem.boot_len (pa_cons (pv 9) pa_nil)) pe_int) (pa_cons pe_bl pa_nil)))) (nomark _)))) pss_nil)
      (pss_one (ps_ret (pe_cmpR (op_eqD hr.units) (pe_call G_Ltold (hr.mono (by decide)) rfl T.m_Ltold T.F_Ltold.kp T.b_Ltold .nil passL (pa_cons (pe_join pe_str (pv 9)) pa_nil)) (pe_lst (pa_cons pe_str (pa_cons pe_bl pa_nil))) (nomark _))))))))))))))))))))
theorem law_ok {P : Program} {w : World} {K : PySem.W.Frag} {h : Heap} {mg : Str → Option Value} {f : Addr} (X : K.In h) (G : h.Ns mainGlobals mg) (hP : PF P) (hf : mg ("law" : Str) = some (.ref f)) (c : SaysS fa fn fx cl fileS K) :
    ∃ fd : FuncData, (∀ (s : Shared) (v : Value), BindsTo s fd ⟨[v], []⟩ [("_law_script", v)]) ∧ ∀ base : Heap, K.In base → base.Ns mainGlobals mg → FnOk P w K mg base CX0 8 f fd ["_law_script"] (sp_law K) := by
  obtain ⟨T⟩ := tx_of hP X G c
  have e : f = He.ga K "law" := by
    have q := hf.symm.trans (He.glo_ok X G (c.d.fact 48 (f := .glo "law") rfl))
    cases q
    rfl
  subst e
  have b := FunD.bindsA (ps := ["_law_script"]) T.F_law fun _ _ _ _ _ _ us hl => match us, hl with | [_], _ => rfl
  exact ⟨T.fd_law, fun s v => b s [v] rfl, fun base _ _ => ok_law T⟩
end K14
open PySem PySem.W PySem.Calls PyProof.Rows
set_option maxRecDepth 100000 in
set_option maxHeartbeats 0 in
theorem PySem.Challenge.cw_halfmeshes_k14_texts_of_meshes_holds : PySem.Challenge.rw_halfmeshes_k14_texts_of_meshes.Holds := by
  w_on; o_law
  refine HandSHeadRun.head_any (r := OpenLaw.row PySem.Challenge.rw_halfmeshes_k14_texts_of_meshes) (q := view (OpenLaw.row PySem.Challenge.rw_halfmeshes_k14_texts_of_meshes).prog [29]) (H := K14.hk) (ob := K14.ob) (M := 9000) (loose := K14.lse) (d := HandSHeadRun.topDef (OpenLaw.row PySem.Challenge.rw_halfmeshes_k14_texts_of_meshes).prog 29) (kwd := []) K14.ob_hk
    (by kernel_rfl) (fun s => by kernel_rfl) K14.top_run (by kernel_rfl) (by kernel_rfl) (by kernel_rfl) (by rfl) (by first | assumption | decide +kernel) (by decide +kernel) ⟨rfl, rfl, rfl, rfl, rfl, by decide +kernel⟩ ?witness ?theCall
  case witness => w_witness2
  case theCall =>
    refine L2.walk_ofE (l := PySem.Challenge.rw_halfmeshes_k14_texts_of_meshes) (n := 63) (k := 8) (x := "_law_script") (CX := L2.CX0) rfl (by decide) (by kernel_rfl) ⟨rfl, by decide, by decide⟩ ?promise (fun _ _ _ _ z => z)
    intro w mg ad hp says G named
    obtain ⟨K, inK, facts⟩ := says
    have named2 : mg ("law" : PySem.Str) = some (.ref ad) := by
      have e : (HandSHeadRun.topDef (OpenLaw.row PySem.Challenge.rw_halfmeshes_k14_texts_of_meshes).prog 29).name = ("law" : PySem.Str) := by kernel_rfl
      exact e ▸ named
    obtain ⟨fd, binds, keeps⟩ := K14.law_ok (P := (PySem.Challenge.rw_halfmeshes_k14_texts_of_meshes).prog) (w := w) inK G ⟨rfl, by decide +kernel⟩ named2 facts
    exact ⟨K, fd, K14.sp_law K, inK, binds, fun H a zs hl _ hS => ⟨a, zs, rfl, hS, fun _ => rfl⟩, keeps⟩
#print axioms PySem.Challenge.cw_halfmeshes_k14_texts_of_meshes_holds
