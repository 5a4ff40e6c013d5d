import PyProof.Rows.All
import Wide.All
import OpenK.AllK
import Wide.FinOn
import KE.KStateDown
import HandS.ForMost
import HandS.More
import HandS.WordsExc
import HandS.Defaults
import HandS.IsInst
import HandS.Sort
import HandS.SortInts
import HandS.Conv
import HandS.Evl
import HandS.HeadHook1
import HandS.HeadHook2
import HandS.Zip
import HandS.Walk
import KE.KExcSuper
import HandS.Exc
import HandS.ExcInit
import HandS.Nested
import HandS.TryOnly
import HandS.ExcOwn
import HandS.ExcIs
import HandS.FStr
import HandS.MakeKwOnly
import HandS.ExcField
import HandS.Head0
import HandS.Head1
import HandS.Head2
import HandS.HeadEnd
import PySem.Challenge.RW_halfmeshes_k15_error_classes
set_option Elab.async false
set_option linter.all false
set_option maxRecDepth 100000
set_option maxHeartbeats 0
/-! Mathematics of permutations of the numbers below N, their rounds. Own work of the verifier. -/
namespace Hm

/-- f maps the numbers below N to such, different ones to different ones -/
structure Pf (f : Nat → Nat) (N : Nat) : Prop where
  lt : ∀ x, x < N → f x < N
  inj : ∀ x y, x < N → y < N → f x = f y → x = y

def itr (f : Nat → Nat) : Nat → Nat → Nat
  | 0, x => x
  | k + 1, x => f (itr f k x)

theorem itr_succ' (f : Nat → Nat) (k x : Nat) : itr f (k + 1) x = itr f k (f x) := by
  induction k with
  | zero => rfl
  | succ k ih => show f (itr f (k + 1) x) = f (itr f k (f x)); rw [ih]
theorem itr_add (f : Nat → Nat) (a b x : Nat) : itr f (a + b) x = itr f a (itr f b x) := by
  induction a with
  | zero => rw [Nat.zero_add]; rfl
  | succ a ih => rw [Nat.succ_add]; show f (itr f (a + b) x) = f (itr f a (itr f b x)); rw [ih]
theorem itr_lt {f : Nat → Nat} {N : Nat} (P : Pf f N) {x : Nat} (h : x < N) (k : Nat) : itr f k x < N := by
  induction k with
  | zero => exact h
  | succ k ih => exact P.lt _ ih
theorem itr_inj {f : Nat → Nat} {N : Nat} (P : Pf f N) {x y : Nat} (hx : x < N) (hy : y < N) (k : Nat) (e : itr f k x = itr f k y) : x = y := by
  induction k with
  | zero => exact e
  | succ k ih => exact ih (P.inj _ _ (itr_lt P hx k) (itr_lt P hy k) e)

/-- a list without repetition of numbers below N is not longer than N -/
theorem nodup_le : ∀ (N : Nat) (l : List Nat), l.Nodup → (∀ x ∈ l, x < N) → l.length ≤ N
  | 0, l, _, h => by
    cases l with
    | nil => exact Nat.le_refl _
    | cons a r => exact absurd (h a (List.mem_cons_self ..)) (Nat.not_lt_zero _)
  | N + 1, l, hn, h => by
    have h1 := nodup_le N (l.erase N) (hn.erase N) (fun x hx => by
      have h2 := h x (List.mem_of_mem_erase hx)
      have h3 : x ≠ N := fun e => by
        subst e
        exact (hn.not_mem_erase) hx
      omega)
    have h4 : l.length ≤ (l.erase N).length + 1 := by
      rw [List.length_erase]
      split <;> omega
    omega

theorem itr_back {f : Nat → Nat} {N : Nat} (P : Pf f N) {x : Nat} (hx : x < N) {i j : Nat} (hij : i < j) (e : itr f i x = itr f j x) : itr f (j - i) x = x := by
  have h : j = i + (j - i) := by omega
  rw [h, itr_add] at e
  exact (itr_inj P hx (itr_lt P hx _) i e).symm

theorem ret_ex {f : Nat → Nat} {N : Nat} (P : Pf f N) {x : Nat} (hx : x < N) : ∃ k, k < N ∧ itr f (k + 1) x = x := by
  refine Classical.byContradiction fun hno => ?_
  have hno' : ∀ k, k < N → itr f (k + 1) x ≠ x := fun k hk e => hno ⟨k, hk, e⟩
  have hnd : ((List.range (N + 1)).map fun k => itr f k x).Nodup := by
    rw [List.nodup_iff_pairwise_ne, List.pairwise_map]
    refine List.Pairwise.imp_of_mem ?_ List.pairwise_lt_range
    intro a b ha hb hab e
    have hb' := List.mem_range.mp hb
    have e2 := itr_back P hx hab e
    have e3 : b - a = (b - a - 1) + 1 := by omega
    rw [e3] at e2
    exact hno' _ (by omega) e2
  have := nodup_le N _ hnd (fun y hy => by
    obtain ⟨k, _, rfl⟩ := List.mem_map.mp hy
    exact itr_lt P hx k)
  rw [List.length_map, List.length_range] at this
  omega

/-- the number of steps after which x is met again -/
def per (f : Nat → Nat) (N x : Nat) : Nat := ((List.range N).find? fun k => itr f (k + 1) x == x).getD 0 + 1
theorem per_pos (f : Nat → Nat) (N x : Nat) : 0 < per f N x := Nat.succ_pos _
theorem per_spec {f : Nat → Nat} {N : Nat} (P : Pf f N) {x : Nat} (hx : x < N) : itr f (per f N x) x = x ∧ per f N x ≤ N ∧ ∀ k, 0 < k → k < per f N x → itr f k x ≠ x := by
  unfold per
  cases e : (List.range N).find? (fun k => itr f (k + 1) x == x) with
  | none =>
    obtain ⟨k, hk, e2⟩ := ret_ex P hx
    have := List.find?_eq_none.mp e k (List.mem_range.mpr hk)
    rw [e2] at this
    exact absurd (beq_self_eq_true x) this
  | some k =>
    have h1 := List.find?_range_eq_some.mp e
    obtain ⟨h1, h2, h3⟩ := h1
    have h2 := List.mem_range.mp h2
    refine ⟨eq_of_beq h1, h2, fun j hj hjk e2 => ?_⟩
    have hjk : j < k + 1 := hjk
    have := h3 (j - 1) (by omega)
    rw [show j - 1 + 1 = j by omega, e2] at this
    simp at this

/-- the round of x: x, f x, .. -/
def rnd (f : Nat → Nat) (N x : Nat) : List Nat := (List.range (per f N x)).map fun k => itr f k x
theorem mem_rnd {f : Nat → Nat} {N : Nat} (P : Pf f N) {x : Nat} (hx : x < N) {y : Nat} : y ∈ rnd f N x ↔ ∃ k, itr f k x = y := by
  obtain ⟨s1, s2, s3⟩ := per_spec P hx
  constructor
  · intro h
    obtain ⟨k, _, e⟩ := List.mem_map.mp h
    exact ⟨k, e⟩
  · rintro ⟨k, rfl⟩
    have key : ∀ n k, k ≤ n → itr f k x ∈ rnd f N x := by
      intro n
      induction n with
      | zero =>
        intro k hk
        have : k = 0 := by omega
        subst this
        exact List.mem_map.mpr ⟨0, List.mem_range.mpr (per_pos _ _ _), rfl⟩
      | succ n ih =>
        intro k hk
        by_cases h : k < per f N x
        · exact List.mem_map.mpr ⟨k, List.mem_range.mpr h, rfl⟩
        · have e : itr f k x = itr f (k - per f N x) x := by
            have e2 : k = (k - per f N x) + per f N x := by omega
            rw [e2, itr_add, s1, ← e2]
          rw [e]
          have := per_pos f N x
          exact ih _ (by omega)
    exact key k k (Nat.le_refl _)
theorem rnd_lt {f : Nat → Nat} {N : Nat} (P : Pf f N) {x : Nat} (hx : x < N) {y : Nat} (h : y ∈ rnd f N x) : y < N := by
  obtain ⟨k, rfl⟩ := (mem_rnd P hx).mp h
  exact itr_lt P hx k
theorem rnd_symm {f : Nat → Nat} {N : Nat} (P : Pf f N) {x y : Nat} (hx : x < N) (h : y ∈ rnd f N x) : x ∈ rnd f N y := by
  have hy := rnd_lt P hx h
  obtain ⟨k, hk, rfl⟩ := List.mem_map.mp h
  have hk := List.mem_range.mp hk
  refine (mem_rnd P hy).mpr ⟨per f N x - k, ?_⟩
  rw [← itr_add, show per f N x - k + k = per f N x by omega]
  exact (per_spec P hx).1
theorem rnd_trans {f : Nat → Nat} {N : Nat} (P : Pf f N) {x y z : Nat} (hx : x < N) (h : y ∈ rnd f N x) (h2 : z ∈ rnd f N y) : z ∈ rnd f N x := by
  have hy := rnd_lt P hx h
  obtain ⟨k, rfl⟩ := (mem_rnd P hx).mp h
  obtain ⟨j, rfl⟩ := (mem_rnd P hy).mp h2
  exact (mem_rnd P hx).mpr ⟨j + k, itr_add f j k x⟩
theorem rnd_self {f : Nat → Nat} {N : Nat} (P : Pf f N) {x : Nat} (hx : x < N) : x ∈ rnd f N x := (mem_rnd P hx).mpr ⟨0, rfl⟩
theorem rnd_step {f : Nat → Nat} {N : Nat} (P : Pf f N) {x y : Nat} (hx : x < N) (h : y ∈ rnd f N x) : f y ∈ rnd f N x := by
  obtain ⟨k, rfl⟩ := (mem_rnd P hx).mp h
  exact (mem_rnd P hx).mpr ⟨k + 1, rfl⟩
theorem rnd_length (f : Nat → Nat) (N x : Nat) : (rnd f N x).length = per f N x := by
  unfold rnd; rw [List.length_map, List.length_range]
theorem rnd_take_nodup {f : Nat → Nat} {N : Nat} (P : Pf f N) {x : Nat} (hx : x < N) {k : Nat} (hk : k < per f N x) : itr f k x ∉ (List.range k).map fun j => itr f j x := by
  intro h
  obtain ⟨j, hj, e⟩ := List.mem_map.mp h
  have hj := List.mem_range.mp hj
  have e2 := itr_back P hx hj e
  exact (per_spec P hx).2.2 (k - j) (by omega) (by omega) e2
theorem rnd_nodup {f : Nat → Nat} {N : Nat} (P : Pf f N) {x : Nat} (hx : x < N) : (rnd f N x).Nodup := by
  unfold rnd
  rw [List.nodup_iff_pairwise_ne, List.pairwise_map]
  refine List.Pairwise.imp_of_mem ?_ List.pairwise_lt_range
  intro a b ha hb hab e
  have hb' := List.mem_range.mp hb
  have e2 := itr_back P hx hab e
  exact (per_spec P hx).2.2 (b - a) (by omega) (by omega) e2

/-- x is the least of its round -/
def isMin (f : Nat → Nat) (N x : Nat) : Bool := (rnd f N x).all fun y => decide (x ≤ y)
theorem isMin_iff {f : Nat → Nat} {N x : Nat} : isMin f N x = true ↔ ∀ y ∈ rnd f N x, x ≤ y := by
  unfold isMin
  rw [List.all_eq_true]
  exact ⟨fun h y hy => of_decide_eq_true (h y hy), fun h y hy => decide_eq_true (h y hy)⟩
/-- all rounds, by their least members, of the numbers below n -/
def cycs (f : Nat → Nat) (N n : Nat) : List (List Nat) := ((List.range n).filter (isMin f N)).map (rnd f N)
theorem cycs_yes {f : Nat → Nat} {N n : Nat} (h : isMin f N n = true) : cycs f N (n + 1) = cycs f N n ++ [rnd f N n] := by
  unfold cycs
  rw [List.range_succ, List.filter_append, List.map_append, List.filter_cons, if_pos h]
  rfl
theorem cycs_no {f : Nat → Nat} {N n : Nat} (h : ¬ isMin f N n = true) : cycs f N (n + 1) = cycs f N n := by
  unfold cycs
  rw [List.range_succ, List.filter_append, List.map_append, List.filter_cons, if_neg h]
  show _ ++ [] = _
  rw [List.append_nil]
theorem cycs_len (f : Nat → Nat) (N n : Nat) : (cycs f N n).length ≤ n := by
  unfold cycs
  rw [List.length_map]
  have := List.length_filter_le (isMin f N) (List.range n)
  rw [List.length_range] at this
  exact this
/-- y lies in the round of a number below n -/
def Sn (f : Nat → Nat) (N n y : Nat) : Prop := ∃ s, s < n ∧ s < N ∧ y ∈ rnd f N s
theorem sn_iff_notMin {f : Nat → Nat} {N : Nat} (P : Pf f N) {n : Nat} (hn : n < N) : Sn f N n n ↔ ¬ isMin f N n = true := by
  constructor
  · rintro ⟨s, h1, h2, h3⟩ h
    have := isMin_iff.mp h s (rnd_symm P h2 h3)
    omega
  · intro h
    rw [isMin_iff] at h
    refine Classical.byContradiction fun hno => h fun y hy => ?_
    refine Nat.le_of_not_lt fun hlt => hno ⟨y, hlt, rnd_lt P hn hy, rnd_symm P hn hy⟩
theorem sn_back {f : Nat → Nat} {N : Nat} (P : Pf f N) {n y : Nat} (hy : y < N) (h : Sn f N n (f y)) : Sn f N n y := by
  obtain ⟨s, h1, h2, h3⟩ := h
  refine ⟨s, h1, h2, rnd_trans P h2 h3 (rnd_symm P hy ?_)⟩
  exact (mem_rnd P hy).mpr ⟨1, rfl⟩
theorem sn_itr {f : Nat → Nat} {N : Nat} (P : Pf f N) {n x : Nat} (hx : x < N) (h : ¬ Sn f N n x) (k : Nat) : ¬ Sn f N n (itr f k x) := by
  induction k with
  | zero => exact h
  | succ k ih => exact fun q => ih (sn_back P (itr_lt P hx k) q)
theorem sn_succ {f : Nat → Nat} {N n y : Nat} (hn : n < N) : Sn f N (n + 1) y ↔ Sn f N n y ∨ y ∈ rnd f N n := by
  constructor
  · rintro ⟨s, h1, h2, h3⟩
    by_cases e : s = n
    · subst e; exact .inr h3
    · exact .inl ⟨s, by omega, h2, h3⟩
  · rintro (⟨s, h1, h2, h3⟩ | h)
    · exact ⟨s, by omega, h2, h3⟩
    · exact ⟨n, by omega, hn, h⟩

/-! ### lists as maps -/
/-- a list of the numbers below its length, each once -/
structure IsP (ns : List Nat) : Prop where
  perm : ns.Perm (List.range ns.length)
theorem IsP.nodup {ns : List Nat} (h : IsP ns) : ns.Nodup := h.perm.symm.nodup List.nodup_range
theorem IsP.mem {ns : List Nat} (h : IsP ns) {x : Nat} : x ∈ ns ↔ x < ns.length := by
  rw [h.perm.mem_iff, List.mem_range]
def fn (ns : List Nat) (x : Nat) : Nat := ns.getD x 0
theorem fn_get {ns : List Nat} {x : Nat} (h : x < ns.length) : ns[x]? = some (fn ns x) := by
  unfold fn
  rw [List.getD_eq_getElem?_getD, List.getElem?_eq_getElem h]
  rfl
theorem fn_at {ns : List Nat} {x y : Nat} (h : ns[x]? = some y) : fn ns x = y := by
  unfold fn
  rw [List.getD_eq_getElem?_getD, h]
  rfl
theorem fn_mem {ns : List Nat} {x : Nat} (h : x < ns.length) : fn ns x ∈ ns := List.mem_of_getElem? (fn_get h)
theorem pf_fn {ns : List Nat} (h : IsP ns) : Pf (fn ns) ns.length where
  lt := fun x hx => h.mem.mp (fn_mem hx)
  inj := fun x y hx hy e => by
    have h1 := fn_get hx
    have h2 := fn_get hy
    rw [e] at h1
    have hn := h.nodup
    obtain ⟨a1, b1⟩ := List.getElem?_eq_some_iff.mp h1
    obtain ⟨a2, b2⟩ := List.getElem?_eq_some_iff.mp h2
    exact (List.getElem_inj hn).mp (b1.trans b2.symm)
/-- the number whose next is x -/
def bk (ns : List Nat) (x : Nat) : Nat := ns.idxOf x
theorem bk_lt {ns : List Nat} (h : IsP ns) {x : Nat} (hx : x < ns.length) : bk ns x < ns.length := List.idxOf_lt_length_iff.mpr (h.mem.mpr hx)
theorem fn_bk {ns : List Nat} (h : IsP ns) {x : Nat} (hx : x < ns.length) : fn ns (bk ns x) = x := by
  have h1 := fn_get (bk_lt h hx)
  have h2 : ns[bk ns x]'(bk_lt h hx) = x := List.getElem_idxOf (bk_lt h hx)
  rw [List.getElem?_eq_getElem (bk_lt h hx), h2] at h1
  exact (Option.some.inj h1).symm
theorem bk_fn {ns : List Nat} (h : IsP ns) {x : Nat} (hx : x < ns.length) : bk ns (fn ns x) = x :=
  (pf_fn h).inj _ _ (bk_lt h ((pf_fn h).lt x hx)) hx (fn_bk h ((pf_fn h).lt x hx))
def tw (x : Nat) : Nat := if x % 2 = 0 then x + 1 else x - 1
theorem tw_tw (x : Nat) : tw (tw x) = x := by unfold tw; split <;> split <;> omega
theorem tw_lt {x N : Nat} (hN : N % 2 = 0) (h : x < N) : tw x < N := by unfold tw; split <;> omega
theorem tw_inj {x y : Nat} (h : tw x = tw y) : x = y := by rw [← tw_tw x, h, tw_tw]
def prevs (ns : List Nat) : List Nat := (List.range ns.length).map (bk ns)
def turns (ns : List Nat) : List Nat := (prevs ns).map tw
theorem prevs_len (ns : List Nat) : (prevs ns).length = ns.length := by unfold prevs; rw [List.length_map, List.length_range]
theorem turns_len (ns : List Nat) : (turns ns).length = ns.length := by unfold turns; rw [List.length_map, prevs_len]
theorem fn_prevs {ns : List Nat} {x : Nat} (h : x < ns.length) : fn (prevs ns) x = bk ns x := by
  apply fn_at
  unfold prevs
  rw [List.getElem?_map, List.getElem?_range h]
  rfl
theorem fn_turns {ns : List Nat} {x : Nat} (h : x < ns.length) : fn (turns ns) x = tw (bk ns x) := by
  apply fn_at
  unfold turns
  rw [List.getElem?_map, fn_get (by rw [prevs_len]; exact h), fn_prevs h]
  rfl
/-- from a map to its list -/
theorem isP_of {f : Nat → Nat} {N : Nat} (P : Pf f N) : IsP ((List.range N).map f) where
  perm := by
    rw [List.length_map, List.length_range]
    have hnd : ((List.range N).map f).Nodup := by
      rw [List.nodup_iff_pairwise_ne, List.pairwise_map]
      refine List.Pairwise.imp_of_mem ?_ List.pairwise_lt_range
      intro a b ha hb hab e
      have := P.inj _ _ (List.mem_range.mp ha) (List.mem_range.mp hb) e
      omega
    refine (List.perm_ext_iff_of_nodup hnd List.nodup_range).mpr fun x => ?_
    constructor
    · intro h
      obtain ⟨y, hy, rfl⟩ := List.mem_map.mp h
      exact List.mem_range.mpr (P.lt _ (List.mem_range.mp hy))
    · intro h
      have hx := List.mem_range.mp h
      have P' := P
      refine List.mem_map.mpr ⟨itr f (per f N x - 1) x, List.mem_range.mpr (itr_lt P hx _), ?_⟩
      have e := (per_spec P hx).1
      have hp := per_pos f N x
      rw [show per f N x = (per f N x - 1) + 1 by omega] at e
      exact e
theorem isP_prevs {ns : List Nat} (h : IsP ns) : IsP (prevs ns) := isP_of ⟨fun x hx => bk_lt h hx, fun x y hx hy e => by
  rw [← fn_bk h hx, e, fn_bk h hy]⟩
theorem pf_turn {ns : List Nat} (h : IsP ns) (hN : ns.length % 2 = 0) : Pf (fun x => tw (bk ns x)) ns.length where
  lt := fun x hx => tw_lt hN (bk_lt h hx)
  inj := fun x y hx hy e => by
    have e := tw_inj e
    rw [← fn_bk h hx, e, fn_bk h hy]
theorem isP_turns {ns : List Nat} (h : IsP ns) (hN : ns.length % 2 = 0) : IsP (turns ns) := by
  have e : turns ns = (List.range ns.length).map (fun x => tw (bk ns x)) := by
    unfold turns prevs
    rw [List.map_map]
    rfl
  rw [e]
  exact isP_of (pf_turn h hN)
end Hm
namespace Hm
open PySem PySem.Spec PyProof.Rows L2 Evl
/-! ### short names of what operators ask -/
abbrev iI (g : Int → Int → Int) : R2 := rI0 fun i j => .int (g i j)
abbrev iB (g : Int → Int → Bool) : R2 := rI0 fun i j => .bl (g i j)
abbrev zAdd : R2 := iI fun i j => i + j
abbrev zSub : R2 := iI fun i j => i - j
abbrev zMul : R2 := rI CMul fun i j => .int (i * j)
abbrev zDiv : R2 := rI CDivN fun i j => .int (i.fdiv j)
abbrev zMod : R2 := rI (fun _ j => j ≠ 0) fun i j => .int (i.fmod j)
abbrev zPow : R2 := rI CPow fun i j => .int (i ^ j.toNat)
abbrev zXor : R2 := iI fun i j => Builtin.bitXor i j
abbrev zLt : R2 := iB fun i j => decide (i < j)
abbrev zLe : R2 := iB fun i j => decide (i ≤ j)
abbrev zGt : R2 := iB fun i j => decide (j < i)
abbrev zGe : R2 := iB fun i j => decide (j ≤ i)
abbrev zNeg : V → Hp → VK → Prop := rU fun i => .int (-i)
abbrev CR1 := List V → Hp → VK → Prop
abbrev cInt : CR1 := fun vs H K => (∃ i : Int, vs = [V.int i] ∧ K (V.int i) H) ∨ (∃ b : Bool, vs = [V.bl b] ∧ K (V.int (if b then 1 else 0)) H)
abbrev cAbs : CR1 := fun vs H K => ∃ i : Int, vs = [V.int i] ∧ K (V.int (if i < 0 then -i else i)) H
abbrev cLen (F : PySem.W.Frag) : CR1 := fun vs H K => ∃ (p : Addr) (ys : List V), vs = [V.ref p] ∧ (SqL F H p ys ∨ SqT F H p ys) ∧ K (V.int ys.length) H
abbrev cList (F : PySem.W.Frag) : CR1 := fun vs H K => ∃ (p : Addr) (ys : List V), vs = [V.ref p] ∧ (SqL F H p ys ∨ SqT F H p ys) ∧ ∀ l, H l = none → K (V.ref l) (upd H l (.lst ys))
/-- what the written part says of the class Mesh -/
structure KF (K : PySem.W.Frag) : Prop where
  cl : Cls K (He.ga K "Mesh")
  n1 : NoAttr K (He.ga K "Mesh") "_nexts"
  n2 : NoAttr K (He.ga K "Mesh") "_prevs"
  n3 : NoAttr K (He.ga K "Mesh") "_turns"
end Hm
namespace Hm
open PySem PySem.Spec PyProof.Rows L2 Evl
/-! ### lists of numbers as values and as data -/
abbrev vi (n : Nat) : V := .int (n : Int)
def L (ns : List Nat) : List V := ns.map vi
theorem L_len (ns : List Nat) : (L ns).length = ns.length := by unfold L; rw [List.length_map]
theorem L_get {ns : List Nat} {i : Nat} (h : i < ns.length) : (L ns)[i]? = some (vi (fn ns i)) := by
  unfold L
  rw [List.getElem?_map, fn_get h]
  rfl
theorem L_at {ns : List Nat} {i : Nat} (h : i < ns.length) : atI (L ns) ((i : Nat) : Int) = some (vi (fn ns i)) := atI_nat (L_get h)
theorem L_app (a b : List Nat) : L (a ++ b) = L a ++ L b := by unfold L; rw [List.map_append]
theorem L_int (ns : List Nat) : L ns = (ns.map fun n : Nat => (n : Int)).map V.int := by unfold L; rw [List.map_map]; rfl
theorem L_item {ns : List Nat} {i : Nat} {v : V} (h : (L ns)[i]? = some v) : i < ns.length ∧ v = vi (fn ns i) := by
  have h1 : i < ns.length := by
    have := (List.getElem?_eq_some_iff.mp h).1
    rwa [L_len] at this
  rw [L_get h1] at h
  exact ⟨h1, (Option.some.inj h).symm⟩
def dN (ns : List Nat) : PyData := .list (ns.map fun n : Nat => PyData.int (n : Int))
def dNN (xss : List (List Nat)) : PyData := .list (xss.map dN)
theorem dpAll_L {K : PySem.W.Frag} {H : Hp} : ∀ ns : List Nat, DpAll K H (L ns) (ns.map fun n : Nat => PyData.int (n : Int))
  | [] => .nil
  | n :: r => .cons (.int _) (dpAll_L r)
theorem dp_L {K : PySem.W.Frag} {H : Hp} {p : Addr} {ns : List Nat} (h : SqL K H p (L ns)) : Dp K H (.ref p) (dN ns) := Dp.lst h (dpAll_L ns)
theorem lay_ints : ∀ ns : List Nat, PyData.canLayAll0 (ns.map fun n : Nat => PyData.int (n : Int)) = true ∧ PyData.depthAll (ns.map fun n : Nat => PyData.int (n : Int)) = 0
  | [] => ⟨by simp [PyData.canLayAll0], by simp [PyData.depthAll]⟩
  | n :: r => by
    obtain ⟨h1, h2⟩ := lay_ints r
    exact ⟨by simp [PyData.canLayAll0, PyData.canLay0, h1], by simp [PyData.depthAll, PyData.depth, h2]⟩
theorem lay_dN (ns : List Nat) : PyData.canLay0 (dN ns) = true ∧ PyData.depth (dN ns) = 1 := by
  obtain ⟨h1, h2⟩ := lay_ints ns
  unfold dN
  exact ⟨by simp [PyData.canLay0, h1], by simp [PyData.depth, h2]⟩
theorem lay_dNs : ∀ xss : List (List Nat), PyData.canLayAll0 (xss.map dN) = true ∧ PyData.depthAll (xss.map dN) ≤ 1
  | [] => ⟨by simp [PyData.canLayAll0], by simp [PyData.depthAll]⟩
  | n :: r => by
    obtain ⟨h1, h2⟩ := lay_dNs r
    obtain ⟨h3, h4⟩ := lay_dN n
    exact ⟨by simp [PyData.canLayAll0, h1, h3], by simp [PyData.depthAll, h4]; omega⟩
theorem shaped_dN (ns : List Nat) : SeqAt.shaped (dN ns) = true := by
  obtain ⟨h3, h4⟩ := lay_dN ns
  unfold SeqAt.shaped
  rw [h3, h4]
  rfl
theorem shaped_dNN (xss : List (List Nat)) : SeqAt.shaped (dNN xss) = true := by
  obtain ⟨h3, h4⟩ := lay_dNs xss
  unfold SeqAt.shaped dNN
  have e1 : PyData.canLay0 (.list (xss.map dN)) = true := by simp [PyData.canLay0, h3]
  have e2 : PyData.depth (.list (xss.map dN)) ≤ 64 := by simp [PyData.depth]; omega
  rw [e1, decide_eq_true e2]
  rfl
theorem eqv_ints : ∀ ns ms : List Nat, PyData.eqvAll (ns.map fun n : Nat => PyData.int (n : Int)) (ms.map fun n : Nat => PyData.int (n : Int)) = decide (ns = ms)
  | [], [] => by simp [PyData.eqvAll]
  | [], _ :: _ => by simp [PyData.eqvAll]
  | _ :: _, [] => by simp [PyData.eqvAll]
  | n :: r, m :: s => by
    have h := eqv_ints r s
    simp only [List.map_cons, PyData.eqvAll, PyData.eqv, h]
    by_cases e : n = m
    · subst e
      simp
    · have e2 : ((n : Int) == (m : Int)) = false := by
        rw [beq_eq_false_iff_ne]
        omega
      rw [e2]
      simp [e]
theorem eqv_dN (ns ms : List Nat) : PyData.eqv (dN ns) (dN ms) = decide (ns = ms) := by
  unfold dN
  simp only [PyData.eqv]
  exact eqv_ints ns ms
theorem eqv_dNs : ∀ xss yss : List (List Nat), PyData.eqvAll (xss.map dN) (yss.map dN) = decide (xss = yss)
  | [], [] => by simp [PyData.eqvAll]
  | [], _ :: _ => by simp [PyData.eqvAll]
  | _ :: _, [] => by simp [PyData.eqvAll]
  | n :: r, m :: s => by
    have h := eqv_dNs r s
    simp only [List.map_cons, PyData.eqvAll, eqv_dN, h]
    by_cases e : n = m <;> simp [e]
theorem eqv_dNN (xss yss : List (List Nat)) : PyData.eqv (dNN xss) (dNN yss) = decide (xss = yss) := by
  unfold dNN
  simp only [PyData.eqv]
  exact eqv_dNs xss yss
/-! ### new lists of lists -/
theorem paired_imp {α β : Type} {R R' : α → β → Prop} : ∀ {as : List α} {xs : List β}, Paired R as xs → (∀ a x, a ∈ as → R a x → R' a x) → Paired R' as xs
  | _, _, .nil, _ => .nil
  | _, _, .cons r t, f => .cons (f _ _ (List.mem_cons_self ..) r) (paired_imp t fun a x m => f a x (List.mem_cons_of_mem _ m))
theorem paired_snoc {α β : Type} {R : α → β → Prop} : ∀ {as : List α} {xs : List β} {a : α} {x : β}, Paired R as xs → R a x → Paired R (as ++ [a]) (xs ++ [x])
  | _, _, _, _, .nil, h => .cons h .nil
  | _, _, _, _, .cons r t, h => .cons r (paired_snoc t h)
abbrev LA (H : Hp) (as : List Addr) (xss : List (List Nat)) : Prop := Paired (fun a xs => H a = some (.lst (L xs))) as xss
def LL (H : Hp) (p : Addr) (xss : List (List Nat)) : Prop := ∃ as : List Addr, H p = some (.lst (as.map V.ref)) ∧ LA H as xss
def LLn (H0 H : Hp) (p : Addr) (xss : List (List Nat)) : Prop := ∃ as : List Addr, H p = some (.lst (as.map V.ref)) ∧ LA H as xss ∧ ∀ a ∈ as, H0 a = none ∧ a ≠ p
theorem LLn.ll {H0 H : Hp} {p : Addr} {xss : List (List Nat)} (h : LLn H0 H p xss) : LL H p xss := by
  obtain ⟨as, h1, h2, _⟩ := h
  exact ⟨as, h1, h2⟩
theorem LA.ex {H H' : Hp} {as : List Addr} {xss : List (List Nat)} (h : LA H as xss) (e : Ex H H') : LA H' as xss := paired_imp h fun a x _ q => e a _ q
theorem LA.upd {H : Hp} {as : List Addr} {xss : List (List Nat)} {p : Addr} {o : HO} (h : LA H as xss) (e : ∀ a ∈ as, a ≠ p) : LA (upd H p o) as xss := paired_imp h fun a x m q => by
  rw [upd_ne (e a m)]
  exact q
theorem LL.ex {H H' : Hp} {p : Addr} {xss : List (List Nat)} (h : LL H p xss) (e : Ex H H') : LL H' p xss := by
  obtain ⟨as, h1, h2⟩ := h
  exact ⟨as, e _ _ h1, LA.ex h2 e⟩
theorem dpAll_LA {K : PySem.W.Frag} {H : Hp} : ∀ {as : List Addr} {xss : List (List Nat)}, LA H as xss → DpAll K H (as.map V.ref) (xss.map dN)
  | _, _, .nil => .nil
  | _, _, .cons r t => .cons (dp_L (sq_of r)) (dpAll_LA t)
theorem dp_LL {K : PySem.W.Frag} {H : Hp} {p : Addr} {xss : List (List Nat)} (h : LL H p xss) : Dp K H (.ref p) (dNN xss) := by
  obtain ⟨as, h1, h2⟩ := h
  exact Dp.lst (sq_of h1) (dpAll_LA h2)
theorem LA.fresh {H : Hp} {as : List Addr} {xss : List (List Nat)} {p : Addr} (h : LA H as xss) (hp : H p = none) : ∀ a ∈ as, a ≠ p := by
  intro a ha
  have key : ∀ {as : List Addr} {xss : List (List Nat)}, LA H as xss → ∀ a ∈ as, ∃ xs, H a = some (.lst (L xs)) := by
    intro as xss h
    induction h with
    | nil => intro a ha; cases ha
    | cons r t ih =>
      intro a ha
      rcases List.mem_cons.mp ha with rfl | ha
      · exact ⟨_, r⟩
      · exact ih a ha
  obtain ⟨xs, q⟩ := key h a ha
  exact ne_of_none q hp
/-! ### further evaluations -/
section
variable {K : PySem.W.Frag} {σ : L2.St} {H H' : Hp} {ta tb te tx : TE} {t u : TT} {x y z v : V} {r : R2}
theorem et_yes : EvT tYes σ H true := fun H1 _ _ q => q H1 (Ex.refl H1)
theorem ev_cbN {r : CR1} {xs : List V} (h : EvL te σ H xs) (hr : ∀ p H1, H1 p = some (.lst xs) → Ex H H1 → RC r [.ref p] H1 z) : Ev (tCB r (tCons te tNil)) σ H z := fun H1 e Q q =>
  h H1 e _ fun p H2 _ e2 hp => hr p H2 hp (e.trans e2) H2 (Ex.refl H2) Q fun H3 e3 => q H3 (e2.trans e3)
theorem rc_isi {b : Bool} {x c : V} {t u : Value} (hc : ClsV c u) (ht : ∀ H1, Ex H H1 → TyX K H1 x t) (hk : PySem.W.kitOne K t u = some b) : RC (rIsi K) [x, c] H (.bl b) := fun H1 e Q q =>
  ⟨x, c, t, u, b, rfl, hc, ht H1 e, hk, q H1 (Ex.refl H1)⟩
theorem rc_int {i : Int} : RC cInt [.int i] H (.int i) := fun H1 _ _ q => Or.inl ⟨i, rfl, q H1 (Ex.refl H1)⟩
theorem rc_abs {i : Int} : RC cAbs [.int i] H (.int (if i < 0 then -i else i)) := fun H1 _ _ q => ⟨i, rfl, q H1 (Ex.refl H1)⟩
theorem rc_len {p : Addr} {xs : List V} (h : SqL K H p xs) : RC (cLen K) [.ref p] H (.int (xs.length : Int)) := fun H1 e _ q => ⟨p, xs, rfl, Or.inl (ex_l e h), q H1 (Ex.refl H1)⟩
theorem rcl_list {p : Addr} {xs : List V} (h : SqL K H p xs) : RCL (cList K) [.ref p] H xs := fun H1 e _ q => ⟨p, xs, rfl, Or.inl (ex_l e h), fun l hl => q l _ hl (Ex.new hl) upd_same⟩
theorem rc_all {p : Addr} {bs : List Bool} (h : SqL K H p (bs.map V.bl)) : RC (rAll K) [.ref p] H (.bl (bs.all id)) := fun H1 e _ q => ⟨p, bs, rfl, ex_l e h, q H1 (Ex.refl H1)⟩
theorem rc_min {p : Addr} {ns : List Int} {m : Int} (h : SqL K H p (ns.map V.int)) (hn : 0 < ns.length) (hm : ∀ m', m' ∈ ns → (∀ y, y ∈ ns → m' ≤ y) → m' = m) : RC (rMin K) [.ref p] H (.int m) := fun H1 e _ q => ⟨p, ns, rfl, ex_l e h, hn, fun m' a b => by
  rw [hm m' a b]
  exact q H1 (Ex.refl H1)⟩
theorem ea_1 (h : Ev ta σ H x) : EvA (tCons ta tNil) σ H [x] := ea_cons h ea_nil
theorem ea_2 (h : Ev ta σ H x) (h2 : Ev tb σ H y) : EvA (tCons ta (tCons tb tNil)) σ H [x, y] := ea_cons h (ea_cons h2 ea_nil)
theorem rv_eqD {d e : PyData} (hx : Dp K H x d) (hy : Dp K H y e) (h1 : SeqAt.shaped d = true) (h2 : SeqAt.shaped e = true) (mx : ∀ H1, Ex H H1 → Dp K H x d → Dp K H1 x d) (my : ∀ H1, Ex H H1 → Dp K H y e → Dp K H1 y e) : RV (rEqD K) x y H (.bl (PyData.eqv d e)) := fun H1 ex _ q =>
  ⟨d, e, mx H1 ex hx, my H1 ex hy, h1, h2, q H1 (Ex.refl H1)⟩
mutual
theorem dp_ex {H H1 : Hp} (e : Ex H H1) : ∀ {v : V} {d : PyData}, Dp K H v d → Dp K H1 v d
  | _, _, .non => .non
  | _, _, .bl b => .bl b
  | _, _, .int i => .int i
  | _, _, .str x => .str x
  | _, _, .lst h a => .lst (ex_l e h) (dpAll_ex e a)
  | _, _, .tup h a => .tup (ex_t e h) (dpAll_ex e a)
theorem dpAll_ex {H H1 : Hp} (e : Ex H H1) : ∀ {v : List V} {d : List PyData}, DpAll K H v d → DpAll K H1 v d
  | _, _, .nil => .nil
  | _, _, .cons h a => .cons (dp_ex e h) (dpAll_ex e a)
end
theorem rv_eqD' {d e : PyData} (hx : Dp K H x d) (hy : Dp K H y e) (h1 : SeqAt.shaped d = true) (h2 : SeqAt.shaped e = true) : RV (rEqD K) x y H (.bl (PyData.eqv d e)) := fun H1 ex _ q =>
  ⟨d, e, dp_ex ex hx, dp_ex ex hy, h1, h2, q H1 (Ex.refl H1)⟩
theorem rv_neD' {d e : PyData} (hx : Dp K H x d) (hy : Dp K H y e) (h1 : SeqAt.shaped d = true) (h2 : SeqAt.shaped e = true) : RV (rNeD K) x y H (.bl (!PyData.eqv d e)) := fun H1 ex _ q =>
  ⟨d, e, dp_ex ex hx, dp_ex ex hy, h1, h2, q H1 (Ex.refl H1)⟩
theorem rv_eqN {a b : Addr} {ns ms : List Nat} (h1 : SqL K H a (L ns)) (h2 : SqL K H b (L ms)) : RV (rEqD K) (.ref a) (.ref b) H (.bl (decide (ns = ms))) := by
  rw [← eqv_dN]
  exact rv_eqD' (dp_L h1) (dp_L h2) (shaped_dN _) (shaped_dN _)
theorem rv_neN {a b : Addr} {ns ms : List Nat} (h1 : SqL K H a (L ns)) (h2 : SqL K H b (L ms)) : RV (rNeD K) (.ref a) (.ref b) H (.bl (!decide (ns = ms))) := by
  rw [← eqv_dN]
  exact rv_neD' (dp_L h1) (dp_L h2) (shaped_dN _) (shaped_dN _)
theorem rv_eqNN {a b : Addr} {ns ms : List (List Nat)} (h1 : LL H a ns) (h2 : LL H b ms) : RV (rEqD K) (.ref a) (.ref b) H (.bl (decide (ns = ms))) := by
  rw [← eqv_dNN]
  exact rv_eqD' (dp_LL h1) (dp_LL h2) (shaped_dNN _) (shaped_dNN _)
theorem rv_neNN {a b : Addr} {ns ms : List (List Nat)} (h1 : LL H a ns) (h2 : LL H b ms) : RV (rNeD K) (.ref a) (.ref b) H (.bl (!decide (ns = ms))) := by
  rw [← eqv_dNN]
  exact rv_neD' (dp_LL h1) (dp_LL h2) (shaped_dNN _) (shaped_dNN _)
theorem ev_fld {a C dx : Addr} {fs : List (Str × V)} {f : Str} (h : Ev ta σ H (.ref a)) (ho : H a = some (.ins C dx fs)) (hc : Cls K C) (hn : NoAttr K C f) (hl : fs.lookup f = some v) : Ev (tFld K ta f) σ H v := fun H1 e Q q =>
  h H1 e _ fun H2 e2 => ⟨a, C, dx, fs, v, rfl, e2 _ _ (e _ _ ho), hc, hn, hl, q H2 e2⟩
/-- a call of a method that gives a value, a new list -/
theorem ev_meth {a C dx : Addr} {fs : List (Str × V)} {m : Str} {sp : Sp} {ta : TE} {tb : TA} {vs : List V} {E : XK} (h : Ev ta σ H (.ref a)) (ho : H a = some (.ins C dx fs)) (hl : fs.lookup m = none) (ha : EvA tb σ H vs) (hs : SpV sp (.ref a :: vs) H v) : Ev (tMeth C m sp [] E ta tb) σ H v := fun H1 e Q q =>
  h H1 e _ fun H2 e2 => ⟨a, dx, fs, rfl, e2 _ _ (e _ _ ho), hl, ha H2 (e.trans e2) _ fun H3 e3 => by
    have e4 := (e.trans e2).trans e3
    have q2 := hs H3 e4 Q (fun H4 e5 => q H4 ((e2.trans e3).trans e5)) E
    simpa using q2⟩
theorem el_meth {a C dx : Addr} {fs : List (Str × V)} {m : Str} {sp : Sp} {ta : TE} {tb : TA} {vs xs : List V} {E : XK} (h : Ev ta σ H (.ref a)) (ho : H a = some (.ins C dx fs)) (hl : fs.lookup m = none) (ha : EvA tb σ H vs) (hs : SpL sp (.ref a :: vs) H xs) : EvL (tMeth C m sp [] E ta tb) σ H xs := fun H1 e Q q =>
  h H1 e _ fun H2 e2 => ⟨a, dx, fs, rfl, e2 _ _ (e _ _ ho), hl, ha H2 (e.trans e2) _ fun H3 e3 => by
    have e4 := (e.trans e2).trans e3
    have q2 := hs H3 e4 Q (fun p H4 hp e5 h5 => q p H4 (fresh_back (e2.trans e3) hp) ((e2.trans e3).trans e5) h5) E
    simpa using q2⟩
end
/-- all but the object at t is kept -/
def ExO (t : Addr) (H H' : Hp) : Prop := ∀ a o, a ≠ t → H a = some o → H' a = some o
theorem ExO.of {t : Addr} {H H' : Hp} (e : Ex H H') : ExO t H H' := fun a o _ h => e a o h
theorem ExO.refl {t : Addr} {H : Hp} : ExO t H H := fun _ _ _ h => h
theorem ExO.trans {t : Addr} {H H1 H2 : Hp} (a : ExO t H H1) (b : ExO t H1 H2) : ExO t H H2 := fun x o n h => b x o n (a x o n h)
theorem ExO.upd {t : Addr} {H H' : Hp} {o : HO} (a : ExO t H H') : ExO t H (upd H' t o) := fun x o n h => by
  rw [upd_ne n]
  exact a x o n h
theorem ExO.mut {t p : Addr} {H H' : Hp} {o : HO} (a : ExO t H H') (h : H p = none) : ExO t H (L2.upd H' p o) := fun x u n hx => by
  rw [upd_ne (ne_of_none hx h)]
  exact a x u n hx
theorem ExO.mono {t : Addr} {H H' : Hp} (a : ExO t H H') (h : H t = none) : Ex H H' := fun x o hx => a x o (ne_of_none hx h) hx
theorem ExO.sq {K : PySem.W.Frag} {t : Addr} {H H' : Hp} {p : Addr} {xs : List V} (e : ExO t H H') (n : p ≠ t) (h : SqL K H p xs) : SqL K H' p xs := by
  rcases h with h | h
  · rcases h with h | ⟨o, h⟩
    · exact Or.inl (Or.inl (e p _ n h))
    · exact Or.inl (Or.inr ⟨o, e p _ n h⟩)
  · exact Or.inr h
/-- a tape: two numbers, the second one below 2147483647 -/
def Tp (o : Option HO) : Prop := ∃ x y : Int, o = some (.lst [.int x, .int y]) ∧ 0 ≤ x ∧ 0 ≤ y ∧ y < 2147483647
end Hm
/-! len(set(xs)), xs ints of any number -/
namespace Hm
open PySem PySem.Spec PyProof.Rows
def fmI (ns : List Int) (i : Nat) : List Int := PyProof.Rows.firstMet (fun i => ns.getD i 0) i
def cntI (ns : List Int) : Nat := (fmI ns ns.length).length
theorem fmI_succ (ns : List Int) (i : Nat) : fmI ns (i + 1) = if (fmI ns i).any (· == ns.getD i 0) then fmI ns i else fmI ns i ++ [ns.getD i 0] := PyProof.Rows.firstMet_succ _ _
theorem fmI_len (ns : List Int) : ∀ i, (fmI ns i).length ≤ i
  | 0 => Nat.le_refl _
  | i + 1 => by
    have h := fmI_len ns i
    rw [fmI_succ]
    split
    · omega
    · rw [List.length_append]
      show _ + 1 ≤ _
      omega
theorem fmI_full (ns : List Int) : ∀ i, i ≤ ns.length → (fmI ns i).length = i → fmI ns i = ns.take i ∧ (ns.take i).Nodup
  | 0, _, _ => ⟨rfl, List.nodup_nil⟩
  | i + 1, hi, h => by
    rw [fmI_succ] at h ⊢
    have hlt : i < ns.length := hi
    have e1 : ns.getD i 0 = ns[i] := by
      rw [List.getD_eq_getElem?_getD, List.getElem?_eq_getElem hlt] <;> rfl
    have e2 : ns.take (i + 1) = ns.take i ++ [ns[i]] := by
      rw [List.take_add_one, List.getElem?_eq_getElem hlt] <;> rfl
    by_cases hb : (fmI ns i).any (· == ns.getD i 0) = true
    · rw [if_pos hb] at h
      have := fmI_len ns i
      omega
    · rw [if_neg hb] at h ⊢
      rw [List.length_append] at h
      have h2 : [ns.getD i 0].length = 1 := rfl
      obtain ⟨q1, q2⟩ := fmI_full ns i (by omega) (by omega)
      rw [q1, e1, e2]
      refine ⟨rfl, ?_⟩
      refine List.nodup_append.mpr ⟨q2, by simp, fun x hx y hy e => ?_⟩
      have hy := List.mem_singleton.mp hy
      refine hb (List.any_eq_true.mpr ⟨x, by rw [q1]; exact hx, ?_⟩)
      rw [e1, e, hy]
      exact beq_self_eq_true _
theorem cntI_iff (ns : List Int) : cntI ns = ns.length ↔ ns.Nodup := by
  constructor
  · intro h
    have := (fmI_full ns ns.length (Nat.le_refl _) h).2
    rwa [List.take_length] at this
  · intro h
    unfold cntI fmI
    rw [RZ.firstMet_nodup h ns.length (Nat.le_refl _), List.take_length]
namespace PSetI
open PySem PySem.Spec PyProof.Rows L2
def tLenI (K : PySem.W.Frag) (ta : TE) : TE := fun σ H Q => ta σ H fun x H1 => ∃ (l : Addr) (ns : List Int), x = .ref l ∧ SqL K H1 l (ns.map V.int) ∧ ns.length ≤ 4000 ∧ Q (.int (cntI ns : Nat)) H1
theorem pe_lenI {X : Cx} {a : Expr} {ta : TE} {p p2 q pos : Pos} (hc : X.calm = true) (hg : Gl X "len") (hm : X.mg "len" = none) (hg2 : Gl X "set") (hm2 : X.mg "set" = none) (ha : PE X a ta)
    (na : starEach [a] X.env = (false, eval a X.env) :: starEach [] X.env := by rfl) : PE X (.Call (.Name "len" p) [.Call (.Name "set" p2) [a] [] q] [] pos) (tLenI X.K ta) := by
  refine ⟨fun pins s σ H Q I h => ?_⟩
  refine Call_ (ld_blt I hg hm PySem.boot_len ?_)
  refine PyProof.Rows.callWith_builtin1 (PyProof.Rows.args_cons ?_ rfl) rfl rfl
  refine Call_ (ld_blt I hg2 hm2 PyProof.Rows.boot_set ?_)
  refine PyProof.Rows.callWith_type1 (PyProof.Rows.args_cons (thn (ha.run pins s σ H _ I h) fun v s1 ⟨x, H1, I1, r1, q1⟩ => PyProof.Rows.args_nil ?_) na) na rfl
  obtain ⟨l, ns, rfl, hq, hl, q1⟩ := q1
  cases r1
  obtain ⟨its, r, pl, hz⟩ := I1.list hq
  have hlen : its.toArray.size = ns.length := by rw [List.size_toArray, ← r.length, List.length_map]
  refine call_set_list (I1.ok.hd hc) pl.isList (by simpa using RZ.intsAre_vals r) (by rw [hlen]; unfold scanBound; omega) fun h' tk hS hk => ?_
  refine PyProof.Rows.args_nil ?_
  rw [hlen] at hS
  obtain ⟨o, es, ep, t, ho, hex, hd, _, _, _, hf, hn⟩ := hS
  have I2 : Inv X pins σ H1 { s1 with heap := h', toks := tk } := I1.kept fun b o e => hk b o (Heap.lt_size e) e
  have hb := fmI_len ns ns.length
  exact call_len_set ho hex hd hf (by rw [hn]; unfold fmI at hb; omega) ⟨.int (cntI ns : Nat), H1, I2.tok _, ⟨_, by rw [hn]; rfl⟩, q1⟩
end PSetI
end Hm
namespace Hm
open PySem PySem.Spec PyProof.Rows L2 Evl
/-! ### the law's draws -/
def sp_Lpick (K : PySem.W.Frag) : Sp := fun vs H Q _ => ∃ (t : Addr) (m : Int), vs = [.ref t, .int m] ∧ Tp (H t) ∧ 1 ≤ m ∧ m ≤ 1000000 ∧
  ∀ (d : Int) H', 0 ≤ d → d < m → Tp (H' t) → ExO t H H' → Q (.int d) H'
abbrev nm_Lpick : List Str := ["_law_tape_here", "_law_many", "_law_digit", "_law_mixed"]
abbrev pr_Lpick : List Str := ["_law_tape_here", "_law_many"]
def t_Lpick (K : PySem.W.Frag) : TS :=
  (tSeq (tIfS (tTest (tOp zGe (tOp (rIxL K) (tVar 0) (tC (.int 0))) (tOp zPow (tC (.int 10)) (tC (.int 18))))) (tSeq (tAsg (tOp zMod (tCB cInt (tCons (tOp (rIxL K) (tVar 0) (tC (.int 0))) tNil)) (tVar 1)) (gName 2))
      (tSeq (tAsg (tOp zDiv (tOp (rIxL K) (tVar 0) (tC (.int 0))) (tVar 1)) (gSub (tVar 0) (tC (.int 0)) rSetL))
      (tRet (tVar 2)))) tNext)
  (tSeq (tAsg (tOp zMod (tCB cInt (tCons (tOp zAdd (tOp zAdd (tOp zMul (tOp (rIxL K) (tVar 0) (tC (.int 1))) (tC (.int 48271))) (tOp zMul (tOp (rIxL K) (tVar 0) (tC (.int 0))) (tC (.int 69621)))) (tC (.int 11))) tNil)) (tC (.int 2147483647))) (gSub (tVar 0) (tC (.int 1)) rSetL))
  (tSeq (tAsg (tOp zMod (tCB cInt (tCons (tOp zAdd (tOp zAdd (tOp zMul (tOp (rIxL K) (tVar 0) (tC (.int 1))) (tOp (rIxL K) (tVar 0) (tC (.int 1)))) (tOp zMul (tOp (rIxL K) (tVar 0) (tC (.int 1))) (tC (.int 40692)))) (tC (.int 7))) tNil)) (tC (.int 2147483399))) (gName 3))
  (tRet (tOp zMod (tCB cInt (tCons (tOp zDiv (tVar 3) (tC (.int 64))) tNil)) (tVar 1))))))
abbrev Wt_Lpick (K : PySem.W.Frag) (vs : List V) (H : Hp) (Q : VK) : Prop := t_Lpick K { nx := fun _ H' => Q .non H', rt := Q } (start nm_Lpick vs) H
theorem ln_Lpick {K : PySem.W.Frag} (vs : List V) (H : Hp) (Q : VK) (E : XK) (h : sp_Lpick K vs H Q E) : vs.length = pr_Lpick.length := by
  obtain ⟨_, _, rfl, _⟩ := h
  rfl
theorem ev_ix0 {K : PySem.W.Frag} {σ : L2.St} {H : Hp} {t : Addr} {x y : Int} {i : Nat} (hs : σ[i]? = some (some (.ref t))) (h : H t = some (.lst [.int x, .int y])) : Ev (tOp (rIxL K) (tVar i) (tC (.int 0))) σ H (.int x) :=
  ev_op (ev_var hs) ev_c (rv_ixL (sq_of h) rfl)
theorem ev_ix1 {K : PySem.W.Frag} {σ : L2.St} {H : Hp} {t : Addr} {x y : Int} {i : Nat} (hs : σ[i]? = some (some (.ref t))) (h : H t = some (.lst [.int x, .int y])) : Ev (tOp (rIxL K) (tVar i) (tC (.int 1))) σ H (.int y) :=
  ev_op (ev_var hs) ev_c (rv_ixL (sq_of h) rfl)
theorem fmod_pos {a b : Int} (h : 0 < b) : 0 ≤ a.fmod b ∧ a.fmod b < b := ⟨Int.fmod_nonneg_of_pos a h, Int.fmod_lt_of_pos a h⟩
theorem fdiv_nn {a b : Int} (ha : 0 ≤ a) (hb : 0 < b) : 0 ≤ a.fdiv b := Int.fdiv_nonneg ha (Int.le_of_lt hb)
theorem rd_Lpick {K : PySem.W.Frag} (F : KF K) (vs : List V) (H : Hp) (Q : VK) (E : XK) (h : sp_Lpick K vs H Q E) : Wt_Lpick K vs H Q := by
  obtain ⟨t, m, rfl, ⟨x, y, ht, hx, hy, hy2⟩, hm, hm2, k⟩ := h
  show t_Lpick K _ [some (.ref t), some (.int m), none, none] H
  have hm0 : m ≠ 0 := by omega
  refine q_when (b := decide ((10 : Int) ^ (18 : Int).toNat ≤ x)) (et_test (ev_op (ev_ix0 rfl ht) (ev_op ev_c ev_c (rv_I ⟨by decide, by decide, by decide⟩)) rv_I0)) (fun hb H1 e1 => ?_) (fun hb H1 e1 => ?_)
  · have ht1 := e1 _ _ ht
    refine q_asg (ev_op (ev_cb (ea_1 (ev_ix0 rfl ht1)) rc_int) (ev_var rfl) (rv_I hm0)) (fun H2 e2 => ?_)
    have ht2 := e2 _ _ ht1
    refine q_setL (j := 0) ht2 (ev_op (ev_ix0 rfl ht2) (ev_var rfl) (rv_I ⟨hm0, by omega⟩)) (ev_var rfl) ev_c (by show 0 < 2; decide) (fun H3 e3 => ?_)
    refine s_ret (ev_var rfl) (fun H4 e4 => ?_)
    obtain ⟨d1, d2⟩ := fmod_pos (a := x) (b := m) (by omega)
    refine k _ _ d1 d2 ⟨_, _, e4 _ _ upd_same, fdiv_nn hx (by omega), hy, hy2⟩ ?_
    exact ((ExO.of (e1.trans (e2.trans e3))).upd).trans (ExO.of e4)
  · have hb := of_decide_eq_false hb
    have hx2 : x < 1000000000000000000 := by
      have : (10 : Int) ^ (18 : Int).toNat = 1000000000000000000 := by decide
      omega
    have ht1 := e1 _ _ ht
    refine q_setL (j := 1) ht1 (ev_op (ev_cb (ea_1 (ev_op (ev_op (ev_op (ev_ix1 rfl ht1) ev_c (rv_I (Or.inr ⟨by decide, by decide⟩))) (ev_op (ev_ix0 rfl ht1) ev_c (rv_I (Or.inr ⟨by decide, by decide⟩))) rv_I0) ev_c rv_I0)) rc_int) ev_c (rv_I (by decide))) (ev_var rfl) ev_c (by show 1 < 2; decide) (fun H2 e2 => ?_)
    obtain ⟨z1, z2⟩ := fmod_pos (a := y * 48271 + x * 69621 + 11) (b := 2147483647) (by decide)
    have ht2 : (upd H2 t (.lst ([V.int x, V.int y].set 1 (V.int ((y * 48271 + x * 69621 + 11).fmod 2147483647))))) t = some (.lst [.int x, .int ((y * 48271 + x * 69621 + 11).fmod 2147483647)]) := upd_same
    have hz : ∀ z : Int, z = (y * 48271 + x * 69621 + 11).fmod 2147483647 → 0 ≤ z ∧ z < 2147483647 := fun z e => by rw [e]; exact ⟨z1, z2⟩
    revert ht2
    generalize (y * 48271 + x * 69621 + 11).fmod 2147483647 = z at *
    intro ht2
    have hz := hz z rfl
    refine q_asg (ev_op (ev_cb (ea_1 (ev_op (ev_op (ev_op (ev_ix1 rfl ht2) (ev_ix1 rfl ht2) (rv_I (Or.inr ⟨by omega, by omega⟩))) (ev_op (ev_ix1 rfl ht2) ev_c (rv_I (Or.inr ⟨by decide, by decide⟩))) rv_I0) ev_c rv_I0)) rc_int) ev_c (rv_I (by decide))) (fun H3 e3 => ?_)
    refine s_ret (ev_op (ev_cb (ea_1 (ev_op (ev_var rfl) ev_c (rv_I ⟨by decide, by decide⟩))) rc_int) (ev_var rfl) (rv_I hm0)) (fun H4 e4 => ?_)
    obtain ⟨d1, d2⟩ := fmod_pos (a := ((z * z + z * 40692 + 7).fmod 2147483399).fdiv 64) (b := m) (by omega)
    refine k _ _ d1 d2 ⟨x, z, e4 _ _ (e3 _ _ ht2), hx, hz.1, hz.2⟩ ?_
    exact ((ExO.of (e1.trans e2)).upd).trans (ExO.of (e3.trans e4))
def sp_Ltape (K : PySem.W.Frag) : Sp := fun vs H Q _ => ∃ (a : Addr) (zs : List Int) (k : Int), vs = [.ref a, .int k] ∧ SqL K H a (zs.map V.int) ∧ 0 ≤ k ∧ k ≤ 100 ∧
  ∀ p H', H p = none → Tp (H' p) → Ex H H' → Q (.ref p) H'
abbrev nm_Ltape : List Str := ["_law_script", "_law_k", "_law_cell"]
abbrev pr_Ltape : List Str := ["_law_script", "_law_k"]
def t_Ltape (K : PySem.W.Frag) : TS :=
  (tSeq (tAsg (tC (.int 0)) (gName 2))
  (tSeq (tIfS (tTest (tOp (rNeD K) (tVar 0) (tLst tNil))) (tAsg (tOp (rIxL K) (tVar 0) (tOp zMod (tCB cInt (tCons (tVar 1) tNil)) (tCB (cLen K) (tCons (tVar 0) tNil)))) (gName 2)) tNext)
  (tRet (tLst (tCons (tCB cAbs (tCons (tVar 2) tNil)) (tCons (tOp zAdd (tOp zMul (tC (.int 7919)) (tVar 1)) (tC (.int 104729))) tNil))))))
abbrev Wt_Ltape (K : PySem.W.Frag) (vs : List V) (H : Hp) (Q : VK) : Prop := t_Ltape K { nx := fun _ H' => Q .non H', rt := Q } (start nm_Ltape vs) H
theorem ln_Ltape {K : PySem.W.Frag} (vs : List V) (H : Hp) (Q : VK) (E : XK) (h : sp_Ltape K vs H Q E) : vs.length = pr_Ltape.length := by
  obtain ⟨_, _, _, rfl, _⟩ := h
  rfl
theorem dpAll_ints {K : PySem.W.Frag} {H : Hp} : ∀ zs : List Int, DpAll K H (zs.map V.int) (zs.map PyData.int)
  | [] => .nil
  | z :: r => .cons (.int z) (dpAll_ints r)
theorem shaped_ints (zs : List Int) : SeqAt.shaped (.list (zs.map PyData.int)) = true := by
  have h : ∀ zs : List Int, PyData.canLayAll0 (zs.map PyData.int) = true ∧ PyData.depthAll (zs.map PyData.int) = 0 := by
    intro zs
    induction zs with
    | nil => exact ⟨by simp [PyData.canLayAll0], by simp [PyData.depthAll]⟩
    | cons n r ih => exact ⟨by simp [PyData.canLayAll0, PyData.canLay0, ih.1], by simp [PyData.depthAll, PyData.depth, ih.2]⟩
  obtain ⟨h1, h2⟩ := h zs
  have e1 : PyData.canLay0 (.list (zs.map PyData.int)) = true := by simp [PyData.canLay0, h1]
  have e2 : PyData.depth (.list (zs.map PyData.int)) ≤ 64 := by simp [PyData.depth, h2]
  unfold SeqAt.shaped
  rw [e1, decide_eq_true e2]
  rfl
theorem eqv_nil (zs : List Int) : PyData.eqv (.list (zs.map PyData.int)) (.list []) = zs.isEmpty := by
  cases zs <;> simp [PyData.eqv, PyData.eqvAll]
theorem rd_Ltape {K : PySem.W.Frag} (F : KF K) (vs : List V) (H : Hp) (Q : VK) (E : XK) (h : sp_Ltape K vs H Q E) : Wt_Ltape K vs H Q := by
  obtain ⟨a, zs, k, rfl, hS, k0, k1, q⟩ := h
  show t_Ltape K _ [some (.ref a), some (.int k), none] H
  refine q_asg ev_c (fun H1 e1 => ?_)
  have hS1 := ex_l e1 hS
  have fin : ∀ (c : Int) (H2 : Hp), Ex H H2 → tRet (tLst (tCons (tCB cAbs (tCons (tVar 2) tNil)) (tCons (tOp zAdd (tOp zMul (tC (.int 7919)) (tVar 1)) (tC (.int 104729))) tNil))) { nx := fun _ H' => Q .non H', rt := Q } [some (.ref a), some (.int k), some (.int c)] H2 := by
    intro c H2 e2
    refine s_retL (el_lst (ea_2 (ev_cb (ea_1 (ev_var rfl)) rc_abs) (ev_op (ev_op ev_c (ev_var rfl) (rv_I (Or.inl ⟨by decide, by decide⟩))) ev_c rv_I0)) (by show 2 ≤ 100000; decide)) (fun p H3 hp e3 h3 => ?_)
    refine q p H3 (fresh_back e2 hp) ⟨_, _, h3, ?_, by dsimp only; omega, by dsimp only; omega⟩ (e2.trans e3)
    split <;> omega
  refine q_when (b := !zs.isEmpty) (et_test (ev_opL (xs := []) (ev_var rfl) (el_lst ea_nil (Nat.zero_le _)) (fun p H2 hp e2 => ?_))) (fun hb H2 e2 => ?_) (fun hb H2 e2 => ?_)
  · rw [← eqv_nil]
    exact rv_neD' (Dp.lst (ex_l e2 hS1) (dpAll_ints zs)) (Dp.lst (sq_of hp) .nil) (shaped_ints zs) (by decide)
  · have hS2 := ex_l e2 hS1
    have hl : 0 < zs.length := by
      cases zs with
      | nil => cases hb
      | cons z r => exact Nat.succ_pos _
    have hl2 : (zs.map V.int).length = zs.length := List.length_map ..
    obtain ⟨m1, m2⟩ := fmod_pos (a := k) (b := ((zs.map V.int).length : Int)) (by omega)
    have hj : (k.fmod ((zs.map V.int).length : Int)).toNat < zs.length := by omega
    have hat : atI (zs.map V.int) (k.fmod ((zs.map V.int).length : Int)) = some (.int (zs[(k.fmod ((zs.map V.int).length : Int)).toNat]'hj)) := by
      refine at_of (j := (k.fmod ((zs.map V.int).length : Int)).toNat) (by omega) ?_
      rw [List.getElem?_map, List.getElem?_eq_getElem hj]
      rfl
    refine s_asg (ev_op (ev_var rfl) (ev_op (ev_cb (ea_1 (ev_var rfl)) rc_int) (ev_cb (ea_1 (ev_var rfl)) (rc_len hS2)) (rv_I (by omega))) (rv_ixL hS2 hat)) (fun H3 e3 => ?_)
    exact fin _ H3 (e1.trans (e2.trans e3))
  · exact fin 0 H2 (e1.trans e2)
end Hm
namespace Hm
open PySem PySem.Spec PyProof.Rows L2 Evl
section
variable {K : PySem.W.Frag} {σ : L2.St} {H : Hp} {ta tb te : TE} {D : Ends} {tz : TS}
theorem q_asgC {sp : Sp} {E : XK} {ta : TA} {vs : List V} {i : Nat} (h : EvA ta σ H vs) (k : ∀ H1, Ex H H1 → sp vs H1 (fun v H2 => tz D (σ.set i (some v)) H2) E) : tSeq (tAsg (tCall sp [] E ta) (gName i)) tz D σ H :=
  h H (Ex.refl H) _ fun H1 e => by
    show sp (vs ++ []) H1 _ E
    rw [List.append_nil]
    exact k H1 e
theorem s_asgC {sp : Sp} {E : XK} {ta : TA} {vs : List V} {i : Nat} (h : EvA ta σ H vs) (k : ∀ H1, Ex H H1 → sp vs H1 (fun v H2 => D.nx (σ.set i (some v)) H2) E) : tAsg (tCall sp [] E ta) (gName i) D σ H :=
  h H (Ex.refl H) _ fun H1 e => by
    show sp (vs ++ []) H1 _ E
    rw [List.append_nil]
    exact k H1 e
theorem s_retC {sp : Sp} {E : XK} {ta : TA} {vs : List V} (h : EvA ta σ H vs) (k : ∀ H1, Ex H H1 → sp vs H1 D.rt E) : tRet (tCall sp [] E ta) D σ H :=
  h H (Ex.refl H) _ fun H1 e => by
    show sp (vs ++ []) H1 _ E
    rw [List.append_nil]
    exact k H1 e
theorem el_cat {xs ys : List V} (ha : EvL ta σ H xs) (hb : EvL tb σ H ys) (hz : xs.length + ys.length ≤ 100000) : EvL (tOp rCat ta tb) σ H (xs ++ ys) := fun H1 e Q q =>
  ha H1 e _ fun p H2 _ e2 h2 => hb H2 (e.trans e2) _ fun p' H3 _ e3 h3 => ⟨p, p', xs, ys, rfl, rfl, e3 _ _ h2, h3, sz_of hz, fun r hr => q r _ (fresh_back (e2.trans e3) hr) ((e2.trans e3).trans (Ex.new hr)) upd_same⟩
end
theorem given_all (n : Nat) (v : Nat → V) : given n (fun _ => true) v = (List.range n).map v := by
  show ((List.range n).filter fun _ => true).map v = _
  rw [List.filter_eq_self.mpr fun _ _ => rfl]
theorem cut_to {xs : List V} {j : Nat} (h : j ≤ xs.length) : cutV xs none (some (j : Int)) = xs.take j := by
  unfold cutV
  rw [HT.sIx_none, HT.sIx_nat, Nat.min_eq_left h]
  rfl
theorem cut_from {xs : List V} {j : Nat} (h : j ≤ xs.length) : cutV xs (some (j : Int)) none = xs.drop j := by
  unfold cutV
  rw [HT.sIx_none, HT.sIx_nat, Nat.min_eq_left h]
  rw [List.take_of_length_le (by rw [List.length_drop]; exact Nat.le_refl _)]
theorem L_take (ns : List Nat) (j : Nat) : (L ns).take j = L (ns.take j) := by unfold L; rw [List.map_take]
theorem L_drop (ns : List Nat) (j : Nat) : (L ns).drop j = L (ns.drop j) := by unfold L; rw [List.map_drop]
theorem perm_out {l : List Nat} {j : Nat} (h : j < l.length) : (fn l j :: (l.take j ++ l.drop (j + 1))).Perm l := by
  have e : l = l.take j ++ fn l j :: l.drop (j + 1) := by
    have h2 : l.drop j = fn l j :: l.drop (j + 1) := by
      rw [List.drop_eq_getElem_cons h]
      have h3 := fn_get h
      rw [List.getElem?_eq_getElem h] at h3
      rw [Option.some.inj h3]
    rw [← h2, List.take_append_drop]
  have h4 : (l.take j ++ fn l j :: l.drop (j + 1)).Perm (fn l j :: (l.take j ++ l.drop (j + 1))) := List.perm_middle
  rw [← e] at h4
  exact h4.symm

def sp_Lnexts (K : PySem.W.Frag) : Sp := fun vs H Q _ => ∃ (t : Addr) (e : Nat), vs = [.ref t, .int (e : Int)] ∧ Tp (H t) ∧ e ≤ 60 ∧
  ∀ p H' ns, H p = none → H' p = some (.lst (L ns)) → IsP ns → ns.length = 2 * e → Tp (H' t) → ExO t H H' → Q (.ref p) H'
abbrev nm_Lnexts : List Str := ["_law_tape_here", "_law_edges", "_law_k", "_law_left", "_law_nexts_here", "_law_at"]
abbrev pr_Lnexts : List Str := ["_law_tape_here", "_law_edges"]
def t_Lnexts (K : PySem.W.Frag) : TS :=
  (tSeq (tAsg (tLc (iRng1 (tCons (tOp zMul (tC (.int 2)) (tVar 1)) tNil)) (gName 2) tYes (tVar 2) [2]) (gName 3))
  (tSeq (tAsg (tLst tNil) (gName 4))
  (tSeq (tFor (iRng1 (tCons (tOp zMul (tC (.int 2)) (tVar 1)) tNil)) (gName 2) (tSeq (tAsg (tCall (sp_Lpick K) [] E0 (tCons (tVar 0) (tCons (tCB (cLen K) (tCons (tVar 3) tNil)) tNil))) (gName 5))
      (tSeq (tDrop (tBM K "list" rAppend (tVar 4) (tCons (tOp (rIxL K) (tVar 3) (tVar 5)) tNil)))
      (tAsg (tOp rCat (tSl (rSlL K) (tVar 3) tNoPart (tPart (tVar 5))) (tSl (rSlL K) (tVar 3) (tPart (tOp zAdd (tVar 5) (tC (.int 1)))) tNoPart)) (gName 3)))))
  (tRet (tVar 4)))))
abbrev Wt_Lnexts (K : PySem.W.Frag) (vs : List V) (H : Hp) (Q : VK) : Prop := t_Lnexts K { nx := fun _ H' => Q .non H', rt := Q } (start nm_Lnexts vs) H
theorem ln_Lnexts {K : PySem.W.Frag} (vs : List V) (H : Hp) (Q : VK) (E : XK) (h : sp_Lnexts K vs H Q E) : vs.length = pr_Lnexts.length := by
  obtain ⟨_, _, rfl, _⟩ := h
  rfl
theorem tp_ne {H : Hp} {t p : Addr} (h : Tp (H t)) (hp : H p = none) : p ≠ t := by
  obtain ⟨_, _, h, _⟩ := h
  exact (ne_of_none h hp).symm
theorem tp_ex {H H' : Hp} {t : Addr} (h : Tp (H t)) (e : Ex H H') : Tp (H' t) := by
  obtain ⟨x, y, h, r⟩ := h
  exact ⟨x, y, e _ _ h, r⟩
theorem rd_Lnexts {K : PySem.W.Frag} (F : KF K) (vs : List V) (H : Hp) (Q : VK) (E : XK) (h : sp_Lnexts K vs H Q E) : Wt_Lnexts K vs H Q := by
  obtain ⟨t, e, rfl, ht, he, k⟩ := h
  show t_Lnexts K _ [some (.ref t), some (.int (e : Int)), none, none, none, none] H
  have hn : ∀ σ H1, σ[1]? = some (some (V.int (e : Int))) → EvA (tCons (tOp zMul (tC (.int 2)) (tVar 1)) tNil) σ H1 [.int (2 * (e : Int))] := fun σ H1 hs => ea_1 (ev_op ev_c (ev_var hs) (rv_I (Or.inl ⟨by decide, by decide⟩)))
  have h2 : ((2 * (e : Int)).toNat) = 2 * e := by omega
  refine q_asgL (xs := L (List.range (2 * e))) ?_ (fun pl H1 hpl e1 h1 => ?_)
  · have := el_lcR1 (σ := [some (.ref t), some (.int (e : Int)), none, none, none, none]) (H := H) (j := 2) (vs := [2]) (t := tYes) (te := tVar 2) (fun _ => true) (fun i => vi i) (hn _ H rfl) (by omega) (fun _ => rfl) (fun i H1 _ _ => et_yes) (fun i H1 _ _ _ => ev_var rfl)
    rw [given_all, h2] at this
    exact this
  refine q_asgL (el_lst ea_nil (Nat.zero_le _)) (fun pn H2 hpn e2 hp2 => ?_)
  have hpn0 : H pn = none := fresh_back e1 hpn
  have hpt : pn ≠ t := tp_ne ht hpn0
  refine q_forR1 (hn _ _ rfl) (by omega) (fun i σ' H' => ∃ (left done : List Nat) (pl : Addr) (v2 v5 : Option V), σ' = [some (.ref t), some (.int (e : Int)), v2, some (.ref pl), some (.ref pn), v5] ∧
      H' pl = some (.lst (L left)) ∧ H' pn = some (.lst (L done)) ∧ pl ≠ pn ∧ pl ≠ t ∧ Tp (H' t) ∧ ExO t H H' ∧ (done ++ left).Perm (List.range (2 * e)) ∧ done.length = i) ?_ ?_ ?_
  · intro H3 e3
    refine ⟨List.range (2 * e), [], pl, _, _, rfl, e3 _ _ (e2 _ _ h1), e3 _ _ hp2, ne_of_none h1 hpn, tp_ne ht hpl, tp_ex (tp_ex (tp_ex ht e1) e2) e3, ExO.of (e1.trans (e2.trans e3)), ?_, rfl⟩
    exact List.Perm.refl _
  · rintro i σ' H' hi ⟨left, done, pl, v2, v5, rfl, a1, a2, a3, a4, a5, a6, a7, a8⟩
    have hlen : done.length + left.length = 2 * e := by
      have := a7.length_eq
      rw [List.length_append, List.length_range] at this
      exact this
    have hleft : 0 < left.length := by omega
    refine q_asgC (ea_2 (ev_var rfl) (ev_cb (ea_1 (ev_var rfl)) (rc_len (sq_of a1)))) (fun H1 e1 => ?_)
    refine ⟨t, _, rfl, tp_ex a5 e1, by rw [L_len]; omega, by rw [L_len]; omega, fun d H2 d0 d1 t2 x2 => ?_⟩
    have b1 : H2 pl = some (.lst (L left)) := x2 _ _ a4 (e1 _ _ a1)
    have b2 : H2 pn = some (.lst (L done)) := x2 _ _ hpt (e1 _ _ a2)
    rw [L_len] at d1
    obtain ⟨j, rfl⟩ : ∃ j : Nat, d = (j : Int) := ⟨d.toNat, by omega⟩
    have hj : j < left.length := by omega
    have hx2 : ExO t H H2 := a6.trans ((ExO.of e1).trans x2)
    refine q_app b2 (ev_var rfl) (ev_op (ev_var rfl) (ev_var rfl) (rv_ixL (sq_of b1) (L_at hj))) (by rw [L_len]; omega) (fun H3 e3 => ?_)
    have c1 : (upd H3 pn (.lst (L done ++ [vi (fn left j)]))) pl = some (.lst (L left)) := by
      rw [upd_ne a3]
      exact e3 _ _ b1
    have el1 := el_sl (K := K) (te := tVar 3) (tl := tNoPart) (th := tPart (tVar 5)) (σ := [some (.ref t), some (.int (e : Int)), some (vi i), some (.ref pl), some (.ref pn), some (vi j)]) (ev_var rfl) eo_none (eo_some (ev_var rfl)) (sq_of c1)
    have el2 := el_sl (K := K) (te := tVar 3) (tl := tPart (tOp zAdd (tVar 5) (tC (.int 1)))) (th := tNoPart) (σ := [some (.ref t), some (.int (e : Int)), some (vi i), some (.ref pl), some (.ref pn), some (vi j)]) (ev_var rfl) (eo_some (ev_op (ev_var rfl) ev_c rv_I0)) eo_none (sq_of c1)
    have ej : ((j : Int) + 1) = ((j + 1 : Nat) : Int) := by omega
    rw [cut_to (by rw [L_len]; omega), L_take] at el1
    simp only [ej] at el2
    rw [cut_from (by rw [L_len]; omega), L_drop] at el2
    refine s_asgL (el_cat el1 el2 (by rw [L_len, L_len, List.length_take, List.length_drop]; omega)) (fun pq H4 hpq e4 h4 => ?_)
    have hq1 : pq ≠ pn := (ne_of_none upd_same hpq).symm
    have t3 : Tp ((upd H3 pn (.lst (L done ++ [vi (fn left j)]))) t) := by
      rw [upd_ne hpt.symm]
      exact tp_ex t2 e3
    have hq2 : pq ≠ t := tp_ne t3 hpq
    refine ⟨left.take j ++ left.drop (j + 1), done ++ [fn left j], pq, _, _, rfl, by rw [h4, L_app], by rw [e4 _ _ upd_same, L_app]; rfl, hq1, hq2, tp_ex t3 e4, ((hx2.trans (ExO.of e3)).mut hpn0).trans (ExO.of e4), ?_, by rw [List.length_append]; show done.length + 1 = i + 1; omega⟩
    refine List.Perm.trans ?_ a7
    rw [List.append_assoc]
    exact List.Perm.append_left _ (perm_out hj)
  · rintro σ' H' ⟨left, done, pl, v2, v5, rfl, a1, a2, a3, a4, a5, a6, a7, a8⟩
    rw [h2] at a8
    have hlen : done.length + left.length = 2 * e := by
      have := a7.length_eq
      rw [List.length_append, List.length_range] at this
      exact this
    have hl0 : left = [] := List.eq_nil_of_length_eq_zero (by omega)
    subst hl0
    rw [List.append_nil] at a7
    refine s_ret (ev_var rfl) (fun H1 e1 => ?_)
    exact k pn H1 done hpn0 (e1 _ _ a2) ⟨by rw [a8]; exact a7⟩ a8 (tp_ex a5 e1) (a6.trans (ExO.of e1))

def sp_Lsize (K : PySem.W.Frag) : Sp := fun vs H Q _ => ∃ t : Addr, vs = [.ref t] ∧ Tp (H t) ∧ ∀ (e : Nat) H', e ≤ 30 → Tp (H' t) → ExO t H H' → Q (.int (e : Int)) H'
abbrev nm_Lsize : List Str := ["_law_tape_here", "_law_choice"]
abbrev pr_Lsize : List Str := ["_law_tape_here"]
def t_Lsize (K : PySem.W.Frag) : TS :=
  (tSeq (tAsg (tCall (sp_Lpick K) [] E0 (tCons (tVar 0) (tCons (tC (.int 32)) tNil))) (gName 1))
  (tSeq (tIfS (tTest (tOp rEq (tVar 1) (tC (.int 0)))) (tRet (tC (.int 30))) tNext)
  (tSeq (tIfS (tTest (tOp zLt (tVar 1) (tC (.int 5)))) (tRet (tCall (sp_Lpick K) [] E0 (tCons (tVar 0) (tCons (tC (.int 13)) tNil)))) tNext)
  (tRet (tCall (sp_Lpick K) [] E0 (tCons (tVar 0) (tCons (tC (.int 8)) tNil)))))))
abbrev Wt_Lsize (K : PySem.W.Frag) (vs : List V) (H : Hp) (Q : VK) : Prop := t_Lsize K { nx := fun _ H' => Q .non H', rt := Q } (start nm_Lsize vs) H
theorem ln_Lsize {K : PySem.W.Frag} (vs : List V) (H : Hp) (Q : VK) (E : XK) (h : sp_Lsize K vs H Q E) : vs.length = pr_Lsize.length := by
  obtain ⟨_, rfl, _⟩ := h
  rfl
theorem rd_Lsize {K : PySem.W.Frag} (F : KF K) (vs : List V) (H : Hp) (Q : VK) (E : XK) (h : sp_Lsize K vs H Q E) : Wt_Lsize K vs H Q := by
  obtain ⟨t, rfl, ht, k⟩ := h
  show t_Lsize K _ [some (.ref t), none] H
  have dr : ∀ (m : Int) σ H2, σ[0]? = some (some (V.ref t)) → 1 ≤ m → m ≤ 30 → Tp (H2 t) → ExO t H H2 → tRet (tCall (sp_Lpick K) [] E0 (tCons (tVar 0) (tCons (tC (.int m)) tNil))) { nx := fun _ H' => Q .non H', rt := Q } σ H2 := by
    intro m σ H2 hs m1 m2 t2 x2
    refine s_retC (ea_2 (ev_var hs) ev_c) (fun H3 e3 => ?_)
    refine ⟨t, m, rfl, tp_ex t2 e3, m1, by omega, fun d H4 d0 d1 t4 x4 => ?_⟩
    obtain ⟨j, rfl⟩ : ∃ j : Nat, d = (j : Int) := ⟨d.toNat, by omega⟩
    exact k j H4 (by omega) t4 (x2.trans ((ExO.of e3).trans x4))
  refine q_asgC (ea_2 (ev_var rfl) ev_c) (fun H1 e1 => ?_)
  refine ⟨t, 32, rfl, tp_ex ht e1, by decide, by decide, fun d H2 d0 d1 t2 x2 => ?_⟩
  have hx2 : ExO t H H2 := (ExO.of e1).trans x2
  refine q_when (b := decide (V.int d = V.int 0)) (et_test (ev_op (ev_var rfl) ev_c (rv_eq rfl))) (fun _ H3 e3 => ?_) (fun _ H3 e3 => ?_)
  · refine s_ret ev_c (fun H4 e4 => ?_)
    exact k 30 H4 (by omega) (tp_ex t2 (e3.trans e4)) (hx2.trans (ExO.of (e3.trans e4)))
  · refine q_when (b := decide (d < 5)) (et_test (ev_op (ev_var rfl) ev_c rv_I0)) (fun _ H4 e4 => ?_) (fun _ H4 e4 => ?_)
    · exact dr 13 _ H4 rfl (by decide) (by decide) (tp_ex t2 (e3.trans e4)) (hx2.trans (ExO.of (e3.trans e4)))
    · exact dr 8 _ H4 rfl (by decide) (by decide) (tp_ex t2 (e3.trans e4)) (hx2.trans (ExO.of (e3.trans e4)))

/-! ### the law's rounds -/
def sp_Ltwin (K : PySem.W.Frag) : Sp := fun vs H Q _ => ∃ h : Nat, vs = [vi h] ∧ ∀ H', Ex H H' → Q (vi (tw h)) H'
abbrev nm_Ltwin : List Str := ["_law_half"]
abbrev pr_Ltwin : List Str := ["_law_half"]
def t_Ltwin (K : PySem.W.Frag) : TS :=
  (tRet (tOp zSub (tOp zAdd (tVar 0) (tC (.int 1))) (tOp zMul (tC (.int 2)) (tOp zMod (tCB cInt (tCons (tVar 0) tNil)) (tC (.int 2))))))
abbrev Wt_Ltwin (K : PySem.W.Frag) (vs : List V) (H : Hp) (Q : VK) : Prop := t_Ltwin K { nx := fun _ H' => Q .non H', rt := Q } (start nm_Ltwin vs) H
theorem ln_Ltwin {K : PySem.W.Frag} (vs : List V) (H : Hp) (Q : VK) (E : XK) (h : sp_Ltwin K vs H Q E) : vs.length = pr_Ltwin.length := by
  obtain ⟨_, rfl, _⟩ := h
  rfl
theorem tw_int (h : Nat) : (h : Int) + 1 - 2 * (h : Int).fmod 2 = ((tw h : Nat) : Int) := by
  rw [Int.fmod_eq_emod_of_nonneg _ (by decide)]
  unfold tw
  split <;> omega
theorem rd_Ltwin {K : PySem.W.Frag} (F : KF K) (vs : List V) (H : Hp) (Q : VK) (E : XK) (h : sp_Ltwin K vs H Q E) : Wt_Ltwin K vs H Q := by
  obtain ⟨h, rfl, k⟩ := h
  show t_Ltwin K _ [some (vi h)] H
  refine s_ret (v := vi (tw h)) (ev_is (ev_op (ev_op (ev_var rfl) ev_c rv_I0) (ev_op ev_c (ev_op (ev_cb (ea_1 (ev_var rfl)) rc_int) ev_c (rv_I (by decide))) (rv_I (Or.inl ⟨by decide, by decide⟩))) rv_I0) (by show V.int ((h : Int) + 1 - 2 * (h : Int).fmod 2) = V.int _; rw [tw_int])) (fun H1 e1 => k H1 e1)
theorem spv_Ltwin {K : PySem.W.Frag} {H : Hp} (h : Nat) : SpV (sp_Ltwin K) [vi h] H (vi (tw h)) := fun H1 _ Q q E => ⟨h, rfl, q⟩

def sp_Lturned (K : PySem.W.Frag) : Sp := fun vs H Q _ => ∃ (a : Addr) (ns : List Nat) (h : Nat), vs = [.ref a, vi h] ∧ SqL K H a (L ns) ∧ IsP ns ∧ ns.length ≤ 1000 ∧ h < ns.length ∧
  ∀ H', Ex H H' → Q (vi (tw (bk ns h))) H'
abbrev nm_Lturned : List Str := ["_law_nexts_here", "_law_half", "_law_k"]
abbrev pr_Lturned : List Str := ["_law_nexts_here", "_law_half"]
def t_Lturned (K : PySem.W.Frag) : TS :=
  (tSeq (tFor (iRng1 (tCons (tCB (cLen K) (tCons (tVar 0) tNil)) tNil)) (gName 2) (tIfS (tTest (tOp rEq (tOp (rIxL K) (tVar 0) (tVar 2)) (tVar 1))) (tRet (tCall (sp_Ltwin K) [] E0 (tCons (tVar 2) tNil))) tNext))
  (tRet (tUn zNeg (tC (.int 1)))))
abbrev Wt_Lturned (K : PySem.W.Frag) (vs : List V) (H : Hp) (Q : VK) : Prop := t_Lturned K { nx := fun _ H' => Q .non H', rt := Q } (start nm_Lturned vs) H
theorem ln_Lturned {K : PySem.W.Frag} (vs : List V) (H : Hp) (Q : VK) (E : XK) (h : sp_Lturned K vs H Q E) : vs.length = pr_Lturned.length := by
  obtain ⟨_, _, _, rfl, _⟩ := h
  rfl
theorem rd_Lturned {K : PySem.W.Frag} (F : KF K) (vs : List V) (H : Hp) (Q : VK) (E : XK) (h : sp_Lturned K vs H Q E) : Wt_Lturned K vs H Q := by
  obtain ⟨a, ns, h, rfl, hS, hP, hl, hh, k⟩ := h
  show t_Lturned K _ [some (.ref a), some (vi h), none] H
  refine q_forR1 (n := (ns.length : Int)) (ea_1 (ev_is (ev_cb (ea_1 (ev_var rfl)) (rc_len hS)) (by rw [L_len]))) (by omega) (fun i σ' H' => ∃ v, σ' = [some (.ref a), some (vi h), v] ∧ Ex H H' ∧ i ≤ bk ns h) ?_ ?_ ?_
  · intro H1 e1
    exact ⟨none, rfl, e1, Nat.zero_le _⟩
  · rintro i σ' H' hi ⟨v, rfl, ex, hb⟩
    have hi' : i < ns.length := by omega
    refine s_when (b := decide (vi (fn ns i) = vi h)) (et_test (ev_op (ev_op (ev_var rfl) (ev_var rfl) (rv_ixL (ex_l ex hS) (L_at hi'))) (ev_var rfl) (rv_eq rfl))) (fun ht H1 e1 => ?_) (fun hf H1 e1 => ?_)
    · have e0 : fn ns i = h := by
        have := of_decide_eq_true ht
        injection this with this
        omega
      have e2 : i = bk ns h := by rw [← e0, bk_fn hP hi']
      refine s_retC (ea_1 (ev_var rfl)) (fun H2 e2' => ?_)
      refine ⟨i, rfl, fun H3 e3 => ?_⟩
      show Q (vi (tw i)) H3
      rw [e2]
      exact k H3 (ex.trans (e1.trans (e2'.trans e3)))
    · refine ⟨_, rfl, ex.trans e1, ?_⟩
      have e0 : i ≠ bk ns h := fun e => by
        refine (of_decide_eq_false hf) ?_
        rw [e, fn_bk hP hh]
      omega
  · rintro σ' H' ⟨v, rfl, ex, hb⟩
    have := bk_lt hP hh
    rw [Int.toNat_natCast] at hb
    omega
theorem spv_Lturned {K : PySem.W.Frag} {H : Hp} {a : Addr} {ns : List Nat} {h : Nat} (hS : SqL K H a (L ns)) (hP : IsP ns) (hl : ns.length ≤ 1000) (hh : h < ns.length) : SpV (sp_Lturned K) [.ref a, vi h] H (vi (tw (bk ns h))) :=
  fun H1 e Q q E => ⟨a, ns, h, rfl, ex_l e hS, hP, hl, hh, q⟩

/-- one step of a face, of a corner -/
def stp (ns : List Nat) (b : Bool) (x : Nat) : Nat := if b then fn ns x else tw (bk ns x)
theorem pf_stp {ns : List Nat} (h : IsP ns) (h2 : ns.length % 2 = 0) (b : Bool) : Pf (stp ns b) ns.length := by
  cases b with
  | true => exact pf_fn h
  | false => exact pf_turn h h2
def sp_Lround (K : PySem.W.Frag) : Sp := fun vs H Q _ => ∃ (a : Addr) (ns : List Nat) (h : Nat) (b : Bool), vs = [.ref a, vi h, .bl b] ∧ SqL K H a (L ns) ∧ IsP ns ∧ ns.length % 2 = 0 ∧ ns.length ≤ 1000 ∧ h < ns.length ∧
  ∀ p H', H p = none → Ex H H' → H' p = some (.lst (L (rnd (stp ns b) ns.length h))) → Q (.ref p) H'
abbrev nm_Lround : List Str := ["_law_nexts_here", "_law_half", "_law_by_face", "_law_found", "_law_after"]
abbrev pr_Lround : List Str := ["_law_nexts_here", "_law_half", "_law_by_face"]
def t_Lround (K : PySem.W.Frag) : TS :=
  (tSeq (tAsg (tLst (tCons (tVar 1) tNil)) (gName 3))
  (tSeq (tAsg (tIf (tB (tVar 2)) (tOp (rIxL K) (tVar 0) (tVar 1)) (tCall (sp_Lturned K) [] E0 (tCons (tVar 0) (tCons (tVar 1) tNil)))) (gName 4))
  (tSeq (tWhile (tAnd (tTest (tOp rNe (tVar 4) (tVar 1))) (tTest (tOp zLe (tCB (cLen K) (tCons (tVar 3) tNil)) (tCB (cLen K) (tCons (tVar 0) tNil))))) (tSeq (tDrop (tBM K "list" rAppend (tVar 3) (tCons (tVar 4) tNil)))
      (tAsg (tIf (tB (tVar 2)) (tOp (rIxL K) (tVar 0) (tVar 4)) (tCall (sp_Lturned K) [] E0 (tCons (tVar 0) (tCons (tVar 4) tNil)))) (gName 4))))
  (tRet (tVar 3)))))
abbrev Wt_Lround (K : PySem.W.Frag) (vs : List V) (H : Hp) (Q : VK) : Prop := t_Lround K { nx := fun _ H' => Q .non H', rt := Q } (start nm_Lround vs) H
theorem ln_Lround {K : PySem.W.Frag} (vs : List V) (H : Hp) (Q : VK) (E : XK) (h : sp_Lround K vs H Q E) : vs.length = pr_Lround.length := by
  obtain ⟨_, _, _, _, rfl, _⟩ := h
  rfl
theorem ev_stp {K : PySem.W.Frag} {σ : L2.St} {H : Hp} {a : Addr} {ns : List Nat} {b : Bool} {i x : Nat} (hS : SqL K H a (L ns)) (hP : IsP ns) (hl : ns.length ≤ 1000) (s0 : σ[0]? = some (some (.ref a))) (s2 : σ[2]? = some (some (.bl b))) (si : σ[i]? = some (some (vi x))) (hx : x < ns.length) :
    Ev (tIf (tB (tVar 2)) (tOp (rIxL K) (tVar 0) (tVar i)) (tCall (sp_Lturned K) [] E0 (tCons (tVar 0) (tCons (tVar i) tNil)))) σ H (vi (stp ns b x)) := by
  refine ev_if (b := b) (et_B (ev_var s2)) (fun hb => ?_) (fun hb => ?_)
  · subst hb
    exact ev_op (ev_var s0) (ev_var si) (rv_ixL hS (L_at hx))
  · subst hb
    exact ev_call (ea_2 (ev_var s0) (ev_var si)) (spv_Lturned hS hP hl hx)
theorem range_map_snoc {α : Type} (f : Nat → α) (k : Nat) : (List.range (k + 1)).map f = (List.range k).map f ++ [f k] := by
  rw [List.range_succ, List.map_append]
  rfl
theorem rd_Lround {K : PySem.W.Frag} (F : KF K) (vs : List V) (H : Hp) (Q : VK) (E : XK) (h : sp_Lround K vs H Q E) : Wt_Lround K vs H Q := by
  obtain ⟨a, ns, h, b, rfl, hS, hP, h2, hl, hh, kk⟩ := h
  show t_Lround K _ [some (.ref a), some (vi h), some (.bl b), none, none] H
  have PF := pf_stp hP h2 b
  obtain ⟨p1, p2, p3⟩ := per_spec PF hh
  have p0 := per_pos (stp ns b) ns.length h
  refine q_asgL (el_lst (ea_1 (ev_var rfl)) (by show 1 ≤ 100000; decide)) (fun p H1 hp e1 h1 => ?_)
  refine q_asg (ev_stp (i := 1) (x := h) (ex_l e1 hS) hP hl rfl rfl rfl hh) (fun H2 e2 => ?_)
  refine q_while (fun m σ' H' => ∃ k, 1 ≤ k ∧ k ≤ per (stp ns b) ns.length h ∧ m = per (stp ns b) ns.length h - k ∧ σ' = [some (.ref a), some (vi h), some (.bl b), some (.ref p), some (vi (itr (stp ns b) k h))] ∧
      H' p = some (.lst (L ((List.range k).map fun j => itr (stp ns b) j h))) ∧ Ex H H') (per (stp ns b) ns.length h - 1) ?_ ?_
  · exact ⟨1, Nat.le_refl _, p0, rfl, rfl, e2 _ _ h1, e1.trans e2⟩
  · rintro m σ' H' ⟨k, k1, k2, rfl, rfl, a1, ex⟩
    refine ⟨_, et_and (et_test (ev_op (ev_var rfl) (ev_var rfl) (rv_ne rfl))) (fun _ => et_test (ev_op (ev_cb (ea_1 (ev_var rfl)) (rc_len (sq_of a1))) (ev_cb (ea_1 (ev_var rfl)) (rc_len (ex_l ex hS))) rv_I0)), fun hb H1 e1 => ?_, fun hb H1 e1 => ?_⟩
    · obtain ⟨b1, b2⟩ := Bool.and_eq_true_iff.mp hb
      have hne : itr (stp ns b) k h ≠ h := fun e => by
        rw [e] at b1
        simp at b1
      have hk : k < per (stp ns b) ns.length h := by
        refine Nat.lt_of_le_of_ne k2 fun e => hne ?_
        rw [e]
        exact p1
      refine ⟨_, fun σ2 H2 hN => ⟨per (stp ns b) ns.length h - (k + 1), by omega, hN⟩, ?_⟩
      refine q_app (e1 _ _ a1) (ev_var rfl) (ev_var rfl) (by rw [L_len, List.length_map, List.length_range]; omega) (fun H2 e2 => ?_)
      have ex2 : Ex H (upd H2 p (.lst (L ((List.range k).map fun j => itr (stp ns b) j h) ++ [vi (itr (stp ns b) k h)]))) := Ex.mut (ex.trans (e1.trans e2)) hp
      refine s_asg (ev_stp (i := 4) (ex_l ex2 hS) hP hl rfl rfl rfl (itr_lt PF hh k)) (fun H3 e3 => ?_)
      refine ⟨k + 1, by omega, by omega, rfl, rfl, ?_, ex2.trans e3⟩
      rw [e3 _ _ upd_same, range_map_snoc, L_app]
      rfl
    · have hk : k = per (stp ns b) ns.length h := by
        refine Classical.byContradiction fun hne => ?_
        have h3 := p3 k (by omega) (by omega)
        have c1 : (!decide (vi (itr (stp ns b) k h) = vi h)) = true := by
          rw [decide_eq_false (fun e => h3 (by injection e with e; omega))]
          rfl
        have c2 : decide (((L ((List.range k).map fun j => itr (stp ns b) j h)).length : Int) ≤ ((L ns).length : Int)) = true := by
          rw [L_len, L_len, List.length_map, List.length_range]
          exact decide_eq_true (by omega)
        have c3 : ((!decide (vi (itr (stp ns b) k h) = vi h)) && decide (((L ((List.range k).map fun j => itr (stp ns b) j h)).length : Int) ≤ ((L ns).length : Int))) = true := by
          rw [c1, c2]
          rfl
        exact Bool.false_ne_true (hb.symm.trans c3)
      refine s_ret (ev_var rfl) (fun H2 e2 => ?_)
      refine kk p H2 hp (ex.trans (e1.trans e2)) ?_
      rw [e2 _ _ (e1 _ _ a1), hk]
      rfl
theorem spl_Lround {K : PySem.W.Frag} {H : Hp} {a : Addr} {ns : List Nat} {h : Nat} {b : Bool} (hS : SqL K H a (L ns)) (hP : IsP ns) (h2 : ns.length % 2 = 0) (hl : ns.length ≤ 1000) (hh : h < ns.length) : SpL (sp_Lround K) [.ref a, vi h, .bl b] H (L (rnd (stp ns b) ns.length h)) :=
  fun H1 e Q q E => ⟨a, ns, h, b, rfl, ex_l e hS, hP, h2, hl, hh, fun p H' hp ex hq => q p H' hp ex hq⟩

def sp_Lrounds (K : PySem.W.Frag) : Sp := fun vs H Q _ => ∃ (a : Addr) (ns : List Nat) (b : Bool), vs = [.ref a, .bl b] ∧ SqL K H a (L ns) ∧ IsP ns ∧ ns.length % 2 = 0 ∧ ns.length ≤ 1000 ∧
  ∀ p H', H p = none → Ex H H' → LLn H H' p (cycs (stp ns b) ns.length ns.length) → Q (.ref p) H'
abbrev nm_Lrounds : List Str := ["_law_nexts_here", "_law_by_face", "_law_found", "_law_half", "_law_members"]
abbrev pr_Lrounds : List Str := ["_law_nexts_here", "_law_by_face"]
def t_Lrounds (K : PySem.W.Frag) : TS :=
  (tSeq (tAsg (tLst tNil) (gName 2))
  (tSeq (tFor (iRng1 (tCons (tCB (cLen K) (tCons (tVar 0) tNil)) tNil)) (gName 3) (tSeq (tAsg (tCall (sp_Lround K) [] E0 (tCons (tVar 0) (tCons (tVar 3) (tCons (tVar 1) tNil)))) (gName 4))
      (tIfS (tTest (tOp rEq (tCB (rMin K) (tCons (tVar 4) tNil)) (tVar 3))) (tDrop (tBM K "list" rAppend (tVar 2) (tCons (tVar 4) tNil))) tNext)))
  (tRet (tVar 2))))
abbrev Wt_Lrounds (K : PySem.W.Frag) (vs : List V) (H : Hp) (Q : VK) : Prop := t_Lrounds K { nx := fun _ H' => Q .non H', rt := Q } (start nm_Lrounds vs) H
theorem ln_Lrounds {K : PySem.W.Frag} (vs : List V) (H : Hp) (Q : VK) (E : XK) (h : sp_Lrounds K vs H Q E) : vs.length = pr_Lrounds.length := by
  obtain ⟨_, _, _, rfl, _⟩ := h
  rfl
theorem rd_Lrounds {K : PySem.W.Frag} (F : KF K) (vs : List V) (H : Hp) (Q : VK) (E : XK) (h : sp_Lrounds K vs H Q E) : Wt_Lrounds K vs H Q := by
  obtain ⟨a, ns, b, rfl, hS, hP, h2, hl, kk⟩ := h
  show t_Lrounds K _ [some (.ref a), some (.bl b), none, none, none] H
  have PF := pf_stp hP h2 b
  refine q_asgL (el_lst ea_nil (Nat.zero_le _)) (fun p H1 hp e1 h1 => ?_)
  refine q_forR1 (n := (ns.length : Int)) (ea_1 (ev_is (ev_cb (ea_1 (ev_var rfl)) (rc_len (ex_l e1 hS))) (by rw [L_len]))) (by omega)
    (fun i σ' H' => ∃ v3 v4 as, σ' = [some (.ref a), some (.bl b), some (.ref p), v3, v4] ∧ Ex H H' ∧ H' p = some (.lst (as.map V.ref)) ∧ LA H' as (cycs (stp ns b) ns.length i) ∧ (∀ x ∈ as, H x = none ∧ x ≠ p) ∧ as.length ≤ i) ?_ ?_ ?_
  · intro H2 e2
    exact ⟨_, _, [], rfl, e1.trans e2, e2 _ _ h1, .nil, fun x hx => (nomatch hx), Nat.le_refl _⟩
  · rintro i σ' H' hi ⟨v3, v4, as, rfl, ex, a1, a2, a3, a4⟩
    have hi' : i < ns.length := by omega
    refine q_asgL (el_call (ea_cons (ev_var rfl) (ea_2 (ev_var rfl) (ev_var rfl))) (spl_Lround (ex_l ex hS) hP h2 hl hi')) (fun pm H2 hpm e2 h2' => ?_)
    have hr0 := per_pos (stp ns b) ns.length i
    have hself := rnd_self PF hi'
    have hne : 0 < (rnd (stp ns b) ns.length i).length := by rw [rnd_length]; exact hr0
    -- the least of the round
    obtain ⟨mm, hm1, hm2⟩ : ∃ mm, mm ∈ rnd (stp ns b) ns.length i ∧ ∀ y ∈ rnd (stp ns b) ns.length i, mm ≤ y := by
      have key : ∀ l : List Nat, l ≠ [] → ∃ mm, mm ∈ l ∧ ∀ y ∈ l, mm ≤ y := by
        intro l
        induction l with
        | nil => intro h; exact absurd rfl h
        | cons x r ih =>
          intro _
          by_cases hr : r = []
          · subst hr
            exact ⟨x, List.mem_cons_self .., fun y hy => by rcases List.mem_cons.mp hy with rfl | hy; exact Nat.le_refl _; cases hy⟩
          · obtain ⟨mm, q1, q2⟩ := ih hr
            by_cases hx : x ≤ mm
            · exact ⟨x, List.mem_cons_self .., fun y hy => by
                rcases List.mem_cons.mp hy with rfl | hy
                · exact Nat.le_refl _
                · exact Nat.le_trans hx (q2 y hy)⟩
            · exact ⟨mm, List.mem_cons_of_mem _ q1, fun y hy => by
                rcases List.mem_cons.mp hy with rfl | hy
                · omega
                · exact q2 y hy⟩
      exact key _ fun e => by rw [e] at hself; cases hself
    have hmin : Ev (tCB (rMin K) (tCons (tVar 4) tNil)) [some (.ref a), some (.bl b), some (.ref p), some (vi i), some (.ref pm)] H2 (vi mm) := by
      refine ev_cb (ea_1 (ev_var rfl)) (rc_min (ns := (rnd (stp ns b) ns.length i).map fun n : Nat => (n : Int)) (by rw [← L_int]; exact sq_of h2') (by rw [List.length_map]; exact hne) fun m' q1 q2 => ?_)
      obtain ⟨z, z1, rfl⟩ := List.mem_map.mp q1
      have := hm2 z z1
      have := q2 (mm : Int) (List.mem_map.mpr ⟨mm, hm1, rfl⟩)
      omega
    refine s_when (b := decide (vi mm = vi i)) (et_test (ev_op hmin (ev_var rfl) (rv_eq rfl))) (fun hb H3 e3 => ?_) (fun hb H3 e3 => ?_)
    · have e0 : mm = i := by
        have := of_decide_eq_true hb
        injection this with this
        omega
      have hmn : isMin (stp ns b) ns.length i = true := isMin_iff.mpr fun y hy => by
        have := hm2 y hy
        omega
      have ex3 := ex.trans (e2.trans e3)
      refine s_app (e3 _ _ (e2 _ _ a1)) (ev_var rfl) (ev_var rfl) (by rw [List.length_map]; omega) (fun H4 e4 => ?_)
      have hpp : pm ≠ p := (ne_of_none a1 hpm).symm
      refine ⟨_, _, as ++ [pm], rfl, Ex.mut (ex3.trans e4) hp, ?_, ?_, fun x hx => ?_, by rw [List.length_append]; show as.length + 1 ≤ i + 1; omega⟩
      · rw [upd_same, List.map_append]
        rfl
      · rw [cycs_yes hmn]
        refine paired_snoc (LA.upd (LA.ex a2 (e2.trans (e3.trans e4))) fun x hx => (a3 x hx).2) ?_
        show upd H4 p _ pm = _
        rw [upd_ne hpp]
        exact e4 _ _ (e3 _ _ h2')
      · rcases List.mem_append.mp hx with hx | hx
        · exact a3 x hx
        · rw [List.mem_singleton.mp hx]
          exact ⟨fresh_back ex hpm, hpp⟩
    · have hmn : ¬ isMin (stp ns b) ns.length i = true := fun hm => by
        refine (of_decide_eq_false hb) ?_
        have h5 := isMin_iff.mp hm mm hm1
        have h6 := hm2 i hself
        have : mm = i := by omega
        rw [this]
      refine ⟨_, _, as, rfl, ex.trans (e2.trans e3), e3 _ _ (e2 _ _ a1), ?_, a3, by omega⟩
      rw [cycs_no hmn]
      exact LA.ex a2 (e2.trans e3)
  · rintro σ' H' ⟨v3, v4, as, rfl, ex, a1, a2, a3, a4⟩
    rw [Int.toNat_natCast] at a2
    refine s_ret (ev_var rfl) (fun H2 e2 => ?_)
    exact kk p H2 hp (ex.trans e2) ⟨as, e2 _ _ a1, LA.ex a2 e2, a3⟩
end Hm
namespace Hm
open PySem PySem.Spec PyProof.Rows L2 Evl
/-! ### the program: what is a mesh -/
def isI : V → Bool
  | .int _ => true
  | _ => false
/-- an int or a bool -/
def IB (v : V) : Prop := (∃ i, v = .int i) ∨ (∃ b, v = .bl b)
def sp_isinteger (K : PySem.W.Frag) : Sp := fun vs H Q _ => ∃ v : V, vs = [v] ∧ IB v ∧ ∀ H', Ex H H' → Q (.bl (isI v)) H'
abbrev nm_isinteger : List Str := ["value"]
abbrev pr_isinteger : List Str := ["value"]
def t_isinteger (K : PySem.W.Frag) : TS :=
  (tRet (tAndV (tCB (rIsi K) (tCons (tVar 0) (tCons (tC (.ty "int")) tNil))) (tNotV (tCB (rIsi K) (tCons (tVar 0) (tCons (tC (.ty "bool")) tNil))))))
abbrev Wt_isinteger (K : PySem.W.Frag) (vs : List V) (H : Hp) (Q : VK) : Prop := t_isinteger K { nx := fun _ H' => Q .non H', rt := Q } (start nm_isinteger vs) H
theorem ln_isinteger {K : PySem.W.Frag} (vs : List V) (H : Hp) (Q : VK) (E : XK) (h : sp_isinteger K vs H Q E) : vs.length = pr_isinteger.length := by
  obtain ⟨_, rfl, _⟩ := h
  rfl
theorem rd_isinteger {K : PySem.W.Frag} (F : KF K) (vs : List V) (H : Hp) (Q : VK) (E : XK) (h : sp_isinteger K vs H Q E) : Wt_isinteger K vs H Q := by
  obtain ⟨v, rfl, hv, k⟩ := h
  show t_isinteger K _ [some v] H
  rcases hv with ⟨i, rfl⟩ | ⟨b, rfl⟩
  · refine s_ret (v := .bl (true && !false)) (ev_andV (ev_cb (ea_2 (ev_var rfl) ev_c) (rc_isi (.ty "int") (fun H1 _ => .base (.int i)) (kit_ty (by decide +kernel)))) (fun _ => ev_notV (ev_cb (ea_2 (ev_var rfl) ev_c) (rc_isi (.ty "bool") (fun H1 _ => .base (.int i)) (kit_ty (by decide +kernel)))))) (fun H1 e1 => k H1 e1)
  · refine s_ret (v := .bl (true && !true)) (ev_andV (ev_cb (ea_2 (ev_var rfl) ev_c) (rc_isi (.ty "int") (fun H1 _ => .base (.bl b)) (kit_ty (by decide +kernel)))) (fun _ => ev_notV (ev_cb (ea_2 (ev_var rfl) ev_c) (rc_isi (.ty "bool") (fun H1 _ => .base (.bl b)) (kit_ty (by decide +kernel)))))) (fun H1 e1 => k H1 e1)
theorem spv_isinteger {K : PySem.W.Frag} {H : Hp} {v : V} (h : IB v) : SpV (sp_isinteger K) [v] H (.bl (isI v)) := fun H1 _ Q q E => ⟨v, rfl, h, q⟩

def dZ (zs : List Int) : PyData := .list (zs.map PyData.int)
theorem eqv_Zs : ∀ zs ys : List Int, PyData.eqvAll (zs.map PyData.int) (ys.map PyData.int) = decide (zs = ys)
  | [], [] => by simp [PyData.eqvAll]
  | [], _ :: _ => by simp [PyData.eqvAll]
  | _ :: _, [] => by simp [PyData.eqvAll]
  | n :: r, m :: s => by
    have h := eqv_Zs r s
    simp only [List.map_cons, PyData.eqvAll, PyData.eqv, h]
    by_cases e : n = m <;> simp [e]
theorem eqv_dZ (zs ys : List Int) : PyData.eqv (dZ zs) (dZ ys) = decide (zs = ys) := by
  unfold dZ
  simp only [PyData.eqv]
  exact eqv_Zs zs ys
theorem rv_eqZ {K : PySem.W.Frag} {H : Hp} {a b : Addr} {ns ms : List Int} (h1 : SqL K H a (ns.map V.int)) (h2 : SqL K H b (ms.map V.int)) : RV (rEqD K) (.ref a) (.ref b) H (.bl (decide (ns = ms))) := by
  rw [← eqv_dZ]
  exact rv_eqD' (Dp.lst h1 (dpAll_ints _)) (Dp.lst h2 (dpAll_ints _)) (shaped_ints _) (shaped_ints _)
theorem el_rg1 {K : PySem.W.Frag} {σ : L2.St} {H : Hp} {te : TE} {n : Nat} (h : Ev te σ H (.int (n : Int))) (hn : n ≤ 100000) : EvL (tLstRg (tRg1 te)) σ H (((List.range n).map fun i : Nat => (i : Int)).map V.int) := fun H1 e Q q =>
  h H1 e _ fun H2 e2 => ⟨(n : Int), rfl, RgOk.of_le (by omega) (by omega) (by omega) (by omega), fun p hp => by
    have e3 : rgV 0 (n : Int) = ((List.range n).map fun i : Nat => (i : Int)).map V.int := by
      unfold rgV
      rw [List.map_map, Int.sub_zero, Int.toNat_natCast]
      refine List.map_congr_left fun i _ => ?_
      show V.int (0 + (i : Int)) = V.int (i : Int)
      rw [Int.zero_add]
    rw [e3]
    exact q p _ (fresh_back e2 hp) (e2.trans (Ex.new hp)) upd_same⟩
section
variable {K : PySem.W.Frag} {σ : L2.St} {H H' : Hp} {ta tb tc te tx : TE} {x y z v : V} {r r' : R2}
theorem ev_chain {a b : Bool} (ha : Ev ta σ H x) (hb : Ev tb σ H y) (hr : RV r x y H (.bl a)) (hc : a = true → Ev tc σ H z) (hr2 : a = true → RV r' y z H (.bl b)) : Ev (tChain r r' ta tb tc) σ H (.bl (a && b)) := fun H1 e Q q =>
  ha H1 e _ fun H2 e2 => hb H2 (e.trans e2) _ fun H3 e3 => hr H3 ((e.trans e2).trans e3) _ fun H4 e4 => ⟨a, rfl, by
    have e5 := ((e.trans e2).trans e3).trans e4
    cases a with
    | false => exact q H4 ((e2.trans e3).trans e4)
    | true => exact hc rfl H4 e5 _ fun H5 e6 => hr2 rfl H5 (e5.trans e6) _ fun H6 e7 => q H6 (((e2.trans e3).trans e4).trans (e6.trans e7))⟩
theorem ev_lenSI {p : Addr} {ns : List Int} (h : Ev ta σ H (.ref p)) (hS : SqL K H p (ns.map V.int)) (hl : ns.length ≤ 4000) : Ev (PSetI.tLenI K ta) σ H (.int (cntI ns : Nat)) := fun H1 e Q q =>
  h H1 e _ fun H2 e2 => ⟨p, ns, rfl, ex_l (e.trans e2) hS, hl, q H2 e2⟩
end
/-- numbers below n, each once -/
def Below (xs : List V) (n : Nat) : Prop := ∃ ns, xs = L ns ∧ ns.Nodup ∧ ∀ x ∈ ns, x < n
def okN (n : Nat) : V → Bool
  | .int i => decide (0 ≤ i) && decide (i < (n : Int))
  | _ => false
theorem okN_ints {n : Nat} : ∀ {xs : List V}, (∀ x ∈ xs, okN n x = true) → ∃ ns : List Nat, xs = L ns ∧ ∀ x ∈ ns, x < n
  | [], _ => ⟨[], rfl, fun _ h => nomatch h⟩
  | x :: r, h => by
    obtain ⟨ns, e, b⟩ := okN_ints (xs := r) fun y hy => h y (List.mem_cons_of_mem _ hy)
    have hx := h x (List.mem_cons_self ..)
    cases x with
    | int i =>
      have hx : (decide (0 ≤ i) && decide (i < (n : Int))) = true := hx
      rw [Bool.and_eq_true] at hx
      have h0 := of_decide_eq_true hx.1
      have h1 := of_decide_eq_true hx.2
      refine ⟨i.toNat :: ns, ?_, fun y hy => ?_⟩
      · rw [e]
        show V.int i :: L ns = V.int ((i.toNat : Nat) : Int) :: L ns
        have e3 : ((i.toNat : Nat) : Int) = i := by omega
        rw [e3]
      · rcases List.mem_cons.mp hy with rfl | hy
        · omega
        · exact b y hy
    | _ => cases hx
theorem okN_L {n : Nat} {ns : List Nat} (h : ∀ x ∈ ns, x < n) : ∀ x ∈ L ns, okN n x = true := by
  intro x hx
  obtain ⟨m, hm, rfl⟩ := List.mem_map.mp hx
  have := h m hm
  show (decide ((0 : Int) ≤ (m : Int)) && decide ((m : Int) < (n : Int))) = true
  rw [decide_eq_true (by omega), decide_eq_true (by omega)]
  rfl
theorem L_inj {a b : List Nat} (h : L a = L b) : a = b := by
  induction a generalizing b with
  | nil => cases b with
    | nil => rfl
    | cons _ _ => cases h
  | cons x r ih => cases b with
    | nil => cases h
    | cons y s =>
      injection h with h1 h2
      injection h1 with h1
      rw [ih h2, show x = y by omega]
theorem nodup_cast {ns : List Nat} : (ns.map fun n : Nat => (n : Int)).Nodup ↔ ns.Nodup := by
  rw [List.nodup_iff_pairwise_ne, List.nodup_iff_pairwise_ne, List.pairwise_map]
  exact ⟨fun h => h.imp fun e q => e (by rw [q]), fun h => h.imp fun e q => e (by omega)⟩
def sp_arehalves (K : PySem.W.Frag) : Sp := fun vs H Q _ => ∃ (a : Addr) (xs : List V) (n : Nat), vs = [.ref a, vi n] ∧ SqL K H a xs ∧ xs.length ≤ 4000 ∧ (∀ x ∈ xs, IB x) ∧
  ∀ b H', (b = true ↔ Below xs n) → Ex H H' → Q (.bl b) H'
abbrev nm_arehalves : List Str := ["numbers", "count", "number"]
abbrev pr_arehalves : List Str := ["numbers", "count"]
def t_arehalves (K : PySem.W.Frag) : TS :=
  (tSeq (tIfS (tNot (tB (tCB (rAll K) (tCons (tLc (iList K (tVar 0)) (gName 2) tYes (tAndV (tCall (sp_isinteger K) [] E0 (tCons (tVar 2) tNil)) (tChain zLe zLt (tC (.int 0)) (tVar 2) (tVar 1))) [2]) tNil)))) (tRet (tC (.bl false))) tNext)
  (tRet (tOp rEq (PSetI.tLenI K (tVar 0)) (tCB (cLen K) (tCons (tVar 0) tNil)))))
abbrev Wt_arehalves (K : PySem.W.Frag) (vs : List V) (H : Hp) (Q : VK) : Prop := t_arehalves K { nx := fun _ H' => Q .non H', rt := Q } (start nm_arehalves vs) H
theorem ln_arehalves {K : PySem.W.Frag} (vs : List V) (H : Hp) (Q : VK) (E : XK) (h : sp_arehalves K vs H Q E) : vs.length = pr_arehalves.length := by
  obtain ⟨_, _, _, rfl, _⟩ := h
  rfl
theorem rd_arehalves {K : PySem.W.Frag} (F : KF K) (vs : List V) (H : Hp) (Q : VK) (E : XK) (h : sp_arehalves K vs H Q E) : Wt_arehalves K vs H Q := by
  obtain ⟨a, xs, n, rfl, hS, hz, hI, k⟩ := h
  show t_arehalves K _ [some (.ref a), some (vi n), none] H
  have hb : ((List.range xs.length).map fun i => okN n (xs.getD i .non)).all id = true ↔ ∀ x ∈ xs, okN n x = true := by
    rw [List.all_eq_true]
    constructor
    · intro h x hx
      obtain ⟨i, hi, e⟩ := List.mem_iff_getElem.mp hx
      have := h (okN n (xs.getD i .non)) (List.mem_map.mpr ⟨i, List.mem_range.mpr hi, rfl⟩)
      rw [List.getD_eq_getElem?_getD, List.getElem?_eq_getElem hi] at this
      rw [← e]
      exact this
    · intro h y hy
      obtain ⟨i, hi, rfl⟩ := List.mem_map.mp hy
      have hi := List.mem_range.mp hi
      show okN n (xs.getD i .non) = true
      rw [List.getD_eq_getElem?_getD, List.getElem?_eq_getElem hi]
      exact h _ (List.getElem_mem hi)
  have hcomp : EvL (tLc (iList K (tVar 0)) (gName 2) tYes (tAndV (tCall (sp_isinteger K) [] E0 (tCons (tVar 2) tNil)) (tChain zLe zLt (tC (.int 0)) (tVar 2) (tVar 1))) [2]) [some (.ref a), some (vi n), none] H (((List.range xs.length).map fun i => okN n (xs.getD i .non)).map V.bl) := by
    have := el_lcL (K := K) (σ := [some (.ref a), some (vi n), none]) (H := H) (j := 2) (vs := [2]) (t := tYes) (tl := tVar 0) (te := tAndV (tCall (sp_isinteger K) [] E0 (tCons (tVar 2) tNil)) (tChain zLe zLt (tC (.int 0)) (tVar 2) (tVar 1))) (fun _ => true) (fun i => .bl (okN n (xs.getD i .non))) (ev_var rfl) hS (by omega) (fun _ => rfl) (fun i x H1 _ _ => et_yes) (fun i x H1 _ hx _ => by
      have e : xs.getD i .non = x := by rw [List.getD_eq_getElem?_getD, hx]; rfl
      rw [e]
      have hib := hI x (List.mem_of_getElem? hx)
      rcases id hib with ⟨z, rfl⟩ | ⟨b, rfl⟩
      · exact ev_is (v := .bl (true && (decide (0 ≤ z) && decide (z < (n : Int))))) (ev_andV (ev_call (ea_1 (ev_var rfl)) (spv_isinteger hib)) (fun _ => ev_chain ev_c (ev_var rfl) rv_I0 (fun _ => ev_var rfl) (fun _ => rv_I0))) (by rw [Bool.true_and]; rfl)
      · exact ev_is (v := .bl (false && false)) (ev_andV (ev_call (ea_1 (ev_var rfl)) (spv_isinteger hib)) (fun hb => nomatch hb)) rfl)
    rw [given_all] at this
    rw [List.map_map]
    exact this
  refine q_when (et_not (et_B (ev_cbN hcomp (fun p H1 hp _ => rc_all (sq_of hp))))) (fun hb1 H1 e1 => ?_) (fun hb1 H1 e1 => ?_)
  · refine s_ret ev_c (fun H2 e2 => k false H2 ⟨fun h => (nomatch h), fun hg => ?_⟩ (e1.trans e2))
    obtain ⟨ns, rfl, _, h2⟩ := hg
    rw [hb.mpr (okN_L h2)] at hb1
    cases hb1
  · have hall : ∀ x ∈ xs, okN n x = true := hb.mp (by
      cases q : ((List.range xs.length).map fun i => okN n (xs.getD i .non)).all id with
      | true => rfl
      | false => rw [q] at hb1; cases hb1)
    obtain ⟨ns, rfl, hlt⟩ := okN_ints hall
    have hS1 := ex_l e1 hS
    have hS2 := hS1
    rw [L_int] at hS2
    rw [L_len] at hz
    refine s_ret (v := .bl (decide (V.int (cntI (ns.map fun n : Nat => (n : Int)) : Nat) = V.int ((L ns).length : Int)))) (ev_op (ev_lenSI (ev_var rfl) hS2 (by rw [List.length_map]; exact hz)) (ev_cb (ea_1 (ev_var rfl)) (rc_len hS1)) (rv_eq rfl)) (fun H2 e2 => ?_)
    refine k _ H2 ?_ (e1.trans e2)
    have hc := cntI_iff (ns.map fun n : Nat => (n : Int))
    rw [List.length_map, nodup_cast] at hc
    rw [decide_eq_true_iff, L_len]
    constructor
    · intro h
      injection h with h
      exact ⟨ns, rfl, hc.mp (by omega), hlt⟩
    · rintro ⟨ms, e, hn, _⟩
      have e := L_inj e
      subst e
      rw [hc.mpr hn]
theorem spv_hT {K : PySem.W.Frag} {H : Hp} {a : Addr} {xs : List V} {n : Nat} (hS : SqL K H a xs) (hl : xs.length ≤ 4000) (hI : ∀ v ∈ xs, IB v) {b : Bool} (h : b = true ↔ Below xs n) : SpV (sp_arehalves K) [.ref a, vi n] H (.bl b) := fun H1 e Q q E =>
  ⟨a, xs, n, rfl, ex_l e hS, hl, hI, fun b' H' hb ex => by
    rw [Bool.eq_iff_iff.mpr (hb.trans h.symm)]
    exact q H' ex⟩
theorem isP_below {ns : List Nat} (hn : ns.Nodup) (h : ∀ x ∈ ns, x < ns.length) : IsP ns := ⟨(List.perm_ext_iff_of_nodup hn List.nodup_range).mpr fun x => by
  rw [List.mem_range]
  refine ⟨h x, fun hx => Classical.byContradiction fun hno => ?_⟩
  have := nodup_le ns.length (x :: ns) (List.nodup_cons.mpr ⟨hno, hn⟩) (fun y hy => by
    rcases List.mem_cons.mp hy with rfl | hy
    · exact hx
    · exact h y hy)
  rw [List.length_cons] at this
  omega⟩
/-- a list of numbers that are the halves of a mesh, each once -/
def Good (xs : List V) : Prop := ∃ ns, xs = L ns ∧ IsP ns ∧ ns.length % 2 = 0
def sp_areallhalves (K : PySem.W.Frag) : Sp := fun vs H Q _ => ∃ (a : Addr) (xs : List V), vs = [.ref a] ∧ SqL K H a xs ∧ xs.length ≤ 4000 ∧ (∀ x ∈ xs, IB x) ∧
  ∀ b H', (b = true ↔ Good xs) → Ex H H' → Q (.bl b) H'
abbrev nm_areallhalves : List Str := ["numbers"]
abbrev pr_areallhalves : List Str := ["numbers"]
def t_areallhalves (K : PySem.W.Frag) : TS :=
  (tRet (tAndV (tOp rEq (tOp zMod (tCB (cLen K) (tCons (tVar 0) tNil)) (tC (.int 2))) (tC (.int 0))) (tCall (sp_arehalves K) [] E0 (tCons (tVar 0) (tCons (tCB (cLen K) (tCons (tVar 0) tNil)) tNil)))))
abbrev Wt_areallhalves (K : PySem.W.Frag) (vs : List V) (H : Hp) (Q : VK) : Prop := t_areallhalves K { nx := fun _ H' => Q .non H', rt := Q } (start nm_areallhalves vs) H
theorem ln_areallhalves {K : PySem.W.Frag} (vs : List V) (H : Hp) (Q : VK) (E : XK) (h : sp_areallhalves K vs H Q E) : vs.length = pr_areallhalves.length := by
  obtain ⟨_, _, rfl, _⟩ := h
  rfl
theorem good_below {xs : List V} : Good xs ↔ xs.length % 2 = 0 ∧ Below xs xs.length := by
  constructor
  · rintro ⟨ns, rfl, hP, h2⟩
    rw [L_len]
    exact ⟨h2, ns, rfl, hP.nodup, fun x hx => hP.mem.mp hx⟩
  · rintro ⟨h2, ns, rfl, hn, h⟩
    rw [L_len] at h2 h
    exact ⟨ns, rfl, isP_below hn h, h2⟩
theorem isI_L (ns : List Nat) : ∀ x ∈ L ns, isI x = true := by
  intro x hx
  obtain ⟨n, _, rfl⟩ := List.mem_map.mp hx
  rfl
theorem ints_of : ∀ {xs : List V}, (∀ x ∈ xs, isI x = true) → ∃ zs : List Int, xs = zs.map V.int
  | [], _ => ⟨[], rfl⟩
  | x :: r, h => by
    obtain ⟨zs, e⟩ := ints_of (xs := r) fun y hy => h y (List.mem_cons_of_mem _ hy)
    have hx := h x (List.mem_cons_self ..)
    cases x with
    | int i => exact ⟨i :: zs, by rw [e]; rfl⟩
    | _ => cases hx
theorem map_int_inj {a b : List Int} (h : a.map V.int = b.map V.int) : a = b := by
  induction a generalizing b with
  | nil => cases b with
    | nil => rfl
    | cons _ _ => cases h
  | cons x r ih => cases b with
    | nil => cases h
    | cons y s =>
      injection h with h1 h2
      injection h1 with h1
      rw [h1, ih h2]
theorem good_ints {zs ns' : List Int} (hp : ns'.Perm zs) (hs : ns'.Pairwise (· ≤ ·)) (h2 : zs.length % 2 = 0) : ns' = (List.range zs.length).map (fun i : Nat => (i : Int)) ↔ Good (zs.map V.int) := by
  constructor
  · intro e
    subst e
    have hz : ∀ z ∈ zs, 0 ≤ z := fun z hz => by
      obtain ⟨i, _, rfl⟩ := List.mem_map.mp (hp.mem_iff.mpr hz)
      omega
    have key : ∀ zs : List Int, (∀ z ∈ zs, 0 ≤ z) → zs = (zs.map Int.toNat).map fun i : Nat => (i : Int) := by
      intro zs
      induction zs with
      | nil => intro _; rfl
      | cons z r ih =>
        intro h
        rw [List.map_cons, List.map_cons, ← ih fun y hy => h y (List.mem_cons_of_mem _ hy)]
        have := h z (List.mem_cons_self ..)
        rw [show (((z.toNat : Nat)) : Int) = z by omega]
    have e := key zs hz
    refine ⟨zs.map Int.toNat, ?_, ⟨?_⟩, by rw [List.length_map]; exact h2⟩
    · rw [L_int, ← e]
    · rw [List.length_map]
      have hq := hp.map Int.toNat
      rw [List.map_map] at hq
      have e3 : (List.range zs.length).map (Int.toNat ∘ fun i : Nat => (i : Int)) = List.range zs.length := by
        rw [List.map_congr_left (g := id) (fun i _ => by show ((i : Nat) : Int).toNat = i; omega), List.map_id]
      rw [e3] at hq
      exact hq.symm
  · rintro ⟨ns, e, hP, _⟩
    rw [L_int] at e
    have e := map_int_inj e
    subst e
    refine List.Perm.eq_of_pairwise (le := (· ≤ ·)) (fun a b _ _ h1 h2 => Int.le_antisymm h1 h2) hs ?_ ?_
    · rw [List.pairwise_map]
      exact List.Pairwise.imp (fun h => by omega) List.pairwise_lt_range
    · rw [List.length_map]
      exact hp.trans (hP.perm.map _)
theorem rcl_sorted {K : PySem.W.Frag} {H : Hp} {a : Addr} {zs : List Int} {r : List Int} (hS : SqL K H a (zs.map V.int)) (hu : ∀ ns' : List Int, ns'.Perm zs → ns'.Pairwise (· ≤ ·) → ns' = r) : RCL (rSortedI K) [.ref a] H (r.map V.int) := fun H1 e Q q =>
  ⟨a, zs, rfl, ex_l e hS, fun ns' p h1 h2 hp => by
    rw [hu ns' h1 h2]
    exact q p _ hp (Ex.new hp) upd_same⟩
theorem sort_ex (zs : List Int) : ∃ r : List Int, r.Perm zs ∧ r.Pairwise (· ≤ ·) ∧ ∀ ns' : List Int, ns'.Perm zs → ns'.Pairwise (· ≤ ·) → ns' = r := by
  refine ⟨zs.mergeSort (fun a b => decide (a ≤ b)), List.mergeSort_perm _ _, ?_, fun ns' h1 h2 => ?_⟩
  · refine List.Pairwise.imp (fun h => of_decide_eq_true h) (List.pairwise_mergeSort (le := fun a b => decide (a ≤ b)) (fun a b c h1 h2 => ?_) (fun a b => ?_) zs)
    · have h1 := of_decide_eq_true h1
      have h2 := of_decide_eq_true h2
      exact decide_eq_true (Int.le_trans h1 h2)
    · rw [Bool.or_eq_true]
      rcases Int.le_total a b with h | h
      · exact .inl (decide_eq_true h)
      · exact .inr (decide_eq_true h)
  · refine List.Perm.eq_of_pairwise (le := (· ≤ ·)) (fun a b _ _ h1 h2 => Int.le_antisymm h1 h2) h2 ?_ (h1.trans (List.mergeSort_perm _ _).symm)
    refine List.Pairwise.imp (fun h => of_decide_eq_true h) (List.pairwise_mergeSort (le := fun a b => decide (a ≤ b)) (fun a b c h1 h2 => ?_) (fun a b => ?_) zs)
    · have h1 := of_decide_eq_true h1
      have h2 := of_decide_eq_true h2
      exact decide_eq_true (Int.le_trans h1 h2)
    · rw [Bool.or_eq_true]
      rcases Int.le_total a b with h | h
      · exact .inl (decide_eq_true h)
      · exact .inr (decide_eq_true h)
theorem rd_areallhalves {K : PySem.W.Frag} (F : KF K) (vs : List V) (H : Hp) (Q : VK) (E : XK) (h : sp_areallhalves K vs H Q E) : Wt_areallhalves K vs H Q := by
  obtain ⟨a, xs, rfl, hS, hz, hI, k⟩ := h
  show t_areallhalves K _ [some (.ref a)] H
  obtain ⟨b, hb⟩ : ∃ b : Bool, b = true ↔ Below xs xs.length := by
    by_cases h : Below xs xs.length
    · exact ⟨true, fun _ => h, fun _ => rfl⟩
    · exact ⟨false, (fun q => nomatch q), fun q => absurd q h⟩
  refine s_ret (v := .bl (decide (V.int ((xs.length : Int).fmod 2) = V.int 0) && b)) (ev_andV (ev_op (ev_op (ev_cb (ea_1 (ev_var rfl)) (rc_len hS)) ev_c (rv_I (by decide))) ev_c (rv_eq rfl)) (fun _ => ev_call (ea_2 (ev_var rfl) (ev_cb (ea_1 (ev_var rfl)) (rc_len hS))) (spv_hT hS hz hI hb))) (fun H1 e1 => k _ H1 ?_ e1)
  rw [good_below, Bool.and_eq_true, hb, decide_eq_true_iff]
  have e : V.int ((xs.length : Int).fmod 2) = V.int 0 ↔ xs.length % 2 = 0 := by
    rw [Int.fmod_eq_emod_of_nonneg _ (by decide)]
    constructor
    · intro h
      injection h with h
      omega
    · intro h
      congr 1
      omega
  rw [e]
end Hm
namespace Hm
open PySem PySem.Spec PyProof.Rows L2 Evl
/-! ### the program: links back, rounds -/
section
variable {K : PySem.W.Frag} {σ : L2.St} {H : Hp} {ta tb te tv tn : TE} {D : Ends} {tz : TS} {y v : V}
theorem replicate_flatten {v : V} : ∀ n : Nat, (List.replicate n [v]).flatten = List.replicate n v
  | 0 => rfl
  | n + 1 => by
    rw [List.replicate_succ, List.flatten_cons, replicate_flatten n, List.replicate_succ]
    rfl
theorem el_rep1 {n : Nat} (hv : Ev tv σ H v) (hn : Ev tn σ H (.int (n : Int))) (hz : n ≤ 100000) : EvL (tOp rRep (tLst (tCons tv tNil)) tn) σ H (List.replicate n v) := fun H1 e Q q =>
  el_lst (ea_1 hv) (by show 1 ≤ 100000; decide) H1 e _ fun p H2 _ e2 h2 => hn H2 (e.trans e2) _ fun H3 e3 => ⟨p, (n : Int), [v], rfl, rfl, e3 _ _ h2, by omega, by omega, sz_of (by show 1 * (n : Int).toNat ≤ 100000; omega), fun r hr => by
    have e4 : (List.replicate ((n : Int).toNat) [v]).flatten = List.replicate n v := by rw [Int.toNat_natCast, replicate_flatten]
    rw [e4]
    exact q r _ (fresh_back (e2.trans e3) hr) ((e2.trans e3).trans (Ex.new hr)) upd_same⟩
theorem q_fld {a C dx : Addr} {fs : List (Str × V)} {f : Str} (hv : Ev tv σ H y) (ha : Ev ta σ H (.ref a)) (ho : H a = some (.ins C dx fs)) (hc : Cls K C) (hn : NoAttr K C f) (hl : fs.length < 1000) (k : ∀ H1, Ex H H1 → tz D σ (upd H1 a (.ins C dx (putF f y fs)))) : tSeq (sFld K ta tv f) tz D σ H :=
  hv H (Ex.refl H) _ fun H1 e1 => ha H1 e1 _ fun H2 e2 => ⟨a, C, dx, fs, rfl, e2 _ _ (e1 _ _ ho), hc, hn, hl, k H2 (e1.trans e2)⟩
theorem q_fldL {a C dx : Addr} {fs : List (Str × V)} {f : Str} {xs : List V} (hv : EvL tv σ H xs) (ha : Ev ta σ H (.ref a)) (ho : H a = some (.ins C dx fs)) (hc : Cls K C) (hn : NoAttr K C f) (hl : fs.length < 1000) (k : ∀ p H1, H p = none → Ex H H1 → H1 p = some (.lst xs) → tz D σ (upd H1 a (.ins C dx (putF f (.ref p) fs)))) : tSeq (sFld K ta tv f) tz D σ H :=
  hv H (Ex.refl H) _ fun p H1 hp e1 h1 => ha H1 e1 _ fun H2 e2 => ⟨a, C, dx, fs, rfl, e2 _ _ (e1 _ _ ho), hc, hn, hl, k p H2 hp (e1.trans e2) (e2 _ _ h1)⟩
theorem s_fldL {a C dx : Addr} {fs : List (Str × V)} {f : Str} {xs : List V} (hv : EvL tv σ H xs) (ha : Ev ta σ H (.ref a)) (ho : H a = some (.ins C dx fs)) (hc : Cls K C) (hn : NoAttr K C f) (hl : fs.length < 1000) (k : ∀ p H1, H p = none → Ex H H1 → H1 p = some (.lst xs) → D.nx σ (upd H1 a (.ins C dx (putF f (.ref p) fs)))) : sFld K ta tv f D σ H :=
  hv H (Ex.refl H) _ fun p H1 hp e1 h1 => ha H1 e1 _ fun H2 e2 => ⟨a, C, dx, fs, rfl, e2 _ _ (e1 _ _ ho), hc, hn, hl, k p H2 hp (e1.trans e2) (e2 _ _ h1)⟩
end
def bkUp (ns : List Nat) (i : Nat) : List Nat := (List.range ns.length).map fun h => if bk ns h < i then bk ns h else 0
theorem bkUp_zero (ns : List Nat) : L (bkUp ns 0) = List.replicate ns.length (.int 0) := by
  unfold L bkUp
  rw [List.map_map]
  refine List.eq_replicate_iff.mpr ⟨by rw [List.length_map, List.length_range], fun b hb => ?_⟩
  obtain ⟨i, _, rfl⟩ := List.mem_map.mp hb
  rfl
theorem bkUp_all {ns : List Nat} (h : IsP ns) : bkUp ns ns.length = prevs ns := by
  unfold bkUp prevs
  refine List.map_congr_left fun x hx => ?_
  rw [if_pos (bk_lt h (List.mem_range.mp hx))]
theorem bkUp_succ {ns : List Nat} (h : IsP ns) {i : Nat} (hi : i < ns.length) : (L (bkUp ns i)).set (fn ns i) (vi i) = L (bkUp ns (i + 1)) := by
  refine List.ext_getElem? fun j => ?_
  have hb : ∀ i, (L (bkUp ns i)).length = ns.length := fun i => by rw [L_len]; unfold bkUp; rw [List.length_map, List.length_range]
  by_cases hj : j < ns.length
  · have gt : ∀ i, (L (bkUp ns i))[j]? = some (vi (if bk ns j < i then bk ns j else 0)) := fun i => by
      unfold L bkUp
      rw [List.map_map, List.getElem?_map, List.getElem?_range hj]
      rfl
    by_cases e : fn ns i = j
    · rw [← e, List.getElem?_set_self (by rw [hb, e]; exact hj), e, gt, ← e, bk_fn h hi, if_pos (by omega)]
    · rw [List.getElem?_set_ne e, gt, gt]
      have hne : bk ns j ≠ i := fun q => e (by rw [← q, fn_bk h hj])
      by_cases q : bk ns j < i
      · rw [if_pos q, if_pos (by omega)]
      · rw [if_neg q, if_neg (by omega)]
  · rw [List.getElem?_eq_none (by rw [List.length_set, hb]; omega), List.getElem?_eq_none (by rw [hb]; omega)]
def sp_inverse (K : PySem.W.Frag) : Sp := fun vs H Q _ => ∃ (a : Addr) (ns : List Nat), vs = [.ref a] ∧ SqL K H a (L ns) ∧ IsP ns ∧ ns.length ≤ 1000 ∧
  ∀ p H', H p = none → Ex H H' → H' p = some (.lst (L (prevs ns))) → Q (.ref p) H'
abbrev nm_inverse : List Str := ["links", "back", "half", "other"]
abbrev pr_inverse : List Str := ["links"]
def t_inverse (K : PySem.W.Frag) : TS :=
  (tSeq (tAsg (tOp rRep (tLst (tCons (tC (.int 0)) tNil)) (tCB (cLen K) (tCons (tVar 0) tNil))) (gName 1))
  (tSeq (tFor (iEnum K (tCons (tVar 0) tNil)) (gTup K 2 (gCons (gName 2) (gCons (gName 3) gNil))) (tAsg (tVar 2) (gSub (tVar 1) (tVar 3) rSetL)))
  (tRet (tVar 1))))
abbrev Wt_inverse (K : PySem.W.Frag) (vs : List V) (H : Hp) (Q : VK) : Prop := t_inverse K { nx := fun _ H' => Q .non H', rt := Q } (start nm_inverse vs) H
theorem ln_inverse {K : PySem.W.Frag} (vs : List V) (H : Hp) (Q : VK) (E : XK) (h : sp_inverse K vs H Q E) : vs.length = pr_inverse.length := by
  obtain ⟨_, _, rfl, _⟩ := h
  rfl
theorem rd_inverse {K : PySem.W.Frag} (F : KF K) (vs : List V) (H : Hp) (Q : VK) (E : XK) (h : sp_inverse K vs H Q E) : Wt_inverse K vs H Q := by
  obtain ⟨a, ns, rfl, hS, hP, hl, k⟩ := h
  show t_inverse K _ [some (.ref a), none, none, none] H
  refine q_asgL (el_rep1 (n := ns.length) ev_c (ev_is (ev_cb (ea_1 (ev_var rfl)) (rc_len hS)) (by rw [L_len])) (by omega)) (fun p H1 hp e1 h1 => ?_)
  rw [← bkUp_zero] at h1
  refine ⟨.ref a, rfl, a, L ns, rfl, ex_l e1 hS, ?_⟩
  refine for_it (walk_enum (xs := L ns)) (fun i σ' H' => ∃ v2 v3, σ' = [some (.ref a), some (.ref p), v2, v3] ∧ Ex H H' ∧ H' p = some (.lst (L (bkUp ns i)))) ⟨_, _, rfl, e1, h1⟩ ?_ ?_ ?_
  · rintro i σ' H' _ ⟨v2, v3, rfl, ex, _⟩
    exact ex_l ex hS
  · rintro i x σ' H2 H3 hi ⟨v2, v3, rfl, ex, hb⟩ ⟨T, x1, x2, rfl, hT, rfl, e2, e3⟩
    rw [L_len] at hi
    have e2 : vi i = x1 := Option.some.inj e2
    have e3 : (L ns)[i]? = some x2 := e3
    rw [L_get hi] at e3
    have e3 := Option.some.inj e3
    subst e2 e3
    have exT : Ex H2 (upd H2 T (.tup [vi i, vi (fn ns i)])) := Ex.new hT
    refine ⟨T, [vi i, vi (fn ns i)], rfl, .inl (.inl upd_same), rfl, vi i, [vi (fn ns i)], rfl, vi (fn ns i), [], rfl, rfl, ?_⟩
    refine s_setL (j := fn ns i) (exT _ _ hb) (ev_var rfl) (ev_var rfl) (ev_var rfl) (by rw [L_len]; unfold bkUp; rw [List.length_map, List.length_range]; exact (pf_fn hP).lt i hi) (fun H4 e4 => ?_)
    refine ⟨_, _, rfl, Ex.mut ((ex.trans exT).trans e4) hp, ?_⟩
    rw [upd_same, bkUp_succ hP hi]
  · rintro σ' H' ⟨v2, v3, rfl, ex, hb⟩
    rw [L_len, bkUp_all hP] at hb
    refine s_ret (ev_var rfl) (fun H2 e2 => k p H2 hp (ex.trans e2) (e2 _ _ hb))
theorem spl_inverse {K : PySem.W.Frag} {H : Hp} {a : Addr} {ns : List Nat} (hS : SqL K H a (L ns)) (hP : IsP ns) (hl : ns.length ≤ 1000) : SpL (sp_inverse K) [.ref a] H (L (prevs ns)) :=
  fun H1 e Q q E => ⟨a, ns, rfl, ex_l e hS, hP, hl, fun p H' hp ex hq => q p H' hp ex hq⟩

def sp_rounds (K : PySem.W.Frag) : Sp := fun vs H Q _ => ∃ (a : Addr) (ns : List Nat), vs = [.ref a] ∧ SqL K H a (L ns) ∧ IsP ns ∧ ns.length ≤ 1000 ∧
  ∀ p H', H p = none → Ex H H' → LLn H H' p (cycs (fn ns) ns.length ns.length) → Q (.ref p) H'
abbrev nm_rounds : List Str := ["links", "found", "seen", "start", "members", "half"]
abbrev pr_rounds : List Str := ["links"]
def t_rounds (K : PySem.W.Frag) : TS :=
  (tSeq (tAsg (tLst tNil) (gName 1))
  (tSeq (tAsg (tOp rRep (tLst (tCons (tC (.bl false)) tNil)) (tCB (cLen K) (tCons (tVar 0) tNil))) (gName 2))
  (tSeq (tFor (iRng1 (tCons (tCB (cLen K) (tCons (tVar 0) tNil)) tNil)) (gName 3) (tIfS (tNot (tB (tOp (rIxL K) (tVar 2) (tVar 3)))) (tSeq (tAsg (tLst tNil) (gName 4))
        (tSeq (tAsg (tVar 3) (gName 5))
        (tSeq (tWhile (tNot (tB (tOp (rIxL K) (tVar 2) (tVar 5)))) (tSeq (tAsg (tC (.bl true)) (gSub (tVar 2) (tVar 5) rSetL))
            (tSeq (tDrop (tBM K "list" rAppend (tVar 4) (tCons (tVar 5) tNil)))
            (tAsg (tOp (rIxL K) (tVar 0) (tVar 5)) (gName 5)))))
        (tDrop (tBM K "list" rAppend (tVar 1) (tCons (tVar 4) tNil)))))) tNext))
  (tRet (tVar 1)))))
abbrev Wt_rounds (K : PySem.W.Frag) (vs : List V) (H : Hp) (Q : VK) : Prop := t_rounds K { nx := fun _ H' => Q .non H', rt := Q } (start nm_rounds vs) H
theorem ln_rounds {K : PySem.W.Frag} (vs : List V) (H : Hp) (Q : VK) (E : XK) (h : sp_rounds K vs H Q E) : vs.length = pr_rounds.length := by
  obtain ⟨_, _, rfl, _⟩ := h
  rfl
theorem bl_get {bs : List Bool} {i : Nat} (h : i < bs.length) : atI (bs.map V.bl) ((i : Nat) : Int) = some (.bl (bs.getD i false)) := by
  refine atI_nat ?_
  rw [List.getElem?_map, List.getD_eq_getElem?_getD, List.getElem?_eq_getElem h]
  rfl
theorem bs_set {bs : List Bool} {i j : Nat} (h : j < bs.length) : (bs.set i true).getD j false = true ↔ bs.getD j false = true ∨ j = i := by
  by_cases e : i = j
  · subst e
    rw [List.getD_eq_getElem?_getD, List.getElem?_set_self h]
    simp
  · rw [List.getD_eq_getElem?_getD, List.getElem?_set_ne e, ← List.getD_eq_getElem?_getD]
    constructor
    · exact .inl
    · rintro (h | h)
      · exact h
      · exact absurd h.symm e
theorem rd_rounds {K : PySem.W.Frag} (F : KF K) (vs : List V) (H : Hp) (Q : VK) (E : XK) (h : sp_rounds K vs H Q E) : Wt_rounds K vs H Q := by
  obtain ⟨a, ns, rfl, hS, hP, hl, kk⟩ := h
  show t_rounds K _ [some (.ref a), none, none, none, none, none] H
  have PF := pf_fn hP
  refine q_asgL (el_lst ea_nil (Nat.zero_le _)) (fun pF H1 hpF e1 h1 => ?_)
  refine q_asgL (el_rep1 (n := ns.length) ev_c (ev_is (ev_cb (ea_1 (ev_var rfl)) (rc_len (ex_l e1 hS))) (by rw [L_len])) (by omega)) (fun pS H2 hpS e2 h2 => ?_)
  have hpS0 : H pS = none := fresh_back e1 hpS
  have hSF : pS ≠ pF := (ne_of_none h1 hpS).symm
  refine q_forR1 (n := (ns.length : Int)) (ea_1 (ev_is (ev_cb (ea_1 (ev_var rfl)) (rc_len (ex_l (e1.trans e2) hS))) (by rw [L_len]))) (by omega)
    (fun i σ' H' => ∃ (v3 v4 v5 : Option V) (as : List Addr) (bs : List Bool), σ' = [some (.ref a), some (.ref pF), some (.ref pS), v3, v4, v5] ∧ Ex H H' ∧ H' pF = some (.lst (as.map V.ref)) ∧ H' pS = some (.lst (bs.map V.bl)) ∧ LA H' as (cycs (fn ns) ns.length i) ∧
      (∀ x ∈ as, H x = none ∧ x ≠ pF ∧ x ≠ pS) ∧ as.length ≤ i ∧ bs.length = ns.length ∧ ∀ j, j < ns.length → (bs.getD j false = true ↔ Sn (fn ns) ns.length i j)) ?_ ?_ ?_
  · intro H3 e3
    refine ⟨_, _, _, [], List.replicate ns.length false, rfl, e1.trans (e2.trans e3), e3 _ _ (e2 _ _ h1), by rw [List.map_replicate]; exact e3 _ _ h2, .nil, fun x hx => (nomatch hx), Nat.le_refl _, List.length_replicate .., fun j hj => ?_⟩
    constructor
    · intro h
      rw [List.getD_eq_getElem?_getD, List.getElem?_replicate] at h
      rw [if_pos hj] at h
      cases h
    · rintro ⟨s, h, _⟩
      exact absurd h (Nat.not_lt_zero _)
  · rintro i σ' H' hi ⟨v3, v4, v5, as, bs, rfl, ex, a1, a2, a3, a4, a5, a6, a7⟩
    have hi' : i < ns.length := by omega
    refine s_when (b := !(bs.getD i false)) (et_not (et_B (ev_op (ev_var rfl) (ev_var rfl) (rv_ixL (sq_of a2) (bl_get (by omega)))))) (fun hb H3 e3 => ?_) (fun hb H3 e3 => ?_)
    · have hns : ¬ Sn (fn ns) ns.length i i := fun h => by
        rw [(a7 i hi').mpr h] at hb
        cases hb
      have hmin : isMin (fn ns) ns.length i = true := by
        refine Classical.byContradiction fun h => hns ((sn_iff_notMin PF hi').mpr h)
      obtain ⟨p1, p2, p3⟩ := per_spec PF hi'
      have p0 := per_pos (fn ns) ns.length i
      refine q_asgL (el_lst ea_nil (Nat.zero_le _)) (fun pM H4 hpM e4 h4 => ?_)
      have hpM0 : H pM = none := fresh_back (ex.trans e3) hpM
      have hMF : pM ≠ pF := (ne_of_none (e3 _ _ a1) hpM).symm
      have hMS : pM ≠ pS := (ne_of_none (e3 _ _ a2) hpM).symm
      have hMa : ∀ x ∈ as, x ≠ pM := LA.fresh (LA.ex a3 e3) hpM
      refine q_asg (ev_var rfl) (fun H5 e5 => ?_)
      refine q_while (fun m σ' H' => ∃ (k : Nat) (bs' : List Bool), k ≤ per (fn ns) ns.length i ∧ m = per (fn ns) ns.length i - k ∧ σ' = [some (.ref a), some (.ref pF), some (.ref pS), some (vi i), some (.ref pM), some (vi (itr (fn ns) k i))] ∧ Ex H H' ∧
        H' pF = some (.lst (as.map V.ref)) ∧ H' pS = some (.lst (bs'.map V.bl)) ∧ H' pM = some (.lst (L ((List.range k).map fun j => itr (fn ns) j i))) ∧ LA H' as (cycs (fn ns) ns.length i) ∧ bs'.length = ns.length ∧
        ∀ j, j < ns.length → (bs'.getD j false = true ↔ Sn (fn ns) ns.length i j ∨ j ∈ (List.range k).map fun j => itr (fn ns) j i)) (per (fn ns) ns.length i) ?_ ?_
      · refine ⟨0, bs, Nat.zero_le _, rfl, rfl, ex.trans (e3.trans (e4.trans e5)), e5 _ _ (e4 _ _ (e3 _ _ a1)), e5 _ _ (e4 _ _ (e3 _ _ a2)), e5 _ _ h4, LA.ex a3 (e3.trans (e4.trans e5)), a6, fun j hj => ?_⟩
        rw [a7 j hj]
        constructor
        · exact .inl
        · rintro (h | h)
          · exact h
          · cases h
      · rintro m σ' H6 ⟨k, bs', k1, rfl, rfl, ex6, b1, b2, b3, b4, b5, b6⟩
        have hlt : itr (fn ns) k i < ns.length := itr_lt PF hi' k
        refine ⟨!(bs'.getD (itr (fn ns) k i) false), et_not (et_B (ev_op (ev_var rfl) (ev_var rfl) (rv_ixL (sq_of b2) (bl_get (by omega))))), fun hb2 H7 e7 => ?_, fun hb2 H7 e7 => ?_⟩
        · have hk : k < per (fn ns) ns.length i := by
            refine Nat.lt_of_le_of_ne k1 fun e => ?_
            have h9 : bs'.getD (itr (fn ns) k i) false = true := (b6 _ hlt).mpr (.inr (by
              rw [e, p1]
              exact List.mem_map.mpr ⟨0, List.mem_range.mpr (by omega), rfl⟩))
            rw [h9] at hb2
            cases hb2
          refine ⟨_, fun σ2 H2 hN => ⟨per (fn ns) ns.length i - (k + 1), by omega, hN⟩, ?_⟩
          refine q_setL (j := itr (fn ns) k i) (e7 _ _ b2) ev_c (ev_var rfl) (ev_var rfl) (by rw [List.length_map]; omega) (fun H8 e8 => ?_)
          have x8 : Ex H (upd H8 pS (.lst ((bs'.map V.bl).set (itr (fn ns) k i) (.bl true)))) := Ex.mut (ex6.trans (e7.trans e8)) hpS0
          have c1 : (upd H8 pS (.lst ((bs'.map V.bl).set (itr (fn ns) k i) (.bl true)))) pM = some (.lst (L ((List.range k).map fun j => itr (fn ns) j i))) := by
            rw [upd_ne hMS]
            exact e8 _ _ (e7 _ _ b3)
          refine q_app c1 (ev_var rfl) (ev_var rfl) (by rw [L_len, List.length_map, List.length_range]; omega) (fun H9 e9 => ?_)
          have x9 : Ex H (upd H9 pM (.lst (L ((List.range k).map fun j => itr (fn ns) j i) ++ [vi (itr (fn ns) k i)]))) := Ex.mut (x8.trans e9) hpM0
          refine s_asg (ev_op (ev_var rfl) (ev_var rfl) (rv_ixL (ex_l x9 hS) (L_at hlt))) (fun H10 e10 => ?_)
          refine ⟨k + 1, bs'.set (itr (fn ns) k i) true, by omega, rfl, rfl, x9.trans e10, ?_, ?_, ?_, ?_, by rw [List.length_set]; exact b5, fun j hj => ?_⟩
          · refine e10 _ _ ?_
            rw [upd_ne hMF.symm]
            refine e9 _ _ ?_
            rw [upd_ne hSF.symm]
            exact e8 _ _ (e7 _ _ b1)
          · refine e10 _ _ ?_
            rw [upd_ne hMS.symm]
            refine e9 _ _ ?_
            rw [upd_same, List.map_set]
          · rw [e10 _ _ upd_same, range_map_snoc, L_app]
            rfl
          · refine LA.ex (LA.upd (LA.ex (LA.upd (LA.ex b4 (e7.trans e8)) fun x hx => (a4 x hx).2.2) e9) hMa) e10
          · rw [bs_set (by omega), b6 j hj, range_map_snoc, List.mem_append, List.mem_singleton]
            constructor
            · rintro ((h | h) | h)
              · exact .inl h
              · exact .inr (.inl h)
              · exact .inr (.inr h)
            · rintro (h | h | h)
              · exact .inl (.inl h)
              · exact .inl (.inr h)
              · exact .inr h
        · have hk : k = per (fn ns) ns.length i := by
            refine Classical.byContradiction fun hne => ?_
            have hkl : k < per (fn ns) ns.length i := by omega
            have h9 : bs'.getD (itr (fn ns) k i) false = true := by
              cases q : bs'.getD (itr (fn ns) k i) false with
              | true => rfl
              | false => rw [q] at hb2; cases hb2
            rcases (b6 _ hlt).mp h9 with h | h
            · exact sn_itr PF hi' hns k h
            · exact rnd_take_nodup PF hi' hkl h
          subst hk
          have x7 := ex6.trans e7
          refine s_app (e7 _ _ b1) (ev_var rfl) (ev_var rfl) (by rw [List.length_map]; omega) (fun H8 e8 => ?_)
          refine ⟨_, _, _, as ++ [pM], bs', rfl, Ex.mut (x7.trans e8) hpF, ?_, ?_, ?_, fun x hx => ?_, by rw [List.length_append]; show as.length + 1 ≤ i + 1; omega, b5, fun j hj => ?_⟩
          · rw [upd_same, List.map_append]
            rfl
          · rw [upd_ne hSF]
            exact e8 _ _ (e7 _ _ b2)
          · rw [cycs_yes hmin]
            refine paired_snoc (LA.upd (LA.ex b4 (e7.trans e8)) fun x hx => (a4 x hx).2.1) ?_
            show upd H8 pF _ pM = _
            rw [upd_ne hMF]
            exact e8 _ _ (e7 _ _ b3)
          · rcases List.mem_append.mp hx with hx | hx
            · exact a4 x hx
            · rw [List.mem_singleton.mp hx]
              exact ⟨hpM0, hMF, hMS⟩
          · rw [b6 j hj, sn_succ hi']
            exact Iff.rfl
    · have hb' : bs.getD i false = true := by
        cases q : bs.getD i false with
        | true => rfl
        | false => rw [q] at hb; cases hb
      have hsn := (a7 i hi').mp hb'
      have hmin : ¬ isMin (fn ns) ns.length i = true := (sn_iff_notMin PF hi').mp hsn
      refine ⟨_, _, _, as, bs, rfl, ex.trans e3, e3 _ _ a1, e3 _ _ a2, ?_, a4, by omega, a6, fun j hj => ?_⟩
      · rw [cycs_no hmin]
        exact LA.ex a3 e3
      · rw [a7 j hj, sn_succ hi']
        constructor
        · exact .inl
        · rintro (h | h)
          · exact h
          · obtain ⟨s, s1, s2, s3⟩ := hsn
            exact ⟨s, s1, s2, rnd_trans PF s2 s3 h⟩
  · rintro σ' H' ⟨v3, v4, v5, as, bs, rfl, ex, a1, a2, a3, a4, a5, a6, a7⟩
    rw [Int.toNat_natCast] at a3
    refine s_ret (ev_var rfl) (fun H2 e2 => ?_)
    exact kk pF H2 hpF (ex.trans e2) ⟨as, e2 _ _ a1, LA.ex a3 e2, fun x hx => ⟨(a4 x hx).1, (a4 x hx).2.1⟩⟩
end Hm
namespace Hm
open PySem PySem.Spec PyProof.Rows L2 Evl
/-! ### own ==, len, in -/
section
variable {X : Cx} {CX : CXT} {n : Nat} {C f : Addr} {fd : FuncData} {ps : List Str} {sp : Sp} {E : XK}
/-- a def of the written part, called somewhere below the running body -/
theorem own_run {A : Around} {pins : List (Addr × Obj)} {σ : L2.St} {H : Hp} {s : Shared} {Q : VK} {us : List Value} {vs : List V} (F : FnOk X.prog X.w X.K X.mg X.base CX n f fd ps sp) (hr : Room n A) (hfr : A.frames = X.A.frames)
    (hb : Binds X.K fd ps []) (hx : Passes CX X E) (I : Inv X pins σ H s) (r : Vals vs us) (h : sp vs H Q E) : wpAny (model X.prog X.w) A (call (.ref f) us) (EP X pins σ Q) X.xe s := by
  have e0 : Env0 X.prog X.w X.K X.mg X.base A X.stack s H := by
    have e := I.env0
    exact ⟨by rw [hfr]; exact e.frames, e.mod, e.bs, e.bsz, e.funs, e.frf, e.hok, e.bare⟩
  have hl := F.len _ _ _ _ h
  have hb2 : BindsTo s fd ⟨us, []⟩ (ps.zip us) := by
    have q := hb s us I.kIn (by rw [List.append_nil, ← r.length]; exact hl)
    rw [List.append_nil] at q
    exact q
  refine wpAny_call (codeAny_mono (F.run A X.stack s H ⟨us, []⟩ us vs Q E hr e0 hb2 r h) fun r s' hq => ?_)
  cases r with
  | error e => exact hx pins σ H s e s' I hq
  | ok fl =>
    cases fl with
    | ret w => exact I.after hq
    | next => exact False.elim hq
    | brk => exact False.elim hq
    | cont => exact False.elim hq
/-- what stands on the right of an own == -/
inductive Rgt (K : PySem.W.Frag) (C : Addr) (H : Hp) : V → Prop where
  | ins {b dx : Addr} {fs : List (Str × V)} (e : H b = some (.ins C dx fs)) : Rgt K C H (.ref b)
  | lst {b : Addr} {xs : List V} (e : H b = some (.lst xs)) (h : PySem.W.subIn K (.type "list") (.ref C) = some false) : Rgt K C H (.ref b)
  | int (i : Int) (h : PySem.W.subIn K (.type "int") (.ref C) = some false) : Rgt K C H (.int i)
theorem rgt_ok {pins : List (Addr × Obj)} {σ : L2.St} {H : Hp} {s : Shared} {y : V} {u : Value} (I : Inv X pins σ H s) (r : RelV y u) (h : Rgt X.K C H y) : ∃ tb, PySem.W.Looks (model X.prog X.w) s.heap (typeOf u) tb ∧ PySem.W.notFirst X.K C tb = true := by
  cases h with
  | ins e =>
    cases r
    obtain ⟨mA, J, _⟩ := ins_get I.hok e
    obtain ⟨od, J, _⟩ := J.look
    exact ⟨_, J.type, by simp [PySem.W.notFirst]⟩
  | lst e h =>
    cases r
    obtain ⟨_, its, k, _, e2⟩ := (show ObjOk X.prog X.w H s.heap _ (.lst _) from I.hok _ _ e)
    exact ⟨.type "list", (PySem.W.Looks.ld e2).andThen .now, by simp [PySem.W.notFirst, h]⟩
  | int i h =>
    obtain ⟨t, rfl⟩ := r
    exact ⟨.type "int", .now, by simp [PySem.W.notFirst, h]⟩
def rOwnEq (K : PySem.W.Frag) (C : Addr) (sp : Sp) (E : XK) : R2 := fun x y H Q => ∃ (a dx : Addr) (fs : List (Str × V)), x = .ref a ∧ H a = some (.ins C dx fs) ∧ Rgt K C H y ∧ sp [.ref a, y] H (fun v H' => ∃ b, v = .bl b ∧ Q (.bl b) H') E
theorem op_own_eq (F : FnOk X.prog X.w X.K X.mg X.base CX n f fd ps sp) (hs : PySem.W.findIn X.K (.ref C) "__eq__" = some (some (.ref f))) (hf : PySem.W.isFn X.K (.ref f) = true) (hb : Binds X.K fd ps []) (hx : Passes CX X E) (hr : Room n X.A) : OpR X (compareOp .Eq) (rOwnEq X.K C sp E) := by
  intro pins s σ H x y v u Q I rx ry hq
  obtain ⟨a, dx, fs, rfl, ha, hg, h⟩ := hq
  cases rx
  obtain ⟨mA, J, _⟩ := ins_get I.hok ha
  obtain ⟨od, J, _⟩ := J.look
  obtain ⟨m, hF⟩ := I.fr
  obtain ⟨tb, l1, l2⟩ := rgt_ok I ry hg
  show wpAny (model X.prog X.w) X.A (richCompare .Eq (.ref a) u) (EP X pins σ Q) X.xe s
  refine PySem.W.cmp_K (op := .Eq) (tb := tb) hr.units0 hF I.ok.mod.kin J l1 l2 hs hf ?_
  refine wpAny_mono (own_run (vs := [V.ref a, y]) F hr rfl hb hx I (.cons (show RelV (V.ref a) (Value.ref a) from rfl) (.cons ry .nil)) h) (fun r s' z => ?_) fun _ _ x => x
  obtain ⟨v', H', I', rv, b, rfl, q⟩ := z
  cases rv
  exact ⟨.bl b, H', I', rfl, q⟩
def rOwnLen (C : Addr) (sp : Sp) (E : XK) : List V → Hp → VK → Prop := fun xs H Q => ∃ (a dx : Addr) (fs : List (Str × V)), xs = [.ref a] ∧ H a = some (.ins C dx fs) ∧ sp [.ref a] H (fun v H' => ∃ k : Nat, v = .int (k : Int) ∧ k < 1000000 ∧ Q (.int (k : Int)) H') E
theorem call_own_len (F : FnOk X.prog X.w X.K X.mg X.base CX n f fd ps sp) (hs : PySem.W.findIn X.K (.ref C) "__len__" = some (some (.ref f))) (hf : PySem.W.isFn X.K (.ref f) = true) (hb : Binds X.K fd ps []) (hx : Passes CX X E) (hr : Room (n + 1) X.A) : CallR X (.builtin "len") (rOwnLen C sp E) := by
  intro pins s σ H xs us Q I r h
  obtain ⟨a, dx, fs, rfl, ha, h⟩ := h
  cases r with
  | cons ra rr =>
    cases rr
    cases ra
    obtain ⟨mA, J, _⟩ := ins_get I.hok ha
    obtain ⟨od, J, _⟩ := J.look
    obtain ⟨m, hF⟩ := I.fr
    refine PySem.W.len_K hF I.ok.mod.kin J hs hf ?_
    refine wpAny_mono (own_run (vs := [V.ref a]) F hr.in1 rfl hb hx I (.cons (show RelV (V.ref a) (Value.ref a) from rfl) .nil) h) (fun r s' z => ?_) fun _ _ x => x
    obtain ⟨v', H', I', rv, k, rfl, hk, q⟩ := z
    obtain ⟨t, rfl⟩ := rv
    exact ⟨⟨by omega, by omega⟩, .int (k : Int), H', I'.tok _, ⟨_, rfl⟩, q⟩
def rOwnIn (C : Addr) (sp : Sp) (E : XK) (neg : Bool) : R2 := fun x y H Q => ∃ (a dx : Addr) (fs : List (Str × V)), y = .ref a ∧ H a = some (.ins C dx fs) ∧ sp [.ref a, x] H (fun v H' => ∃ b, v = .bl b ∧ Q (.bl (if neg then !b else b)) H') E
theorem op_own_in (F : FnOk X.prog X.w X.K X.mg X.base CX n f fd ps sp) (hs : PySem.W.findIn X.K (.ref C) "__contains__" = some (some (.ref f))) (hf : PySem.W.isFn X.K (.ref f) = true) (hb : Binds X.K fd ps []) (hx : Passes CX X E) (hr : Room n X.A) : OpR X (compareOp .In) (rOwnIn C sp E false) := by
  intro pins s σ H x y v u Q I rx ry hq
  obtain ⟨a, dx, fs, rfl, ha, h⟩ := hq
  cases ry
  obtain ⟨mA, J, _⟩ := ins_get I.hok ha
  obtain ⟨od, J, _⟩ := J.look
  obtain ⟨m, hF⟩ := I.fr
  refine PySem.W.in_K hF I.ok.mod.kin J hs hf ?_
  refine wpAny_mono (own_run (vs := [V.ref a, x]) F hr rfl hb hx I (.cons (show RelV (V.ref a) (Value.ref a) from rfl) (.cons rx .nil)) h) (fun r s' z => ?_) fun _ _ x => x
  obtain ⟨v', H', I', rv, b, rfl, q⟩ := z
  cases rv
  exact wpAny_truthy_bool ⟨.bl b, H', I', rfl, q⟩
theorem op_own_notIn (F : FnOk X.prog X.w X.K X.mg X.base CX n f fd ps sp) (hs : PySem.W.findIn X.K (.ref C) "__contains__" = some (some (.ref f))) (hf : PySem.W.isFn X.K (.ref f) = true) (hb : Binds X.K fd ps []) (hx : Passes CX X E) (hr : Room n X.A) : OpR X (compareOp .NotIn) (rOwnIn C sp E true) := by
  intro pins s σ H x y v u Q I rx ry hq
  obtain ⟨a, dx, fs, rfl, ha, h⟩ := hq
  cases ry
  obtain ⟨mA, J, _⟩ := ins_get I.hok ha
  obtain ⟨od, J, _⟩ := J.look
  obtain ⟨m, hF⟩ := I.fr
  refine PySem.W.notIn_K hF I.ok.mod.kin J hs hf ?_
  refine wpAny_mono (own_run (vs := [V.ref a, x]) F hr rfl hb hx I (.cons (show RelV (V.ref a) (Value.ref a) from rfl) (.cons rx .nil)) h) (fun r s' z => ?_) fun _ _ x => x
  obtain ⟨v', H', I', rv, b, rfl, q⟩ := z
  cases rv
  exact wpAny_truthy_bool ⟨.bl (!b), H', I', rfl, q⟩
end
end Hm
namespace Hm
open PySem PySem.Spec PyProof.Rows L2 NdefX
/-! ### own errors whose __init__ begins with super().__init__(text) -/
abbrev VI : String := "ValueError.__init__"
/-- what the written part says of the class at C and of its __init__ at fI -/
structure SupF (P : Program) (K : PySem.W.Frag) (C fI : Addr) (qual : Str) (params : Arguments) (body : List Stmt) (scope : Scope) (fd : FuncData) : Prop where
  fn : ∃ (oc : Value) (od an : Option Addr) (osl : Array (Option Value)) (kV doc pm ct : Value) (cda cc : Addr), fd = PySem.W.fnX "__init__" qual params body scope [("__class__", cc)] .none kV doc pm an (.ref cda) ct ∧ K.lookup fI = some ⟨oc, od, .func fd, osl⟩ ∧
    PySem.W.codeIn K (.ref cda) qual = true ∧ (∃ (ccl : Value) (cdd : Option Addr) (vs : Array Value) (ccs : Array (Option Value)) (file : Str) (tf : Tok), K.lookup cda = some ⟨ccl, cdd, .fields vs, ccs⟩ ∧ vs[2]? = some (.str file tf) ∧ ((P.main.file : Str) == file) = true) ∧
    ∃ (cl : Value) (cld : Option Addr) (csl : Array (Option Value)), K.lookup cc = some ⟨cl, cld, .cell (some (.ref C)), csl⟩
  sub : PySem.W.mroIn K C (.ref C) = some true
  sup : PySem.W.nsIn K mainGlobals "super" = some none
  opq : PySem.W.nsIn K cStatics "thirdparty.any" = some none
  ini : PySem.W.ks_superIn K C C "__init__" = some (some (.builtin VI))
  vB : PySem.W.subIn K (.ref C) (.type "ValueError") = some true
  top : (P.main.scope.names.lookup ("super" : Str)).isSome = false
  oex : OexC K C
theorem cell_ne {K : PySem.W.Frag} {C cc : Addr} {cd : ClassData} {o : Obj} {v : Option Value} (h1 : PySem.W.clsIn K C = some cd) (h2 : K.lookup cc = some o) (h3 : o.data = .cell v) : True := trivial
theorem sup_fn {CX : CXT} {P : Program} {w : World} {K : PySem.W.Frag} {mg : Str → Option Value} {base : Heap} {C fI : Addr} {qual : Str} {params : Arguments} {scope : Scope} {fd : FuncData} {N ps : List Str} {k : Nat} {sp : Sp}
    {e : Expr} {rest : List Stmt} {p0 p1 p2 p3 p4 : Pos} {ar : Arg}
    (SF : SupF P K C fI qual params (.Expr (.Call (.Attribute (.Call (.Name "super" p0) [] [] p1) "__init__" p2) [e] [] p3) p4 :: rest) scope fd)
    (S : NScope N ps ["__class__"] scope) (hp : (params.posonlyargs ++ params.args).head? = some ar) (hN0 : N[0]? = some ar.arg) (hps : 0 < ps.length) (hsl : scope.names.lookup ("super" : Str) = some .globalImplicit)
    (len : ∀ vs H Q E, sp vs H Q E → vs.length = ps.length)
    (hbody : ∀ (F : NF) (A : Around) (outer : List Env) (s : Shared) (H : Hp) (vs : List V) (Q : VK) (E : XK), F.qual = qual → F.scope = scope → Room k (A.deeper (envF F fI s.heap.objs.size)) → sp vs H Q E →
      ∃ (x : Addr) (ta : TA) (t : TS), vs[0]? = some (.ref x) ∧ H x = some (exo x C none) ∧ PA (ncx CX P w K mg base N F fI A outer s H E) [e] ta ∧ PSs (ncx CX P w K mg base N F fI A outer s H E) rest t ∧
        ta (startF N vs [none]) H (fun ws H1 => ws.length ≤ 1000 ∧ H1 x = some (exo x C none) ∧ t { nx := fun _ H' => Q .non H', rt := Q } (startF N vs [none]) H1))
    (hswap : ∀ (env : Env), swapsWith (.Call (.Attribute (.Call (.Name "super" p0) [] [] p1) "__init__" p2) [e] [] p3) none p4.line env = pure false)
    (hstar : ∀ env : Env, starEach [e] env = (false, eval e env) :: starEach [] env)
    (hev : ∀ env : Env, ∃ pl : Sem Bool, eval (.Call (.Attribute (.Call (.Name "super" p0) [] [] p1) "__init__" p2) [e] [] p3) env = (do
      let ov ← attributeBase (.Call (.Name "super" p0) [] [] p1) "__init__" env (eval (.Call (.Name "super" p0) [] [] p1) env)
      standAt p2.atName
      let (f, first) ← holding [ov] (getMethod ov "__init__" pl)
      callWith p3 f first (backTo p3 (starEach [e] env)) [])) :
    FnOk P w K mg base CX (k + 1) fI fd ps sp := by
  refine ⟨len, fun A outer s H args us vs Q E hr e0 hb r hsp => ?_⟩
  obtain ⟨oc, od, an, osl, kV, doc, pm, ct, cda, cc, rfl, lk, hcd, ⟨ccl, cdd, fvs, ccs, file, tf, lkc, hvs, hfile⟩, cl, cld, csl, lcc⟩ := SF.fn
  have hl := len _ _ _ _ hsp
  have KX : K.In s.heap := e0.mod.kin.keeps fun b o e => (e0.bs b o e).1
  have lim : s.heap.NoLimit := e0.mod.nolimit.keeps fun b o e => (e0.bs b o e).1
  refine codeAny_call_function hr.depth (KX _ _ lk) rfl S.co S.gen rfl (PySem.W.codeRec_of KX hcd) (hb _ _ _ _ ?_)
  refine wpAny_newFunctionEnv S.nocell (fun ⟨n, _⟩ hy => S.par n (List.of_mem_zip hy).1) (fun h₁ hns hsb => ⟨lim.fresh _ hsb, ?_⟩) S.kind
  have kp : ∀ b o, s.heap.get? b = some o → h₁.get? b = some o := fun b o e => hsb.extBut b o (Nat.ne_of_lt (Heap.lt_size e)) (Heap.get?_push_of_some _ e)
  let F : NF := ⟨"__init__", qual, params, (.Expr (.Call (.Attribute (.Call (.Name "super" p0) [] [] p1) "__init__" p2) [e] [] p3) p4 :: rest), scope, [("__class__", cc)], cda⟩
  have hccH : H cc = none := (e0.bs cc _ (e0.mod.kin _ _ lcc)).2
  have cells : CellsAt F.cl ["__class__"] [none] s.heap H := by
    refine ⟨rfl, fun y c hy => ?_, fun x y c hx hy => ?_, fun i y hy => ?_⟩
    · by_cases q : y = "__class__"
      · subst q
        have : some cc = some c := hy
        cases this
        exact ⟨hccH, _, _, KX _ _ lcc, rfl⟩
      · have : (none : Option Addr) = some c := by
          have h2 : List.lookup y [(("__class__" : Str), cc)] = some c := hy
          rw [List.lookup_cons] at h2
          have q2 : (y == ("__class__" : Str)) = false := by simpa using q
          rw [q2] at h2
          exact h2
        cases this
    · have one : ∀ z, List.lookup z [(("__class__" : Str), cc)] = some c → z = "__class__" := fun z h2 => by
        by_cases q : z = "__class__"
        · exact q
        · rw [List.lookup_cons] at h2
          have q2 : (z == ("__class__" : Str)) = false := by simpa using q
          rw [q2] at h2
          cases h2
      rw [one x hx, one y hy]
    · match i, hy with
      | 0, hy =>
        cases hy
        exact ⟨cc, rfl, fun v hv => by cases hv⟩
  obtain ⟨x, ta, t, hv0, hx, ha, ht, hq⟩ := hbody F A outer s H vs Q E rfl rfl (hr.deeper _) hsp
  have I : Inv (ncx CX P w K mg base N F fI A outer s H E) [] (startF N vs [none]) H { s with heap := h₁, toks := s.toks + (ps.zip us).length } := inv_startN S hr.hd e0 hl r cells hns kp
  show codeAny _ _ (.func F.body (envF F fI s.heap.objs.size)) _ _
  have KX1 : K.In h₁ := KX.keeps kp
  have hkc : scope.names.lookup ("__class__" : Str) = some .free := S.frk _ (List.mem_cons_self ..)
  have hka : scope.names.lookup ar.arg = some .local := by
    refine S.par _ ?_
    have h1 : (ps ++ [("__class__" : Str)])[0]? = some ar.arg := by
      rw [← S.pre, List.getElem?_take_of_lt (by simp)]
      exact hN0
    rw [List.getElem?_append_left hps] at h1
    exact List.mem_of_getElem? h1
  obtain ⟨nm, qn, Nc, bs, bm, sn, sub, ab, col, dd, k0, k1, k2, k3, k5, hC, hbm⟩ := SF.oex.cls
  have hcl : PySem.W.clsIn K C = some { name := nm, bases := bs, mro := .ref C :: bm, ns := Nc, qualname := qn, hasDict := true, slotNames := sn, subclasses := sub, abstract := ab, collection := col, hasDel := false } := by unfold PySem.W.clsIn; rw [hC] <;> rfl
  obtain ⟨t1, hxo⟩ := exo_at I.hok hx
  have hxo : h₁.get? x = some ({ cls := .ref C, dict := none, data := .fields #[.ref t1, .none, .none, .none, .bool false, .none] } : Obj) := hxo
  have hxC : x ≠ C := fun q => by
    subst q
    have h2 := KX1 _ _ hC
    rw [hxo] at h2
    cases h2
  refine ks_codeAny_funcAt (ks_wpAt_execs_cons (ks_wpAt_mono (Q := fun f s' => f = .next ∧ ∃ H', Inv (ncx CX P w K mg base N F fI A outer s H E) [] (startF N vs [none]) H' s' ∧ t { nx := fun _ H' => Q .non H', rt := Q } (startF N vs [none]) H') ?first (fun f s' z => ?rest) (fun _ _ z => z)))
  case rest =>
    obtain ⟨hf, H', J, q⟩ := z
    subst hf
    refine wpAt_of_wpAny (wpAny_mono (ht.run [] s' _ H' _ J q) (fun fl s' hs => ?_) fun e s' hs => hs)
    have fin : ∀ {σ' : L2.St} {H' : Hp} {v : V} {u : Value}, Inv (ncx CX P w K mg base N F fI A outer s H E) [] σ' H' s' → L2.RelV v u → Q v H' → CE outer P w H s Q u s' :=
      fun {σ' H' v u} J rv q => ⟨v, H', J.os, J.bare, J.base, J.hok, rv, q⟩
    cases fl with
    | ret u =>
      obtain ⟨v, σ', H', J, rv, q⟩ := hs
      exact fin J rv q
    | next =>
      obtain ⟨σ', H', J, q⟩ := hs
      exact fin (v := V.non) (u := Value.none) J rfl q
    | brk =>
      obtain ⟨_, _, _, q⟩ := hs
      exact False.elim q
    | cont =>
      obtain ⟨_, _, _, q⟩ := hs
      exact False.elim q
  case first =>
    obtain ⟨pl, hev'⟩ := hev (envF F fI s.heap.objs.size)
    refine ks_wpAt_Expr_any (ks_wpAt_MethodCall (ks_wpAt_super_base (env := envF F fI s.heap.objs.size) hsl hkc rfl rfl (kp _ _ (KX _ _ lk)) rfl hp rfl (kp _ _ (KX _ _ lkc)) rfl hvs hfile SF.top ?_) hev') (by unfold interactive; rw [show (envF F fI s.heap.objs.size).scope.kind = .function from S.kind]; rfl) (hswap _)
    obtain ⟨mb, b1, b2⟩ := e0.mod.blt
    have kpb : ∀ b o, base.get? b = some o → h₁.get? b = some o := fun b o e => kp b o (e0.bs b o e).1
    have lsup : ∀ {QQ : Value → Shared → Prop} {EE : Value → Shared → Prop}, QQ (.type "super") { s with heap := h₁, toks := s.toks + (ps.zip us).length } → wpAny (model P w) (A.deeper (envF F fI s.heap.objs.size)) (loadGlobal (envF F fI s.heap.objs.size) "super") QQ EE { s with heap := h₁, toks := s.toks + (ps.zip us).length } := fun {QQ EE} q =>
      PySem.Calls.loadGlobal_builtin (env := envF F fI s.heap.objs.size) (e0.mod.glob.keeps kpb) (PySem.W.mg_none_of e0.mod.kin e0.mod.glob SF.sup) (b1.keeps kpb) ((b2 _ (by decide +kernel)).trans PyProof.Rows.Boot.«super») q
    refine PySem.W.ks_loadName_global (env := envF F fI s.heap.objs.size) S.kind hsl (lsup ⟨rfl, ?_⟩)
    refine wpAny_loadName_free (env := envF F fI s.heap.objs.size) S.kind hkc rfl (c := cc) ⟨_, KX1 _ _ lcc, rfl⟩ ?_
    obtain ⟨u0, us', rfl, hu0⟩ : ∃ u0 us', us = u0 :: us' ∧ u0 = Value.ref x := by
      cases r with
      | nil => cases hv0
      | @cons v0 u0 vs' us' r0 rr =>
        have : v0 = V.ref x := Option.some.inj hv0
        subst this
        exact ⟨_, _, rfl, r0⟩
    subst hu0
    have hself : (ps.zip (Value.ref x :: us')).reverse.lookup ar.arg = some (.ref x) := by
      have ndP : ps.Nodup := by
        have q := S.nd.sublist (List.take_sublist (ps.length + 1) N)
        have q2 : N.take (ps.length + 1) = ps ++ [("__class__" : Str)] := S.pre
        rw [q2] at q
        exact (List.nodup_append.mp q).1
      refine zip_look (i := 0) ndP ?_ rfl
      have h1 : (ps ++ [("__class__" : Str)])[0]? = some ar.arg := by
        rw [← S.pre, List.getElem?_take_of_lt (by simp)]
        exact hN0
      rw [List.getElem?_append_left hps] at h1
      exact h1
    refine wpAny_loadName_local (env := envF F fI s.heap.objs.size) S.kind hka hns hself ?_
    refine ks_wpAny_isType_cls (KX1 _ _ hC) rfl ⟨rfl, ?_⟩
    refine ks_wpAny_call_super (KX1 _ _ hC) rfl hxo rfl (fun c e => by cases e) (PySem.W.looks_mroIn KX1 SF.sub) (fun h2 e2 k2 => ?_)
    have KX2 : K.In h2 := KX1.keeps k2
    have hx2 := k2 _ _ hxo
    have hI : PySem.W.Looks (model P w) h2 (isInstance (.ref x) (.type "ValueError")) true := PySem.W.Looks.andThen ((PySem.W.Looks.ld hx2).andThen .now) (PySem.W.looks_subIn KX2 SF.vB)
    have hini : PySem.W.alongIn K "__init__" (((Value.ref C :: bm).dropWhile (· != .ref C)).drop 1) = some (some (.builtin VI)) := by
      have q := SF.ini
      unfold PySem.W.ks_superIn at q
      rw [hcl] at q
      exact q
    refine PySem.W.kxs_getMethod PySem.W.kxs_ValueError e2 (PySem.W.looks_opaque KX2 SF.opq) (l₀ := .ref C :: bm) (fun A Q E s k q => wpAny_bind ((PySem.W.looks_clsIn KX2 hcl) A _ E s k (wpAny_pure q))) rfl KX2 hini hI hxC rfl ?_
    have u2 : (h2.push (PySem.W.kxs_mw VI x)).get? h2.objs.size = some (PySem.W.kxs_mw VI x) := Heap.get?_push_at rfl rfl
    have k3' : ∀ b o, h₁.get? b = some o → (h2.push (PySem.W.kxs_mw VI x)).get? b = some o := fun b o e => Heap.get?_push_of_some _ (k2 _ _ e)
    have J0 := I.kept (t' := s.toks + (ps.zip (Value.ref x :: us')).length + 1) k3'
    have hu : h₁.objs.size ≤ h2.objs.size := Nat.le_of_lt (Heap.lt_size e2)
    have J1 : Inv (ncx CX P w K mg base N F fI A outer s H E) [(h2.objs.size, PySem.W.kxs_mw VI x)] (startF N vs [none]) H { s with heap := h2.push (PySem.W.kxs_mw VI x), toks := s.toks + (ps.zip (Value.ref x :: us')).length + 1 } :=
      J0.pins_of fun p hp => by
        rw [List.mem_singleton.mp hp]
        exact ⟨u2, I.hok.fresh hu, Nat.ne_of_gt (Nat.lt_of_lt_of_le I.lt hu), I.nofs hu, fun v q => by cases q⟩
    have hrun := ha.run p3 _ _ _ H _ J1 hq
    have hst : starEach [e] (ncx CX P w K mg base N F fI A outer s H E).env = (false, eval e (envF F fI s.heap.objs.size)) :: starEach [] (envF F fI s.heap.objs.size) := hstar _
    rw [hst] at hrun
    show wpAny _ _ (callWith p3 (Value.ref h2.objs.size) [] (backTo p3 (starEach [e] (envF F fI s.heap.objs.size))) []) _ _ _
    rw [hstar]
    refine PySem.W.kxs_callWith (i := VI) (x := x) rfl (PySem.Calls.evalArgs_plain (wpAny_mono hrun (fun ws s1 z => ?_) fun _ _ z => z))
    obtain ⟨wvs, H1, J2, r2, hw, hx1, hq1⟩ := z
    have hu1 : s1.heap.get? h2.objs.size = some (PySem.W.kxs_mw VI x) := (J2.pin (h2.objs.size, PySem.W.kxs_mw VI x) (List.mem_append_right _ (List.mem_singleton.mpr rfl))).1
    refine ⟨hu1, ?_⟩
    obtain ⟨t2, hxo2⟩ := exo_at J2.hok hx1
    have hC2 := J2.kIn _ _ hC
    have hwl : ws.length ≤ sizeLine := by
      rw [← r2.length, sizeLine_eq]
      omega
    obtain ⟨hp2, g2, d2, tk2, os2⟩ := s1
    refine wpAny_call (codeAny_of_tree ?_)
    show wpAny _ _ (callAny (.ref h2.objs.size) ⟨ws, []⟩) _ _ _
    simp only [callAny]
    refine wpAny_bind (wpAny_load hu1 ?_)
    simp only [PySem.W.kxs_mw, show (Value.type "method-wrapper" == Value.type "method" || Value.type "method-wrapper" == Value.type "builtin_function_or_method" || Value.type "method-wrapper" == Value.type "method-wrapper") = true by decide, if_true]
    refine PySem.W.KFB.if_so (by decide) ?_
    refine wpAny_bind (PySem.W.check_bound_init PySem.F.excBase_ValueError.toExcCallFacts hC2 hxo2 rfl ?_)
    refine wpAny_bind (wpAny_pure (wpAny_pure ?_))
    refine ⟨plainId_quiet PySem.F.excBase_ValueError.init.plain _, codeAny_builtin PySem.F.excBase_ValueError.initEntry ?_⟩
    refine PySem.W.exc_init_tree (cls := .ref C) (t0 := t2) (dv := none) (c2 := .none) (c3 := .none) (b4 := .bool false) hxo2 hwl (fun h3 k3 hx3 _ => ?_)
    have J3 := J2.write (t' := tk2) (x := x) (e := x) (o := exo x C none) (by rw [hx1]; exact True.intro) (.inl rfl) k3 ⟨_, hx3⟩ (exo_ok hx3)
    have eu : upd H1 x (exo x C none) = H1 := by
      funext b
      by_cases hb : b = x
      · rw [hb, upd_same, hx1]
      · rw [upd_ne hb]
    rw [eu] at J3
    exact ⟨trivial, H1, J3.pins_of (fun p hp => by cases hp), hq1⟩
end Hm
namespace Hm
open PySem PySem.Spec PyProof.Rows L2 NdefX
/-! ### making such an error, raising it, catching it -/
/-- C(), C's own __init__ keeping sp and setting no attribute -/
def tMk0 (C : Addr) (sp : Sp) : L2.St → Hp → XK → Prop := fun σ H Q => ∀ a, H a = none → sp [.ref a] (upd H a (exo a C none)) (fun v H2 => v = .non ∧ H2 a = some (exo a C none) ∧ Q (.ref C) none (del H2 a)) (fun _ _ _ => False)
section
variable {X : Cx}
theorem pmk_sup0 {CX : CXT} {x : Str} {C fI : Addr} {k : Nat} {fd : FuncData} {ps : List Str} {sp : Sp} {p pos : Pos} (T : OexC X.K C) (iC : PySem.W.findIn X.K (.ref C) "__init__" = some (some (.ref fI))) (tI : PySem.W.typeIn X.K (.ref fI) = some (.type "function"))
    (F1 : FnOk X.prog X.w X.K X.mg X.base CX k fI fd ps sp) (hr : Room (k + 1) X.A) (hb : Binds X.K fd ps []) (hx : Passes CX X (fun _ _ _ => False)) (hg : Gl X x) (hm : X.mg x = some (.ref C))
    (hdb : (x == ("__debug__" : Str)) = false := by decide) : L2.PMk X (.Call (.Name x p) [] [] pos) (tMk0 C sp) := by
  intro pins s σ H Q I h
  obtain ⟨nm, q, N, bs, bm, sn, sub, ab, col, dd, k0, k1, k2, k3, k5, hC, hbm⟩ := T.cls
  refine wpAny_Call_Name_kw (ld_glob I hg hm ?_ hdb)
  refine PySem.W.callWith_K0 I.kIn T.kC ?_
  obtain ⟨hp, g, dr, tk, os⟩ := s
  have hsz : hp.objs.size ≤ hp.objs.size + 1 := Nat.le_succ _
  have hn : H (hp.objs.size + 1) = none := I.hok.fresh hsz
  have hq := h (hp.objs.size + 1) hn
  have kk : ∀ b o, hp.get? b = some o → ((hp.push (PySem.W.kdv_tup [])).push (PySem.HandSPX.excO C hp.objs.size)).get? b = some o := fun b o e => Heap.get?_push_of_some _ (Heap.get?_push_of_some _ e)
  have hget : ((hp.push (PySem.W.kdv_tup [])).push (PySem.HandSPX.excO C hp.objs.size)).get? (hp.objs.size + 1) = some (PySem.HandSPX.excO C hp.objs.size) := by heap_get
  have I2 : Inv X pins σ (upd H (hp.objs.size + 1) (exo (hp.objs.size + 1) C none)) ⟨(hp.push (PySem.W.kdv_tup [])).push (PySem.HandSPX.excO C hp.objs.size), g, dr, tk, os⟩ :=
    I.laid (t' := tk) (a := hp.objs.size + 1) (o := exo (hp.objs.size + 1) C none) (h' := (hp.push (PySem.W.kdv_tup [])).push (PySem.HandSPX.excO C hp.objs.size)) kk hsz (exo_ok hget)
  have r2 : Vals [V.ref (hp.objs.size + 1)] [Value.ref (hp.objs.size + 1)] := .cons rfl .nil
  have hl : ([Value.ref (hp.objs.size + 1)] ++ []).length = ps.length := (F1.len _ _ _ _ hq)
  refine wpAny_call (PySem.HandSPX.call_own F.excBase_ValueError (fun Y => PySem.HandSPX.refsVE_contains Y bm hbm) (I.kIn _ _ hC) (PySem.W.looks_findIn I.kIn iC) (fun self => PySem.W.bind_fn I.kIn self tI) (by decide)
    (codeAny_mono (F1.run _ X.stack _ _ ⟨[Value.ref (hp.objs.size + 1)], []⟩ [Value.ref (hp.objs.size + 1)] _ _ (fun _ _ _ => False) (hr.make C [] []) (I2.env0.make C [] []) (by
      have b := hb ⟨(hp.push (PySem.W.kdv_tup [])).push (PySem.HandSPX.excO C hp.objs.size), g, dr, tk, os⟩ [Value.ref (hp.objs.size + 1)] I2.kIn hl
      simpa using b) r2 hq) fun r s' hq' => ?_))
  cases r with
  | error er => exact hx pins σ _ _ er s' I2 hq'
  | ok fl =>
    cases fl with
    | ret u =>
      obtain ⟨v, H2, os2, bare2, un2, hok2, rv, ev, ea, q2⟩ := hq'
      subst ev
      obtain ⟨h2, g2, d2, t2, os'⟩ := s'
      refine ⟨rv, ?_⟩
      obtain ⟨t0, hoe⟩ := exo_at hok2 ea
      obtain ⟨G, g1', g2'⟩ := restrict h2 fun b => decide (b ≠ hp.objs.size + 1)
      have gk : ∀ b, b ≠ hp.objs.size + 1 → G.get? b = h2.get? b := fun b hb => g1' b (decide_eq_true hb)
      have ge : G.get? (hp.objs.size + 1) = none := g2' _ (by simp)
      have nha : ∀ {b : Addr} {o : Obj}, hp.get? b = some o → b ≠ hp.objs.size + 1 := fun {b o} z => Nat.ne_of_lt (Nat.lt_succ_of_lt (Heap.lt_size z))
      have up : ∀ {b : Addr}, b ≠ hp.objs.size + 1 → H b = none → upd H (hp.objs.size + 1) (exo (hp.objs.size + 1) C none) b = none := fun {b} hb n => by rw [upd_ne hb]; exact n
      have U : Un (frs X.stack) [] H (del H2 (hp.objs.size + 1)) hp G := {
        keep := fun b o z n hf hx => by
          rw [gk b (nha z)]
          exact un2.keep b o (kk b o z) (up (nha z) n) hf hx
        slot := fun b o z n hf hx => by
          rw [gk b (nha z)]
          exact un2.slot b o (kk b o z) (up (nha z) n) hf hx
        free := fun b o z n hx => by
          rw [del_ne (nha z)]
          exact un2.free b o (kk b o z) (up (nha z) n) hx
        there := fun b o z hx => by
          rw [gk b (nha z)]
          exact un2.there b o (kk b o z) hx
        tups := fun b xs z => by
          rw [del_ne (ne_of_none z hn)]
          exact un2.tups b xs (by rw [upd_ne (ne_of_none z hn)]; exact z)
        frzs := fun b o v z => by
          rw [del_ne (ne_of_none z hn)]
          exact un2.frzs b o v (by rw [upd_ne (ne_of_none z hn)]; exact z)
        tbls := fun b ps z => by
          rw [del_ne (ne_of_none z hn)]
          exact un2.tbls b ps (by rw [upd_ne (ne_of_none z hn)]; exact z) }
      have hok3 : HOk X.prog X.w (del H2 (hp.objs.size + 1)) G := fun b o z => by
        have hba : b ≠ hp.objs.size + 1 := fun e => by
          rw [e, del_same] at z
          cases z
        rw [del_ne hba] at z
        have noa : ∀ {c : Addr}, H2 c = some (.own b) → c ≠ hp.objs.size + 1 := fun {c} hc => at_ne ea hc exo_own
        exact (hok2 b o z).stay (fun c v hc y => by
            have hca : c ≠ hp.objs.size + 1 := by
              rcases hc with hc | hc
              · rw [hc]
                exact hba
              · exact noa hc
            rw [gk c hca]
            exact y)
          (fun c hc => by rw [del_ne (noa hc)]; exact hc) (fun c xs hc => by rw [del_ne (at_ne ea hc exo_tup)]; exact hc)
      have J : Inv X pins σ (del H2 (hp.objs.size + 1)) ⟨G, g2, d2, t2, os'⟩ := I.call' (ch := []) os2 U hok3 bare2 (fun b z => absurd z (by simp))
      exact ⟨hp.objs.size + 1, _, _, ⟨G, g2, d2, t2, os'⟩, _, .ref C, none, rfl, J, fun b o z => by
        by_cases hba : b = hp.objs.size + 1
        · rw [hba, ge] at z
          cases z
        · exact (gk b hba).symm.trans z, ge, hoe, ⟨rfl, rfl⟩, rfl, rfl, del_same, rfl, bare2, raises_own T.exC T.tyC, q2⟩
    | next => exact False.elim hq'
    | brk => exact False.elim hq'
    | cont => exact False.elim hq'
/-- what a callee lets out is taken, at the slots as they stand -/
theorem passes_len {W : WX} (tk : L2.Takes X W) : Passes (L2.CX X.prog X.w) X (fun cls d H => ∀ σ, σ.length = X.N.length → W cls d σ H) := fun _ σ _ _ e s' I c => tk e s' (L2.XE.of_call I (fun _ _ _ h => h σ I.len) c)
end
end Hm
namespace Hm
open PySem PySem.Spec PyProof.Rows L2 NdefX
/-! ### further facts of the head: own errors, isinstance -/
/-- the address of a class's own __init__ -/
def iA (K : PySem.W.Frag) (x : Str) : Addr := He.ma K (He.ga K x) "__init__"
/-- an own error's __init__, as data -/
structure CloD where
  x : Str
  qual : Str
  params : Arguments
  body : List Stmt
  scope : Scope
abbrev CloV : Type := Option (Str × Str × Arguments × FuncBody × Scope × Addr × Addr)
def cloW (K : PySem.W.Frag) (x : Str) : CloV := match K.lookup (iA K x) with
  | some ⟨_, _, .func fd, _⟩ => some (fd.name, fd.qualname, fd.params, fd.body, fd.scope, fd.globals, fd.builtins)
  | _ => none
def CloD.val (d : CloD) : CloV := some ("__init__", d.qual, d.params, .stmts d.body, d.scope, mainGlobals, builtinsNs)
def cellB (K : PySem.W.Frag) (x : Str) (cl : List (Str × Addr)) : Bool := match cl with
  | [(nm, cc)] => decide (nm = "__class__") && (match K.lookup cc with
    | some ⟨_, _, .cell (some (.ref c)), _⟩ => decide (c = He.ga K x)
    | _ => false)
  | _ => false
def fileB (K : PySem.W.Frag) (file : Str) (cd : Value) : Bool := match cd with
  | .ref cda => (match K.lookup cda with
    | some ⟨_, _, .fields vs, _⟩ => (match (vs[2]? : Option Value) with
      | some (.str f _) => file == f
      | _ => false)
    | _ => false)
  | _ => false
def noneB (v : Value) : Bool := match v with
  | .none => true
  | _ => false
def supB (file : Str) (K : PySem.W.Frag) (x : Str) : Bool := match K.lookup (iA K x) with
  | some ⟨_, _, .func fd, _⟩ => cellB K x fd.closure && (noneB fd.defaults && (PySem.W.codeIn K fd.code fd.qualname && fileB K file fd.code))
  | _ => false
def oexB (K : PySem.W.Frag) (C : Addr) : Bool := match K.lookup C with
  | some ⟨.type "type", _, .cls cd, sl⟩ => (match cd.mro, sl.toList with
    | .ref C' :: bm, [_, _, _, _, some (.builtin n), _] => C' == C && n == "ValueError.__new__" && !cd.hasDel && cd.hasDict && PySem.HandSPX.refsVE bm
    | _, _ => false)
  | _ => false
inductive Tn where
  | own (x : Str)
  | ty (n : String)
def Tn.v (K : PySem.W.Frag) : Tn → Value
  | .own x => .ref (He.ga K x)
  | .ty n => .type n
inductive Fx where
  | sup (x : Str)
  | exc (x : Str)
  | kit (a b : Tn) (r : Bool)
  | sub (a : Tn) (x : Str) (r : Bool)
  | ins (x : Str)
  | exm (x y : Str) (b : Bool)
  | spc (x m : Str)
  | kits (xs : List Str)
  | kitTo (xs : List Str) (b : Tn)
def objClass : Value := .builtin "object.__class__"
def Fx.ok (file : Str) (K : PySem.W.Frag) : Fx → Bool
  | .sup x => supB file K x && (oexB K (He.ga K x) && (decide (PySem.W.mroIn K (He.ga K x) (.ref (He.ga K x)) = some true) && (He.eqO (PySem.W.nsIn K mainGlobals "super") (some none) && (He.eqO (PySem.W.nsIn K cStatics "thirdparty.any") (some none) &&
      (He.eqO (PySem.W.ks_superIn K (He.ga K x) (He.ga K x) "__init__") (some (some (.builtin VI))) && (decide (PySem.W.subIn K (.ref (He.ga K x)) (.type "ValueError") = some true) && (He.eqO (PySem.W.findIn K (.ref (He.ga K x)) "__setattr__") (some (some (.builtin "object.__setattr__"))) &&
      (decide (PySem.W.subIn K (.ref (He.ga K x)) (.type "BaseException") = some true) && (decide (PySem.W.typeIn K (.ref (He.ga K x)) = some (.type "type")) && (PySem.W.keepIn K (.ref (He.ga K x)) &&
      (He.eqO (PySem.W.findIn K (.ref (He.ga K x)) "__init__") (some (some (.ref (iA K x)))) && decide (PySem.W.typeIn K (.ref (iA K x)) = some (.type "function")))))))))))))
  | .exc x => He.eqO (PySem.W.findIn K (.ref (He.ga K x)) "__getattribute__") (some (some (.builtin "BaseException.__getattribute__"))) && (He.eqO (PySem.W.findIn K (.ref (He.ga K x)) "__getattr__") (some none) &&
      (decide (PySem.W.subIn K (.ref (He.ga K x)) (.type "BaseException") = some true) && (PySem.W.hasDictIn K (He.ga K x) && (He.eqO (PySem.W.findIn K (.ref (He.ga K x)) "__class__") (some (some objClass)) &&
      (He.eqO (PySem.W.specialIn K objClass "__get__") (some (some (.builtin "getset_descriptor.__get__"))) && (decide (PySem.W.takesIn K objClass = some true) && decide (PySem.W.mroIn K (He.ga K x) (.type "object") = some true)))))))
  | .kit a b r => decide (PySem.W.kitOne K (a.v K) (b.v K) = some r)
  | .sub a x r => decide (PySem.W.subIn K (a.v K) (.ref (He.ga K x)) = some r)
  | .ins x => He.eqO (PySem.W.findIn K (.ref (He.ga K x)) "__class__") (some (some objClass)) && (He.eqO (PySem.W.specialIn K objClass "__get__") (some (some (.builtin "getset_descriptor.__get__"))) && (decide (PySem.W.takesIn K objClass = some true) && decide (PySem.W.mroIn K (He.ga K x) (.type "object") = some true)))
  | .exm x y b => decide (PySem.W.exmOne K (.ref (He.ga K x)) (.ref (He.ga K y)) = some b)
  | .kits xs => xs.all fun x => xs.all fun y => decide (PySem.W.kitOne K (.ref (He.ga K x)) (.ref (He.ga K y)) = some (decide (x = y)))
  | .kitTo xs b => xs.all fun x => decide (PySem.W.kitOne K (.ref (He.ga K x)) (b.v K) = some true)
  | .spc x m => He.eqO (PySem.W.findIn K (.ref (He.ga K x)) m) (some (some (.ref (He.ma K (He.ga K x) m)))) && PySem.W.isFn K (.ref (He.ma K (He.ga K x) m))
section
variable {file : Str} {K : PySem.W.Frag} {x : Str}
theorem oexB_ok {C : Addr} (q : oexB K C = true) : ∃ nm q N bs bm sn sub ab col dd k0 k1 k2 k3 k5, K.lookup C = some (excClassObj nm q C N bs bm true sn sub ab col dd k0 k1 k2 k3 k5 "ValueError.__new__") ∧ PySem.HandSPX.refsVE bm = true := by
  unfold oexB at q
  split at q
  · rename_i dd cd sl ho
    split at q
    · rename_i C' bm k0 k1 k2 k3 n k5 hm hs
      simp only [Bool.and_eq_true, beq_iff_eq, Bool.not_eq_true'] at q
      obtain ⟨⟨⟨⟨rfl, rfl⟩, hdel⟩, hdct⟩, ht⟩ := q
      obtain ⟨nm, bs, mro, ns, qn, hd, sn, sub, ab, col, del⟩ := cd
      dsimp only at hm hdel hdct
      subst hm hdel hdct
      have hsl : sl = #[k0, k1, k2, k3, some (.builtin "ValueError.__new__"), k5] := by
        obtain ⟨l⟩ := sl
        simp only at hs
        rw [hs]
      subst hsl
      exact ⟨nm, qn, ns, bs, bm, sn, sub, ab, col, dd, k0, k1, k2, k3, k5, ho, ht⟩
    · cases q
  · cases q
/-- of an own error: its class, its __init__ -/
structure SupX (P : Program) (K : PySem.W.Frag) (d : CloD) (fd : FuncData) : Prop where
  F : SupF P K (He.ga K d.x) (iA K d.x) d.qual d.params d.body d.scope fd
  iC : PySem.W.findIn K (.ref (He.ga K d.x)) "__init__" = some (some (.ref (iA K d.x)))
  tI : PySem.W.typeIn K (.ref (iA K d.x)) = some (.type "function")
  fx : ∃ cl kV doc pm an cdv ct, fd = PySem.W.fnX "__init__" d.qual d.params d.body d.scope cl .none kV doc pm an cdv ct
theorem sup_of {P : Program} {d : CloD} (e : cloW K d.x = d.val) (h : (Fx.sup d.x).ok P.main.file K = true) (top : (P.main.scope.names.lookup ("super" : Str)).isSome = false) : ∃ fd, SupX P K d fd := by
  obtain ⟨h1, h⟩ := He.ba h
  obtain ⟨h2, h⟩ := He.ba h
  obtain ⟨h3, h⟩ := He.ba h
  obtain ⟨h4, h⟩ := He.ba h
  obtain ⟨h5, h⟩ := He.ba h
  obtain ⟨h6, h⟩ := He.ba h
  obtain ⟨h7, h⟩ := He.ba h
  obtain ⟨h8, h⟩ := He.ba h
  obtain ⟨h9, h⟩ := He.ba h
  obtain ⟨h10, h⟩ := He.ba h
  obtain ⟨h11, h⟩ := He.ba h
  obtain ⟨h12, h13⟩ := He.ba h
  unfold cloW at e
  unfold supB at h1
  cases q : K.lookup (iA K d.x) with
  | none =>
    rw [q] at h1
    cases h1
  | some o =>
    obtain ⟨oc, od, dt, osl⟩ := o
    rw [q] at h1 e
    cases dt with
    | func fd =>
      obtain ⟨n1, n2, n3, n4, n5, n6, n7, n8, n9, n10, n11, n12, n13, n14, n15⟩ := fd
      have e2 : (some (n1, n2, n3, n4, n5, n6, n15) : CloV) = some (("__init__" : Str), d.qual, d.params, FuncBody.stmts d.body, d.scope, mainGlobals, builtinsNs) := e
      simp only [Option.some.injEq, Prod.mk.injEq] at e2
      obtain ⟨g1, g2, g3, g4, g5, g6, g7⟩ := e2
      subst g1 g2 g3 g4 g5 g6 g7
      have c1 : (cellB K d.x n7 && (noneB n8 && (PySem.W.codeIn K n13 d.qual && fileB K P.main.file n13))) = true := h1
      obtain ⟨k1, c1⟩ := He.ba c1
      obtain ⟨k2, c1⟩ := He.ba c1
      obtain ⟨k3, k4⟩ := He.ba c1
      have z8 : n8 = .none := by
        unfold noneB at k2
        split at k2
        · rfl
        · cases k2
      subst z8
      unfold cellB at k1
      split at k1
      · rename_i nm cc
        obtain ⟨m1, m2⟩ := He.ba k1
        have m1 := of_decide_eq_true m1
        subst m1
        split at m2
        · rename_i ccl cld c csl hcc
          have m2 := of_decide_eq_true m2
          subst m2
          clear c1
          unfold fileB at k4
          cases n13 with
          | ref cda =>
            dsimp only at k4
            split at k4
            · rename_i xcl xdd vs xsl hcd
              split at k4
              · rename_i f tf hvs
                exact ⟨_, ⟨⟨oc, od, n12, osl, n9, n10, n11, n14, cda, cc, rfl, q, k3, ⟨xcl, xdd, vs, xsl, f, tf, hcd, hvs, k4⟩, ccl, cld, csl, hcc⟩, of_decide_eq_true h3, He.eqO_ok h4, He.eqO_ok h5, He.eqO_ok h6, of_decide_eq_true h7, top,
                  ⟨oexB_ok h2, He.eqO_ok h8, of_decide_eq_true h9, of_decide_eq_true h10, h11⟩⟩, He.eqO_ok h12, of_decide_eq_true h13, _, _, _, _, _, _, _, rfl⟩
              · cases k4
            · cases k4
          | _ => cases k4
        · cases m2
      · cases k1
    | _ => cases h1
theorem exc_of (h : (Fx.exc x).ok file K = true) : ExcC K (He.ga K x) := by
  obtain ⟨h1, h⟩ := He.ba h
  obtain ⟨h2, h⟩ := He.ba h
  obtain ⟨h3, h⟩ := He.ba h
  obtain ⟨h4, h⟩ := He.ba h
  obtain ⟨h5, h⟩ := He.ba h
  obtain ⟨h6, h⟩ := He.ba h
  obtain ⟨h7, h8⟩ := He.ba h
  exact ⟨He.eqO_ok h1, He.eqO_ok h2, of_decide_eq_true h3, h4, He.eqO_ok h5, He.eqO_ok h6, of_decide_eq_true h7, of_decide_eq_true h8⟩
theorem kit_ok {a b : Tn} {r : Bool} (h : (Fx.kit a b r).ok file K = true) : PySem.W.kitOne K (a.v K) (b.v K) = some r := of_decide_eq_true h
theorem sub_ok {a : Tn} {r : Bool} (h : (Fx.sub a x r).ok file K = true) : PySem.W.subIn K (a.v K) (.ref (He.ga K x)) = some r := of_decide_eq_true h
theorem exm_ok {y : Str} {b : Bool} (h : (Fx.exm x y b).ok file K = true) : PySem.W.exmOne K (.ref (He.ga K x)) (.ref (He.ga K y)) = some b := of_decide_eq_true h
/-- instances of the class answer isinstance -/
structure InsF (K : PySem.W.Frag) (C : Addr) : Prop where
  ha : PySem.W.findIn K (.ref C) "__class__" = some (some (.builtin "object.__class__"))
  hn : PySem.W.specialIn K (.builtin "object.__class__") "__get__" = some (some (.builtin "getset_descriptor.__get__"))
  ht : PySem.W.takesIn K (.builtin "object.__class__") = some true
  hm : PySem.W.mroIn K C (.type "object") = some true
theorem ins_of (h : (Fx.ins x).ok file K = true) : InsF K (He.ga K x) := by
  obtain ⟨h1, h⟩ := He.ba h
  obtain ⟨h2, h⟩ := He.ba h
  obtain ⟨h3, h4⟩ := He.ba h
  exact ⟨He.eqO_ok h1, He.eqO_ok h2, of_decide_eq_true h3, of_decide_eq_true h4⟩
theorem kits_of {xs : List Str} (h : (Fx.kits xs).ok file K = true) : ∀ x ∈ xs, ∀ y ∈ xs, PySem.W.kitOne K (.ref (He.ga K x)) (.ref (He.ga K y)) = some (decide (x = y)) := fun x hx y hy =>
  of_decide_eq_true (List.all_eq_true.mp (List.all_eq_true.mp h x hx) y hy)
theorem kitTo_of {xs : List Str} {b : Tn} (h : (Fx.kitTo xs b).ok file K = true) : ∀ x ∈ xs, PySem.W.kitOne K (.ref (He.ga K x)) (b.v K) = some true := fun x hx => of_decide_eq_true (List.all_eq_true.mp h x hx)
theorem spc_of {m : Str} (h : (Fx.spc x m).ok file K = true) : PySem.W.findIn K (.ref (He.ga K x)) m = some (some (.ref (He.ma K (He.ga K x) m))) ∧ PySem.W.isFn K (.ref (He.ma K (He.ga K x) m)) = true := by
  obtain ⟨h1, h2⟩ := He.ba h
  exact ⟨He.eqO_ok h1, h2⟩
end
/-! ### the Hook -/
abbrev AlS : Type := He.AlD × Bool × List CloV
def obsS (fa : List He.Fa) (fn : List He.DefD) (fx : List Fx) (cl : List CloD) (file : Str) (K : PySem.W.Frag) : AlS := (He.obsD fa fn K, fx.all fun f => f.ok file K, cl.map fun d => cloW K d.x)
def valS (fn : List He.DefD) (cl : List CloD) : AlS := (He.valD fn, true, cl.map CloD.val)
def SaysS (fa : List He.Fa) (fn : List He.DefD) (fx : List Fx) (cl : List CloD) (file : Str) (K : PySem.W.Frag) : Prop := obsS fa fn fx cl file K = valS fn cl
def partS (g : Addr → Option Obj) (n : Nat) : PySem.W.Frag := He.frG g (cStatics :: He.asD g n)
def obsSG (n : Nat) (fa : List He.Fa) (fn : List He.DefD) (fx : List Fx) (cl : List CloD) (file : Str) (g : Addr → Option Obj) : AlS := obsS fa fn fx cl file (partS g n)
def hookS (n : Nat) (fa : List He.Fa) (fn : List He.DefD) (fx : List Fx) (cl : List CloD) (file : Str) : PySem.W.Hook where
  α := AlS
  obs := fun s => obsSG n fa fn fx cl file s.heap.get?
  val := fun _ => valS fn cl
  says := fun _ h => ∃ K : PySem.W.Frag, K.In h ∧ SaysS fa fn fx cl file K
  of := fun _ _ e => ⟨_, He.frG_in, e⟩
  keeps := fun _ _ _ ⟨K, hK, c⟩ k => ⟨K, PySem.W.Frag.In.keeps hK k, c⟩
section
variable {fa : List He.Fa} {fn : List He.DefD} {fx : List Fx} {cl : List CloD} {file : Str} {K : PySem.W.Frag} {n : Nat}
theorem obsSG_eq {g : Addr → Option Obj} {s : Shared} (h : ∀ a, g a = s.heap.get? a) : obsSG n fa fn fx cl file g = (hookS n fa fn fx cl file).obs s := by
  have e : g = s.heap.get? := funext h
  rw [e] <;> rfl
theorem SaysS.d (c : SaysS fa fn fx cl file K) : He.SaysD fa fn K := congrArg (fun z : AlS => z.1) c
theorem SaysS.fact (c : SaysS fa fn fx cl file K) (i : Nat) {f : Fx} (h : fx[i]? = some f := by rfl) : f.ok file K = true :=
  List.all_eq_true.mp (congrArg (fun z : AlS => z.2.1) c : (fx.all fun f => f.ok file K) = true) f (List.mem_of_getElem? h)
theorem SaysS.clo (c : SaysS fa fn fx cl file K) (i : Nat) {d : CloD} (h : cl[i]? = some d := by rfl) : cloW K d.x = d.val := by
  have e : cl.map (fun d => cloW K d.x) = cl.map CloD.val := congrArg (fun z : AlS => z.2.2) c
  have e2 : (cl.map fun d => cloW K d.x)[i]? = (cl.map CloD.val)[i]? := by rw [e]
  rw [List.getElem?_map, List.getElem?_map, h] at e2
  exact Option.some.inj e2
end
end Hm
namespace PySem
namespace HmPX
open PySem.W PySem.Calls PyProof.Rows PySem.HandSPX
/-! ### own errors made with keywords -/
section
variable {M : Model} {A : Around} {E : Value → Shared → Prop} {h : Heap} {g : Array GenState} {d : Drawn} {t : Nat} {os : OsState}
variable {nm q : Str} {C N : Addr} {bs bm bmB : List Value} {hdct : Bool} {sn : List Str} {sub : List Value} {ab : Bool} {col : Option Bool} {dd : Option Addr} {k0 k1 k2 k3 k5 : Option Value} {B newId initId : String}
theorem check_new_kw (F : ExcBaseFacts B newId initId bmB) (hT : ∀ X : String, bm.contains (.type X) = bmB.contains (.type X)) {rest : List Value} {kw : List (Str × Value)} {Q : Unit → Shared → Prop}
    (hC : h.get? C = some (excClassObj nm q C N bs bm hdct sn sub ab col dd k0 k1 k2 k3 k5 newId)) (hq : Q () ⟨h, g, d, t, os⟩) : wpAny M A (checkBuiltinCall newId ⟨.ref C :: rest, kw⟩) Q E ⟨h, g, d, t, os⟩ := by
  have hcont : (Value.ref C :: bm).contains (.type B) = true := by rw [List.contains_cons, hT, F.hasB, Bool.or_true]
  have hstar := F.noStar
  simp only [checkBuiltinCall, F.newKind, F.newSplit, F.newRow]
  repeat (first | refine wpAny_loadPart_at hC ?_ | (refine wpAny_isSubtype_exc hC ?_; rw [hcont]) | refine wpAny_staticBase_exc hC ?_ | refine wpAny_madeBy_exc hC ?_ | simp only [bne_self_eq_false, Bool.false_eq_true, if_false] | wp_step)
  exact hq
end
section
variable {prog : Program} {w : World} {A : Around} {E : Value → Shared → Prop} {R : Result → Shared → Prop} {h : Heap} {g : Array GenState} {d : Drawn} {t : Nat} {os : OsState}
variable {nm q : Str} {C N : Addr} {bs bm bmB : List Value} {hdct : Bool} {sn : List Str} {sub : List Value} {ab : Bool} {col : Option Bool} {dd : Option Addr} {k0 k1 k2 k3 k5 : Option Value} {B newId initId : String}
theorem new_kw (F : ExcBaseFacts B newId initId bmB) (hT : ∀ X : String, bm.contains (.type X) = bmB.contains (.type X)) {rest : List Value} {kw : List (Str × Value)}
    (hC : h.get? C = some (excClassObj nm q C N bs bm hdct sn sub ab col dd k0 k1 k2 k3 k5 newId))
    (hq : R (.ok (.ret (.ref (h.objs.size + 1)))) ⟨(h.push { cls := .type "tuple", data := .seq rest.toArray }).push
      { cls := .ref C, data := .fields #[.ref h.objs.size, .none, .none, .none, .bool false, .none] }, g, d, t, os⟩) (hrest : rest.length ≤ sizeLine) :
    codeAny (model prog w) A (.builtin newId ⟨.ref C :: rest, kw⟩) R ⟨h, g, d, t, os⟩ := by
  have hends := F.ends
  have hcB : (Value.ref C :: bm).contains (.type B) = true := by rw [List.contains_cons, hT, F.hasB, Bool.or_true]
  have hcA : (Value.ref C :: bm).contains (.type "AttributeError") = false := by rw [List.contains_cons, hT, F.noAttr]; rfl
  have hcN : (Value.ref C :: bm).contains (.type "NameError") = false := by rw [List.contains_cons, hT, F.noName]; rfl
  refine codeAny_builtinAt F.entry ?_
  unfold Builtin.«BaseException.__new__»
  refine wpAt_bind ?_
  show wpAt _ _ _ (stack >>= _) _ _ _
  refine wpAt_bind (wpAt_stack fun p below => wpAt_of_wpAny ?_)
  wp_walk
  refine wpAt_of_wpAny ?_
  rw [F.owner]
  repeat (first | with_reducible refine wpAny_madeHere_exc F.canon hC ?_ | with_reducible refine wpAny_loadPart_at hC ?_ | (with_reducible refine wpAny_isSubtype_exc hC ?_; first | rw [hcB] | rw [hcA] | rw [hcN]) | wp_step)
  show R _ _
  rw [Heap.size_push]
  exact hq
theorem type_call_kw (F : ExcBaseFacts B newId initId bmB) (hT : ∀ X : String, bm.contains (.type X) = bmB.contains (.type X)) {rest : List Value} {kw : List (Str × Value)} {fI : Addr} {Q : Fin → Shared → Prop}
    (hC : h.get? C = some (excClassObj nm q C N bs bm hdct sn sub ab col dd k0 k1 k2 k3 k5 newId))
    (hi : W.Looks (model prog w) h (typeLookup (.ref C) "__init__") (some (.ref fI))) (hb : ∀ self, W.Looks (model prog w) h (bindSpecial (.ref fI) self) (.ref fI, [self])) (hrest : rest.length ≤ sizeLine)
    (hq : codeAny (model prog w) A (.call (.ref fI) ⟨.ref (h.objs.size + 1) :: rest, kw⟩)
      (fun r s' => match r with | .ok (.ret v) => v = .none ∧ Q (.done (.ret (.ref (h.objs.size + 1)))) s' | .ok _ => False | .error e => E e s')
      ⟨(h.push (W.kdv_tup rest)).push (excO C h.objs.size), g, d, t, os⟩) :
    wpAny (model prog w) A (Builtin.«type.__call__» ⟨.ref C :: rest, kw⟩) Q E ⟨h, g, d, t, os⟩ := by
  repeat (first | with_reducible refine wpAny_loadPart_at hC ?_ | with_reducible refine wpAny_madeBy_exc hC ?_ | wp_step)
  refine codeAny_call_builtin_code (Code.quiet_builtin _ F.quiet) (check_new_kw F hT hC ?_)
  refine new_kw F hT hC ?_ hrest
  show wpAny _ _ _ _ _ _
  have k : ∀ b o, h.get? b = some o → ((h.push (W.kdv_tup rest)).push (excO C h.objs.size)).get? b = some o := fun b o e => Heap.get?_push_of_some _ (Heap.get?_push_of_some _ e)
  have hC₁ := k _ _ hC
  have hget : ((h.push (W.kdv_tup rest)).push (excO C h.objs.size)).get? (h.objs.size + 1) = some (excO C h.objs.size) := by heap_get
  have hcC : (Value.ref C :: bm).contains (.ref C) = true := by simp
  have i1 := hi.keeps k
  have b1 := (hb (.ref (h.objs.size + 1))).keeps k
  unfold isInstance
  repeat (first | with_reducible refine wpAny_loadPart_at hget ?_ | (with_reducible refine wpAny_isSubtype_exc hC₁ ?_; rw [hcC]) | wp_step)
  show wpAny _ _ (typeLookup (.ref C) _) _ _ _
  refine i1.at ?_
  refine wpAny_holding (wpAny_bind (b1.at ?_))
  refine wpAny_bind (wpAny_call (codeAny_mono hq fun r s' z => ?_))
  rcases r with e | (v | _ | _ | _) <;> first | exact z | exact z.elim | skip
  obtain ⟨rfl, z⟩ := z
  first
    | exact wpAny_pure (wpAny_pure z)
    | (wp_walk; exact z)
theorem call_kw (F : ExcBaseFacts B newId initId bmB) (hT : ∀ X : String, bm.contains (.type X) = bmB.contains (.type X)) {rest : List Value} {kw : List (Str × Value)} {fI : Addr}
    (hC : h.get? C = some (excClassObj nm q C N bs bm hdct sn sub ab col dd k0 k1 k2 k3 k5 newId))
    (hi : W.Looks (model prog w) h (typeLookup (.ref C) "__init__") (some (.ref fI))) (hb : ∀ self, W.Looks (model prog w) h (bindSpecial (.ref fI) self) (.ref fI, [self])) (hrest : rest.length ≤ sizeLine)
    (hq : codeAny (model prog w) (A.under (.builtin "type.__call__" ⟨.ref C :: rest, kw⟩)) (.call (.ref fI) ⟨.ref (h.objs.size + 1) :: rest, kw⟩) (W.InitBack (h.objs.size + 1) R)
      ⟨(h.push (W.kdv_tup rest)).push (excO C h.objs.size), g, d, t, os⟩) :
    codeAny (model prog w) A (.call (.ref C) ⟨rest, kw⟩) R ⟨h, g, d, t, os⟩ := by
  have f1 := tc_lookup
  have f2 := tc_bind (.ref C)
  have hTy : (⟨h, g, d, t, os⟩ : Shared).TypeIs (.ref C) "type" := ⟨_, hC, rfl⟩
  refine codeAny_of_tree ?_
  show wpAny _ _ (callAny (.ref C) _) _ _ _
  repeat (any_goals (first | assumption | with_reducible refine wpAny_loadPart_at hC ?_ | wp_step))
  refine ⟨rfl, ?_⟩
  refine codeAny_call_builtin_at (Code.quiet_builtin _ (by decide +kernel)) entry_typeCall (wpAny_check_type_call_sub hC (type_call_kw F hT hC hi hb hrest ?_))
  refine codeAny_mono hq fun r s' z => ?_
  rcases r with e | (v | _ | _ | _) <;> exact z
end
/-! ### isinstance of an own error with a dict -/
section
variable {prog : Program} {w : World} {A : Around} {E : Value → Shared → Prop} {s : Shared} {K : Frag} {x D : Addr} {ox : Obj} {od : Option Obj}
theorem findObj_dataD {C : Addr} {name : Str} {a g : Value} (hc : (clsIn K C).isSome = true) (ha : findIn K (.ref C) name = some (some a)) (hg : specialIn K a "__get__" = some (some g)) (ht : takesIn K a = some true) : findObj K C od name = some (.bind g a) := by
  obtain ⟨cd, hc⟩ := Option.isSome_iff_exists.mp hc
  unfold findObj
  rw [hc, Option.bind_some, ha, Option.bind_some]
  simp [hg, ht]
theorem kin_classD {Q : Option Value → Shared → Prop} (hga : findIn K (.ref D) "__getattribute__" = some (some (.builtin "BaseException.__getattribute__"))) (hgt : findIn K (.ref D) "__getattr__" = some none) (hsub : subIn K (.ref D) (.type "BaseException") = some true)
    (hdct : hasDictIn K D = true) (ha : findIn K (.ref D) "__class__" = some (some (.builtin "object.__class__")))
    (hn : specialIn K (.builtin "object.__class__") "__get__" = some (some (.builtin "getset_descriptor.__get__"))) (htk : takesIn K (.builtin "object.__class__") = some true) (hm : mroIn K D (.type "object") = some true)
    (X : K.In s.heap) (I : InstAt s.heap x ox D od) (h : Q (some (.ref D)) { s with toks := s.toks + 1 }) : wpAny (model prog w) A (getAttr? (.ref x) "__class__") Q E s := by
  have hf : findObj K D od "__class__" = some (.bind (.builtin "getset_descriptor.__get__") (.builtin "object.__class__")) := findObj_dataD (by obtain ⟨cd, hc, _⟩ := any_some hdct; rw [hc]; rfl) ha hn htk
  obtain ⟨hp, g, d, t, os⟩ := s
  have L0 := I.type (M := model prog w)
  have L1 := looks_findIn (M := model prog w) X hga
  have L2 := looks_findIn (M := model prog w) X hgt
  have L3 := looks_find (M := model prog w) X I hf
  have sub : Looks (model prog w) hp (isInstance (.ref x) (.type "BaseException")) true := L0.andThen (looks_subIn X hsub)
  have hx0 : (false && onTheHeap (Value.builtin "BaseException.__getattribute__")) = false := rfl
  have hx2 : (Value.builtin "BaseException.__getattribute__" == Value.builtin "object.__getattribute__") = false := by decide +kernel
  have hx1 : (onTheHeap (Value.ref D) && Value.builtin "BaseException.__getattribute__" == Value.builtin "object.__getattribute__") = false := by rw [hx2]; rfl
  unfold getAttr? getAttrBy? getAttrBy
  refine wpAny_bind (wpAny_mkText (wpAny_bind (wpAny_attempt (wpAny_holding (wpAny_bind (L0.at (wpAny_bind (L1.at ?_))))))))
  show wpAny _ _ (if (onTheHeap (Value.ref D) && Value.builtin "BaseException.__getattribute__" == Value.builtin "object.__getattribute__") = true then _ else _) _ _ _
  rw [hx1, if_neg Bool.false_ne_true]
  unfold getAttrByItsOwn hookBefore
  refine wpAny_bind ?_
  rw [if_pos (show onTheHeap (Value.ref D) = true from rfl)]
  refine L2.at ?_
  refine wpAny_bind (wpAny_attempt (wpAny_holding ?_))
  unfold callGetattribute
  rw [hx0, if_neg Bool.false_ne_true]
  unfold boundAndCalled
  rw [PySem.F.excAttr_ValueError.ga.bind (.ref x)]
  refine wpAny_bind (wpAny_pure ?_)
  show wpAny _ _ (call (.builtin "BaseException.__getattribute__") [.ref x, .str "__class__" t]) _ _ _
  refine wpAny_call (codeAny_call_builtin PySem.F.excAttr_ValueError.ga.plain PySem.F.entry_bexc_ga ?_)
  refine @check_slot (model prog w) _ _ ⟨hp, g, d, t + 1, os⟩ "BaseException.__getattribute__" "BaseException" "__getattribute__" (.ref x) [.str "__class__" t] [] _ (by decide +kernel) (by decide +kernel) sub (PySem.F.args_bexc_ga (.ref x) (.str "__class__" t)) ?_
  unfold Builtin.«object.__getattribute__»
  refine wpAny_bind (wpAny_of_eq (a := ((Value.ref x : Value), [Value.str "__class__" t])) (by first | rfl | (simp only [slotArgs]; rfl)) ?_)
  refine wpAny_bind (wpAny_pure (wpAny_bind (L0.at (wpAny_bind (L3.at ?_)))))
  show wpAny _ _ (holding [Value.builtin "object.__class__"] (call (.builtin "getset_descriptor.__get__") [.builtin "object.__class__", .ref x, .ref D]) >>= ret) _ _ _
  refine wpAny_bind (wpAny_holding (wpAny_call (class_get (s := ⟨hp, g, d, t + 1, os⟩) (ox := ox) (od := od) X I hm ?_)))
  refine wpAny_pure ?_
  show wpAny _ _ (handedOut (.ref D)) _ _ _
  rw [handedOut_of (v := .ref D) rfl]
  first
    | exact wpAny_pure (wpAny_pure h)
    | exact wpAny_pure h
    | exact wpAny_pure (wpAny_bind (wpAny_pure (wpAny_pure h)))
theorem kitx_errD (hga : findIn K (.ref D) "__getattribute__" = some (some (.builtin "BaseException.__getattribute__"))) (hgt : findIn K (.ref D) "__getattr__" = some none) (hsub : subIn K (.ref D) (.type "BaseException") = some true) (hdct : hasDictIn K D = true) (ha : findIn K (.ref D) "__class__" = some (some (.builtin "object.__class__")))
    (hn : specialIn K (.builtin "object.__class__") "__get__" = some (some (.builtin "getset_descriptor.__get__"))) (htk : takesIn K (.builtin "object.__class__") = some true) (hm : mroIn K D (.type "object") = some true) :
    KitX K (.ref x) (.ref D) (fun h => InstAt h x ox D od) where
  ty := fun _ _ _ I => I.type
  it := fun _ _ X _ => by
    obtain ⟨cdD, hcD, _⟩ := any_some hdct
    unfold clsIn at hcD
    split at hcD
    · rename_i c' d' cd' sl' ho
      intro A' Q' E' s' k q
      unfold isType loadHead
      exact wpAny_bind (wpAny_loadPart (k _ _ (X _ _ ho)) (wpAny_pure q))
    · cases hcD
  ne := fun h tp dd its n sl X htp => by
    obtain ⟨cdD, hcD, _⟩ := any_some hdct
    refine Bool.eq_false_iff.mpr fun q => ?_
    have e : D = tp := Value.ref.inj (beq_iff_eq.mp q)
    subst e
    unfold clsIn at hcD
    split at hcD
    · rename_i c' d' cd' sl' ho
      have z := (X _ _ ho).symm.trans htp
      cases z
    · cases hcD
  ca := fun X I k => kin_classD hga hgt hsub hdct ha hn htk hm X I k
end
end HmPX
end PySem
namespace Hm
open PySem PySem.Spec PyProof.Rows L2 Evl NdefX
/-! ### errors as values -/
/-- at a an error of the class at C, not raised, with the attributes fs -/
def ErrAt (H : Hp) (a C : Addr) (fs : List (Str × V)) : Prop := (fs = [] ∧ H a = some (exo a C none)) ∨ ∃ d, H a = some (exo a C (some d)) ∧ H d = some (exd d fs)
theorem ErrAt.ex {H H' : Hp} {a C : Addr} {fs : List (Str × V)} (h : ErrAt H a C fs) (e : Ex H H') : ErrAt H' a C fs := by
  rcases h with ⟨h, q⟩ | ⟨d, q, r⟩
  · exact .inl ⟨h, e _ _ q⟩
  · exact .inr ⟨d, e _ _ q, e _ _ r⟩
/-- C(e, .., k = v, ..), an own error -/
def tMkE (C : Addr) (n m : Nat) (sp : Sp) (gV : List V → List V → List V) (t tk : TA) : TE := fun σ H Q => t σ H fun vs H1 => tk σ H1 fun zs H2 => vs.length = n ∧ zs.length = m ∧
  ∀ a, H2 a = none → sp (gV (.ref a :: vs) zs) (upd H2 a (exo a C none)) (fun v H3 => v = .non ∧ Q (.ref a) H3) (fun _ _ _ => False)
section
variable {X : Cx} {CX : CXT} {k n : Nat} {fI C : Addr} {fd : FuncData} {ps ks : List Str} {sp : Sp} {x : Str} {p pos : Pos} {e : Expr} {es : List Expr} {kws : List Keyword} {t tk : TA} {g : List Value → List Value → List Value} {gV : List V → List V → List V}
theorem run_mkE {pins : List (Addr × Obj)} {σ : L2.St} {H : Hp} {s : Shared} {Q : VK} {us ws : List Value} {vs zs : List V} (T : OexC X.K C) (iC : PySem.W.findIn X.K (.ref C) "__init__" = some (some (.ref fI))) (tI : PySem.W.typeIn X.K (.ref fI) = some (.type "function"))
    (F1 : FnOk X.prog X.w X.K X.mg X.base CX k fI fd ps sp) (hr : Room (k + 1) X.A) (hb : KBn X.K fd ps (n + 1) ks g gV) (hn : n ≤ 1000)
    (hx : Passes CX X (fun _ _ _ => False)) (I : Inv X pins σ H s) (r : Vals vs us) (rz : Vals zs ws) (l1 : vs.length = n) (l2 : zs.length = ks.length)
    (h : ∀ a, H a = none → sp (gV (.ref a :: vs) zs) (upd H a (exo a C none)) (fun v H2 => v = .non ∧ Q (.ref a) H2) (fun _ _ _ => False)) :
    wpAny (model X.prog X.w) X.A (call (.ref C) us (ks.zip ws)) (EP X pins σ Q) X.xe s := by
  obtain ⟨nm, q, N, bs, bm, sn, sub, ab, col, dd, k0, k1, k2, k3, k5, hC, hbm⟩ := T.cls
  obtain ⟨hp, gg, dr, tk, os⟩ := s
  have hsz : hp.objs.size ≤ hp.objs.size + 1 := Nat.le_succ _
  have hno : H (hp.objs.size + 1) = none := I.hok.fresh hsz
  have hq := h (hp.objs.size + 1) hno
  have kk : ∀ b o, hp.get? b = some o → ((hp.push (PySem.W.kdv_tup us)).push (PySem.HandSPX.excO C hp.objs.size)).get? b = some o := fun b o e => Heap.get?_push_of_some _ (Heap.get?_push_of_some _ e)
  have hget : ((hp.push (PySem.W.kdv_tup us)).push (PySem.HandSPX.excO C hp.objs.size)).get? (hp.objs.size + 1) = some (PySem.HandSPX.excO C hp.objs.size) := by heap_get
  have I2 : Inv X pins σ (upd H (hp.objs.size + 1) (exo (hp.objs.size + 1) C none)) ⟨(hp.push (PySem.W.kdv_tup us)).push (PySem.HandSPX.excO C hp.objs.size), gg, dr, tk, os⟩ :=
    I.laid (t' := tk) (a := hp.objs.size + 1) (o := exo (hp.objs.size + 1) C none) (h' := (hp.push (PySem.W.kdv_tup us)).push (PySem.HandSPX.excO C hp.objs.size)) kk hsz (exo_ok hget)
  have r1 : Vals (V.ref (hp.objs.size + 1) :: vs) (Value.ref (hp.objs.size + 1) :: us) := .cons rfl r
  have r2 := hb.rel r1 rz
  have e1 : (Value.ref (hp.objs.size + 1) :: us).length = n + 1 := r1.length.symm.trans (congrArg Nat.succ l1)
  have hus : us.length ≤ sizeLine := by
    rw [← Paired.length r, l1, sizeLine_eq]
    omega
  refine wpAny_call (PySem.HmPX.call_kw F.excBase_ValueError (fun Y => PySem.HandSPX.refsVE_contains Y bm hbm) (I.kIn _ _ hC) (PySem.W.looks_findIn I.kIn iC) (fun self => PySem.W.bind_fn I.kIn self tI) hus
    (codeAny_mono (F1.run _ X.stack _ _ ⟨Value.ref (hp.objs.size + 1) :: us, ks.zip ws⟩ (g (Value.ref (hp.objs.size + 1) :: us) ws) _ _ (fun _ _ _ => False) (hr.make C us (ks.zip ws)) (I2.env0.make C us (ks.zip ws)) (hb.to _ (Value.ref (hp.objs.size + 1) :: us) ws I2.kIn e1 (rz.length.symm.trans l2)) r2 hq) fun r s' hq' => ?_))
  cases r with
  | error er => exact hx pins σ _ _ er s' I2 hq'
  | ok fl =>
    cases fl with
    | ret u =>
      obtain ⟨v, H', I3, rv, ev, q3⟩ := I2.after hq'
      subst ev
      exact ⟨rv, ⟨V.ref (hp.objs.size + 1), H', I3, rfl, q3⟩⟩
    | next => exact False.elim hq'
    | brk => exact False.elim hq'
    | cont => exact False.elim hq'
/-- C() -/
theorem pe_mkE0 (T : OexC X.K C) (iC : PySem.W.findIn X.K (.ref C) "__init__" = some (some (.ref fI))) (tI : PySem.W.typeIn X.K (.ref fI) = some (.type "function"))
    (F1 : FnOk X.prog X.w X.K X.mg X.base CX k fI fd ps sp) (hr : Room (k + 1) X.A) (hg : Gl X x) (hm : X.mg x = some (.ref C)) (hb : KBn X.K fd ps 1 [] g gV) (hx : Passes CX X (fun _ _ _ => False))
    (hdb : (x == ("__debug__" : Str)) = false := by decide) : PE X (.Call (.Name x p) [] [] pos) (tMkE C 0 0 sp gV tNil tNil) := by
  refine ⟨fun pins s σ H Q I h => ?_⟩
  refine wpAny_Call_Name_kw (ld_glob I hg hm ?_ hdb)
  refine PySem.W.callWith_K0 I.kIn T.kC ?_
  obtain ⟨_, _, h⟩ := (show (0 : Nat) = 0 ∧ (0 : Nat) = 0 ∧ _ from h)
  exact run_mkE (us := []) (vs := []) (ws := []) (zs := []) (n := 0) (ks := []) T iC tI F1 hr hb (by decide) hx I .nil .nil rfl rfl h
/-- C(e, ..) -/
theorem pe_mkE (hn : n ≤ 1000) (T : OexC X.K C) (iC : PySem.W.findIn X.K (.ref C) "__init__" = some (some (.ref fI))) (tI : PySem.W.typeIn X.K (.ref fI) = some (.type "function"))
    (F1 : FnOk X.prog X.w X.K X.mg X.base CX k fI fd ps sp) (hr : Room (k + 1) X.A) (hg : Gl X x) (hm : X.mg x = some (.ref C)) (hb : KBn X.K fd ps (n + 1) [] g gV) (hx : Passes CX X (fun _ _ _ => False)) (ha : PA X (e :: es) t)
    (hdb : (x == ("__debug__" : Str)) = false := by decide) (he : starEach (e :: es) X.env = (false, eval e X.env) :: starEach es X.env := by rfl) (hpl : (backTo pos (starEach es X.env)).any (·.1) = false := by rfl) :
    PE X (.Call (.Name x p) (e :: es) [] pos) (tMkE C n 0 sp gV t tNil) := by
  refine ⟨fun pins s σ H Q I h => ?_⟩
  refine wpAny_Call_Name_kw (ld_glob I hg hm ?_ hdb)
  refine PySem.W.callWith_K (h₀ := X.base) I.ok.mod.kin T.kC (thn (ha.run pos pins s σ H _ I h) fun us s1 ⟨vs, H1, I1, r1, hz, _, q1⟩ => ⟨I1.kIn, ?_⟩) he hpl
  exact run_mkE (ws := []) (zs := []) (n := n) (ks := []) T iC tI F1 hr hb hn hx I1 r1 .nil hz rfl q1
/-- C(k = v, ..) -/
theorem pe_mkEK (T : OexC X.K C) (iC : PySem.W.findIn X.K (.ref C) "__init__" = some (some (.ref fI))) (tI : PySem.W.typeIn X.K (.ref fI) = some (.type "function"))
    (F1 : FnOk X.prog X.w X.K X.mg X.base CX k fI fd ps sp) (hr : Room (k + 1) X.A) (hg : Gl X x) (hm : X.mg x = some (.ref C)) (hb : KBn X.K fd ps 1 ks g gV) (hx : Passes CX X (fun _ _ _ => False)) (hkw : PK X kws tk)
    (hall : (backToKw pos (keywordEach kws X.env)).all (·.1.isSome) = true := by rfl) (hks : (backToKw pos (keywordEach kws X.env)).filterMap (·.1) = ks := by rfl) (hdb : (x == ("__debug__" : Str)) = false := by decide)
    (hpl : ((backTo pos (starEach [] X.env)).any (·.1) || (backToKw pos (keywordEach kws X.env)).any (·.1.isNone)) = false := by rfl) :
    PE X (.Call (.Name x p) [] kws pos) (tMkE C 0 ks.length sp gV tNil tk) := by
  refine ⟨fun pins s σ H Q I h => ?_⟩
  refine wpAny_Call_Name_kw (ld_glob I hg hm ?_ hdb)
  refine PySem.W.callWith_KW0 (h₀ := X.base) I.ok.mod.kin T.kC hall ?_ hpl
  refine thn (hkw.run pos pins s σ H _ I h) fun ws s2 ⟨zs, H2, I2, rz, l1, l2, q2⟩ => ⟨I2.kIn, ?_⟩
  rw [hks]
  exact run_mkE (us := []) (vs := []) (n := 0) T iC tI F1 hr hb (by decide) hx I2 .nil rz rfl l2 q2
end
/-- values by place, then keywords in the parameters' order turned about -/
abbrev gR {α : Type} (us ws : List α) : List α := us ++ ws.reverse
theorem vals_rev : ∀ {vs : List V} {us : List Value}, Vals vs us → Vals vs.reverse us.reverse
  | _, _, .nil => .nil
  | _, _, .cons h k => by
    rw [List.reverse_cons, List.reverse_cons]
    exact (vals_rev k).append (.cons h .nil)
theorem kbn_of {K : PySem.W.Frag} {fd : FuncData} {ps ks : List Str} {n : Nat} (h : ∀ us ws : List Value, us.length = n → ws.length = ks.length → bindArgs fd ⟨us, ks.zip ws⟩ = pure (ps.zip (gR us ws))) : KBn K fd ps n ks gR gR :=
  ⟨fun s us ws _ l1 l2 => BindsTo.of_looks fun M => .of_pure (h us ws l1 l2), fun r1 r2 => r1.append (vals_rev r2)⟩
/-! ### f-strings -/
def tFs (ts : List TE) : TE := fun σ H Q => tJs ts Str.empty σ H fun out H1 => Q (.str out) H1
inductive FsL (σ : L2.St) (H : Hp) : List TE → Prop where
  | nil : FsL σ H []
  | cons {t : TE} {ts : List TE} {y : Str} (h : Ev t σ H (.str y)) (l : y.length ≤ 2000) (r : FsL σ H ts) : FsL σ H (t :: ts)
theorem FsL.ex {σ : L2.St} {H H' : Hp} {ts : List TE} (h : FsL σ H ts) (e : Ex H H') : FsL σ H' ts := by
  induction h with
  | nil => exact .nil
  | cons h l r ih => exact .cons (fun H1 e1 => h H1 (e.trans e1)) l ih
theorem fs_run {σ : L2.St} {ts : List TE} : ∀ {H : Hp} {acc : Str}, FsL σ H ts → acc.length + 2000 * ts.length ≤ 50000 → ∃ out, ∀ H1, Ex H H1 → ∀ Q : Str → Hp → Prop, (∀ H2, Ex H1 H2 → Q out H2) → tJs ts acc σ H1 Q := by
  induction ts with
  | nil => exact fun {H acc} _ _ => ⟨acc, fun H1 _ Q q => q H1 (Ex.refl H1)⟩
  | cons t ts ih =>
    intro H acc h hl
    cases h with
    | @cons _ _ y h l r =>
      rw [List.length_cons] at hl
      have hy : (acc ++ y).length = acc.length + y.length := PySem.Str.length_append acc y
      obtain ⟨out, q⟩ := ih (acc := acc ++ y) r (by omega)
      exact ⟨out, fun H1 e1 Q k => h H1 e1 _ fun H2 e2 => ⟨y, rfl, by rw [hy, sizeLine_eq]; omega, q H2 (e1.trans e2) Q fun H3 e3 => k H3 (e2.trans e3)⟩⟩
theorem fs_ev {σ : L2.St} {H : Hp} {ts : List TE} (h : FsL σ H ts) (hl : ts.length ≤ 10) : ∃ out, Ev (tFs ts) σ H (.str out) := by
  obtain ⟨out, q⟩ := fs_run (acc := Str.empty) h (by show 0 + _ ≤ _; omega)
  exact ⟨out, fun H1 e1 Q k => q H1 e1 _ k⟩
theorem ev_fmtI {σ : L2.St} {H : Hp} {te : TE} {i : Int} (h : Ev te σ H (.int i)) (hi : i.natAbs.log2 < 1900) : Ev (tFmt te) σ H (.str (toString i)) := fun H1 e1 Q q => h H1 e1 _ fun H2 e2 => .inr ⟨i, rfl, by omega, q H2 e2⟩
theorem ev_fmtS {σ : L2.St} {H : Hp} {te : TE} {y : Str} (h : Ev te σ H (.str y)) (hy : y.length ≤ 2000) : Ev (tFmt te) σ H (.str y) := fun H1 e1 Q q => h H1 e1 _ fun H2 e2 => .inl ⟨y, rfl, by rw [sizeLine_eq]; omega, q H2 e2⟩
theorem int_len {i : Int} (hi : i.natAbs.log2 < 1900) : (Str.ofString (toString i)).length ≤ 2000 := by
  have e := int_text_length_le (k := 1900) (by decide) hi
  rw [PySem.ofString_length]; omega
/-- what is known of the object at such an error -/
theorem inst_err {X : Cx} {pins : List (Addr × Obj)} {σ : L2.St} {H : Hp} {s : Shared} {a C : Addr} {fs : List (Str × V)} (I : Inv X pins σ H s) (h : ErrAt H a C fs) : ∃ (ox : Obj) (od : Option Obj), PySem.W.InstAt s.heap a ox C od := by
  rcases h with ⟨_, q⟩ | ⟨d, q, r⟩
  · obtain ⟨t1, e⟩ := exo_at I.hok q
    exact ⟨_, none, ⟨e, rfl, rfl, True.intro⟩⟩
  · obtain ⟨t1, e⟩ := exo_at I.hok q
    obtain ⟨mA, ⟨o, es, ep, ho, _⟩, _⟩ := exd_at I.hok r
    exact ⟨_, some o, ⟨e, rfl, rfl, ho⟩⟩
/-- isinstance(e, c) -/
def rIsErr (K : PySem.W.Frag) : List V → Hp → VK → Prop := fun xs H Q => ∃ (a D : Addr) (fs : List (Str × V)) (c : V) (cv : Value) (b : Bool), xs = [.ref a, c] ∧ ErrAt H a D fs ∧ ExcC K D ∧ (∀ u, RelV c u → u = cv) ∧ PySem.W.kitOne K (.ref D) cv = some b ∧ Q (.bl b) H
theorem call_isErr {X : Cx} : CallR X (.builtin "isinstance") (rIsErr X.K) := by
  intro pins s σ H xs us Q I r h
  obtain ⟨a, D, fs, c, cv, b, rfl, ea, C, hcv, e, q⟩ := h
  cases r with
  | cons rx rr =>
    cases rr with
    | cons rt rr =>
      cases rr
      cases rx
      have ec := hcv _ rt
      subst ec
      obtain ⟨ox, od, J⟩ := inst_err I ea
      exact PySem.W.kia_one (PySem.HmPX.kitx_errD C.hg C.hk C.hs C.hd C.ha C.hn C.ht C.hm) I.kIn J e (fun z => nomatch z) fun tk => ⟨.bl b, H, I.kept (t' := tk) fun _ _ z => z, rfl, q⟩
/-- e.f of such an error -/
def tErF (K : PySem.W.Frag) (f : Str) (te : TE) : TE := fun σ H Q => te σ H fun x H1 => ∃ (a C : Addr) (fs : List (Str × V)) (v : V), x = .ref a ∧ ErrAt H1 a C fs ∧ ExcC K C ∧ PySem.W.findIn K (.ref C) f = some none ∧ fs.lookup f = some v ∧ Q v H1
theorem pe_erF {X : Cx} {e : Expr} {te : TE} {pos : Pos} {n : Str} (he : PE X e te) (hb : attributeBase e n X.env (eval e X.env) = eval e X.env := by rfl) : PE X (.Attribute e n pos) (tErF X.K n te) := by
  refine ⟨fun pins s σ H Q I h => ?_⟩
  refine attr_of hb (thn (he.run pins s σ H _ I h) fun u s1 hh => ?_)
  obtain ⟨x, H1, I1, rx, a, C, fs, v, ex, ea, T, hno, l, q⟩ := hh
  subst ex
  obtain rfl : u = Value.ref a := rx
  rcases ea with ⟨rfl, _⟩ | ⟨d, ea, ed⟩
  · cases l
  obtain ⟨t1, e1⟩ := exo_at I1.hok ea
  obtain ⟨mA, hns, hr⟩ := exd_at I1.hok ed
  obtain ⟨od, ho, hl⟩ := lookIn_ns hns
  obtain ⟨u, hu, ru⟩ := RelO.some_of (v := v) (o := mA n) (by rw [← l]; exact hr n)
  have J : PySem.W.InstAt s1.heap a _ C (some od) := ⟨e1, rfl, rfl, ho⟩
  exact HandSPX.exc_get I1.kIn J T.hg T.hk T.hs (PySem.W.findObj_own T.hd hno rfl (by rw [hl, hu])) (handed_of ru) ⟨v, H1, I1.tok _, ru, q⟩
end Hm
namespace Hm
open PySem PySem.Spec PyProof.Rows L2 Evl
/-! ### the program: the class Mesh -/
def mfs (l1 l2 l3 : Addr) : List (Str × V) := putF "_turns" (.ref l3) (putF "_prevs" (.ref l2) (putF "_nexts" (.ref l1) []))
theorem s12 : ¬ (("_nexts" : Str) = "_prevs") := by decide +kernel
theorem s13 : ¬ (("_nexts" : Str) = "_turns") := by decide +kernel
theorem s23 : ¬ (("_prevs" : Str) = "_turns") := by decide +kernel
theorem mfs_n (l1 l2 l3 : Addr) : (mfs l1 l2 l3).lookup ("_nexts" : Str) = some (.ref l1) := by
  unfold mfs
  rw [lookup_putF, if_neg s13, lookup_putF, if_neg s12, lookup_putF, if_pos rfl]
theorem mfs_p (l1 l2 l3 : Addr) : (mfs l1 l2 l3).lookup ("_prevs" : Str) = some (.ref l2) := by
  unfold mfs
  rw [lookup_putF, if_neg s23, lookup_putF, if_pos rfl]
theorem mfs_t (l1 l2 l3 : Addr) : (mfs l1 l2 l3).lookup ("_turns" : Str) = some (.ref l3) := by
  unfold mfs
  rw [lookup_putF, if_pos rfl]
theorem mfs_no {m : Str} (l1 l2 l3 : Addr) (h1 : ¬ m = "_nexts") (h2 : ¬ m = "_prevs") (h3 : ¬ m = "_turns") : (mfs l1 l2 l3).lookup m = none := by
  unfold mfs
  rw [lookup_putF, if_neg h3, lookup_putF, if_neg h2, lookup_putF, if_neg h1]
  rfl
theorem putF_len (f : Str) (v : V) : ∀ fs : List (Str × V), (putF f v fs).length ≤ fs.length + 1
  | [] => Nat.le_refl _
  | (g, x) :: r => by
    unfold putF
    split
    · exact Nat.le_succ _
    · have := putF_len f v r
      simp only [List.length_cons]
      omega
def MeshAt (K : PySem.W.Frag) (H : Hp) (x : Addr) (ns : List Nat) : Prop := ∃ dx l1 l2 l3 : Addr, H x = some (.ins (He.ga K "Mesh") dx (mfs l1 l2 l3)) ∧
  H l1 = some (.lst (L ns)) ∧ H l2 = some (.lst (L (prevs ns))) ∧ H l3 = some (.lst (L (turns ns)))
theorem MeshAt.ex {K : PySem.W.Frag} {H H' : Hp} {x : Addr} {ns : List Nat} (h : MeshAt K H x ns) (e : Ex H H') : MeshAt K H' x ns := by
  obtain ⟨dx, l1, l2, l3, a, b, c, d⟩ := h
  exact ⟨dx, l1, l2, l3, e _ _ a, e _ _ b, e _ _ c, e _ _ d⟩
/-- the same, its lists not tracked by H0 -/
def MeshN (K : PySem.W.Frag) (H0 H : Hp) (x : Addr) (ns : List Nat) : Prop := ∃ dx l1 l2 l3 : Addr, H x = some (.ins (He.ga K "Mesh") dx (mfs l1 l2 l3)) ∧
  H l1 = some (.lst (L ns)) ∧ H l2 = some (.lst (L (prevs ns))) ∧ H l3 = some (.lst (L (turns ns))) ∧ H0 l1 = none ∧ H0 l2 = none ∧ H0 l3 = none
theorem MeshN.at {K : PySem.W.Frag} {H0 H : Hp} {x : Addr} {ns : List Nat} (h : MeshN K H0 H x ns) : MeshAt K H x ns := by
  obtain ⟨dx, l1, l2, l3, a, b, c, d, _⟩ := h
  exact ⟨dx, l1, l2, l3, a, b, c, d⟩
theorem MeshN.ex {K : PySem.W.Frag} {H0 H H' : Hp} {x : Addr} {ns : List Nat} (h : MeshN K H0 H x ns) (e : Ex H H') : MeshN K H0 H' x ns := by
  obtain ⟨dx, l1, l2, l3, a, b, c, d, f⟩ := h
  exact ⟨dx, l1, l2, l3, e _ _ a, e _ _ b, e _ _ c, e _ _ d, f⟩
theorem MeshN.back {K : PySem.W.Frag} {H0 H1 H : Hp} {x : Addr} {ns : List Nat} (h : MeshN K H1 H x ns) (e : Ex H0 H1) : MeshN K H0 H x ns := by
  obtain ⟨dx, l1, l2, l3, a, b, c, d, f, g, i⟩ := h
  exact ⟨dx, l1, l2, l3, a, b, c, d, fresh_back e f, fresh_back e g, fresh_back e i⟩
theorem MeshN.upd {K : PySem.W.Frag} {H0 H : Hp} {x p : Addr} {ns : List Nat} {o u : HO} (h : MeshN K H0 H x ns) (hp : H0 p = some u) (hx : H0 x = none) : MeshN K H0 (upd H p o) x ns := by
  obtain ⟨dx, l1, l2, l3, a, b, c, d, f, g, i⟩ := h
  exact ⟨dx, l1, l2, l3, by rw [upd_ne (ne_of_none hp hx).symm]; exact a, by rw [upd_ne (ne_of_none hp f).symm]; exact b, by rw [upd_ne (ne_of_none hp g).symm]; exact c, by rw [upd_ne (ne_of_none hp i).symm]; exact d, f, g, i⟩
/-- a list of next halves of a mesh, of bearable length -/
structure MP (ns : List Nat) : Prop where
  p : IsP ns
  two : ns.length % 2 = 0
  len : ns.length ≤ 1000
theorem nat_xor_1 (n : Nat) : n ^^^ 1 = tw n := by
  have h1 : (n ^^^ 1) / 2 = n / 2 := by rw [Nat.xor_div_two]; simp
  have h2 := Nat.xor_mod_two_eq_one (a := n) (b := 1)
  unfold tw
  by_cases q : (n ^^^ 1) % 2 = 1
  · have := h2.mp q
    split <;> omega
  · have := fun w => q (h2.mpr w)
    split <;> omega
theorem xor_tw (n : Nat) : Builtin.bitXor (n : Int) 1 = ((tw n : Nat) : Int) := by
  rw [Bits.bitXor_pp (by omega) (by decide), ← nat_xor_1]
  rfl
theorem itr_congr {f g : Nat → Nat} {N : Nat} (P : Pf f N) (e : ∀ x, x < N → f x = g x) {x : Nat} (hx : x < N) (k : Nat) : itr f k x = itr g k x := by
  induction k with
  | zero => rfl
  | succ k ih =>
    show f (itr f k x) = g (itr g k x)
    rw [← ih]
    exact e _ (itr_lt P hx k)
theorem per_congr {f g : Nat → Nat} {N : Nat} (P : Pf f N) (e : ∀ x, x < N → f x = g x) {x : Nat} (hx : x < N) : per f N x = per g N x := by
  unfold per
  have : (fun k => itr f (k + 1) x == x) = fun k => itr g (k + 1) x == x := by
    funext k
    rw [itr_congr P e hx]
  rw [this]
theorem rnd_congr {f g : Nat → Nat} {N : Nat} (P : Pf f N) (e : ∀ x, x < N → f x = g x) {x : Nat} (hx : x < N) : rnd f N x = rnd g N x := by
  unfold rnd
  rw [per_congr P e hx]
  exact List.map_congr_left fun k _ => itr_congr P e hx k
theorem cycs_congr {f g : Nat → Nat} {N : Nat} (P : Pf f N) (e : ∀ x, x < N → f x = g x) : cycs f N N = cycs g N N := by
  unfold cycs
  have h1 : (List.range N).filter (isMin f N) = (List.range N).filter (isMin g N) := by
    refine List.filter_congr fun x hx => ?_
    unfold isMin
    rw [rnd_congr P e (List.mem_range.mp hx)]
  rw [h1]
  refine List.map_congr_left fun x hx => ?_
  exact rnd_congr P e (List.mem_range.mp (List.mem_filter.mp hx).1)
/-- the faces, the corners -/
def cyc (ns : List Nat) (b : Bool) : List (List Nat) := cycs (stp ns b) ns.length ns.length
theorem cyc_faces (ns : List Nat) : cycs (fn ns) ns.length ns.length = cyc ns true := rfl
theorem cyc_corners {ns : List Nat} (h : IsP ns) (h2 : ns.length % 2 = 0) : cycs (fn (turns ns)) (turns ns).length (turns ns).length = cyc ns false := by
  have h3 := pf_fn (isP_turns h h2)
  rw [turns_len] at h3 ⊢
  exact cycs_congr h3 fun x hx => fn_turns hx

def tRz (C : Addr) (sp : Sp) (E : XK) : TS := fun _ σ H => tMk0 C sp σ H E
def sp_NotAMeshinit (K : PySem.W.Frag) : Sp := fun vs H Q _ => ∃ x : Addr, vs = [.ref x] ∧ H x = some (exo x (He.ga K "NotAMesh") none) ∧ Q .non H
abbrev nm_NotAMeshinit : List Str := ["self", "__class__"]
abbrev pr_NotAMeshinit : List Str := ["self"]
theorem ln_NotAMeshinit {K : PySem.W.Frag} (vs : List V) (H : Hp) (Q : VK) (E : XK) (h : sp_NotAMeshinit K vs H Q E) : vs.length = pr_NotAMeshinit.length := by
  obtain ⟨_, rfl, _⟩ := h
  rfl
theorem del_upd {H : Hp} {a : Addr} {o : HO} (h : H a = none) : del (L2.upd H a o) a = H := by
  funext b
  by_cases q : b = a
  · rw [q, del_same, h]
  · rw [del_ne q, upd_ne q]
theorem rz_NotAMesh {K : PySem.W.Frag} {E : XK} {D : Ends} {σ : L2.St} {H : Hp} (k : E (.ref (He.ga K "NotAMesh")) none H) : tRz (He.ga K "NotAMesh") (sp_NotAMeshinit K) E D σ H := fun a ha =>
  ⟨a, rfl, upd_same, rfl, upd_same, by rw [del_upd ha]; exact k⟩
def sp_Meshinit (K : PySem.W.Frag) : Sp := fun vs H Q E => ∃ (x dx a : Addr) (xs : List V), vs = [.ref x, .ref a] ∧ H x = some (.ins (He.ga K "Mesh") dx []) ∧ SqL K H a xs ∧ xs.length ≤ 1000 ∧ (∀ v ∈ xs, IB v) ∧
  (∀ ns, xs = L ns → MP ns → ∀ H', MeshN K H H' x ns → ExO x H H' → Q .non H') ∧ (¬ Good xs → ∀ H', Ex H H' → E (.ref (He.ga K "NotAMesh")) none H')
abbrev nm_Meshinit : List Str := ["self", "nexts", "links", "half"]
abbrev pr_Meshinit : List Str := ["self", "nexts"]
def t_Meshinit (K : PySem.W.Frag) (E : XK) : TS :=
  (tSeq (tAsg (tCB (cList K) (tCons (tVar 1) tNil)) (gName 2))
  (tSeq (tIfS (tNot (tB (tCall (sp_areallhalves K) [] E0 (tCons (tVar 2) tNil)))) (tRz (He.ga K "NotAMesh") (sp_NotAMeshinit K) E) tNext)
  (tSeq (sFld K (tVar 0) (tVar 2) "_nexts")
  (tSeq (sFld K (tVar 0) (tCall (sp_inverse K) [] E0 (tCons (tVar 2) tNil)) "_prevs")
  (sFld K (tVar 0) (tLc (iList K (tFld K (tVar 0) "_prevs")) (gName 3) tYes (tOp zXor (tVar 3) (tC (.int 1))) [3]) "_turns")))))
abbrev Wt_Meshinit (K : PySem.W.Frag) (vs : List V) (H : Hp) (Q : VK) (E : XK) : Prop := t_Meshinit K E { nx := fun _ H' => Q .non H', rt := Q } (start nm_Meshinit vs) H
theorem ln_Meshinit {K : PySem.W.Frag} (vs : List V) (H : Hp) (Q : VK) (E : XK) (h : sp_Meshinit K vs H Q E) : vs.length = pr_Meshinit.length := by
  obtain ⟨_, _, _, _, rfl, _⟩ := h
  rfl
theorem good_L {ns : List Nat} (h : MP ns) : Good (L ns) := ⟨ns, rfl, h.p, h.two⟩
theorem ib_L (ns : List Nat) : ∀ x ∈ L ns, IB x := fun x hx => by
  obtain ⟨n, _, rfl⟩ := List.mem_map.mp hx
  exact .inl ⟨_, rfl⟩
theorem spv_ahT {K : PySem.W.Frag} {H : Hp} {a : Addr} {xs : List V} (hS : SqL K H a xs) (hl : xs.length ≤ 1000) (hI : ∀ v ∈ xs, IB v) (h : Good xs) : SpV (sp_areallhalves K) [.ref a] H (.bl true) := fun H1 e Q q E =>
  ⟨a, xs, rfl, ex_l e hS, by omega, hI, fun b H' hb ex => by
    rw [hb.mpr h]
    exact q H' ex⟩
theorem spv_ahF {K : PySem.W.Frag} {H : Hp} {a : Addr} {xs : List V} (hS : SqL K H a xs) (hl : xs.length ≤ 1000) (hI : ∀ v ∈ xs, IB v) (h : ¬ Good xs) : SpV (sp_areallhalves K) [.ref a] H (.bl false) := fun H1 e Q q E =>
  ⟨a, xs, rfl, ex_l e hS, by omega, hI, fun b H' hb ex => by
    have : b = false := by
      cases b with
      | false => rfl
      | true => exact absurd (hb.mp rfl) h
    rw [this]
    exact q H' ex⟩
theorem rd_Meshinit {K : PySem.W.Frag} (F : KF K) (vs : List V) (H : Hp) (Q : VK) (E : XK) (h : sp_Meshinit K vs H Q E) : Wt_Meshinit K vs H Q E := by
  obtain ⟨x, dx, a, xs, rfl, hx, hS, hxl, hI, kg, kb⟩ := h
  show t_Meshinit K E _ [some (.ref x), some (.ref a), none, none] H
  refine q_asgL (el_cb (ea_1 (ev_var rfl)) (rcl_list hS)) (fun l1 H1 hl1 e1 h1 => ?_)
  by_cases hg : Good xs
  case neg =>
    refine q_when (b := !false) (et_not (et_B (ev_call (ea_1 (ev_var rfl)) (spv_ahF (sq_of h1) hxl hI hg)))) (fun _ H2 e2 => rz_NotAMesh (kb hg H2 (e1.trans e2))) (fun hb => nomatch hb)
  obtain ⟨ns, rfl, hP, h2⟩ := id hg
  have hM : MP ns := ⟨hP, h2, by rw [L_len] at hxl; exact hxl⟩
  have k := kg ns rfl hM
  have hxl1 : l1 ≠ x := (ne_of_none hx hl1).symm
  refine q_when (b := !true) (et_not (et_B (ev_call (ea_1 (ev_var rfl)) (spv_ahT (sq_of h1) hxl hI hg)))) (fun hb => nomatch hb) (fun _ H2 e2 => ?_)
  refine q_fld (C := He.ga K "Mesh") (dx := dx) (fs := []) (ev_var rfl) (ev_var rfl) (e2 _ _ (e1 _ _ hx)) F.cl F.n1 (by decide) (fun H3 e3 => ?_)
  have c3 : (upd H3 x (.ins (He.ga K "Mesh") dx (putF "_nexts" (.ref l1) []))) l1 = some (.lst (L ns)) := by
    rw [upd_ne hxl1]
    exact e3 _ _ (e2 _ _ h1)
  refine q_fldL (el_call (ea_1 (ev_var rfl)) (spl_inverse (sq_of c3) hM.p hM.len)) (ev_var rfl) upd_same F.cl F.n2 (by have := putF_len "_nexts" (.ref l1) []; simp only [List.length_nil] at this; omega) (fun l2 H4 hl2 e4 h4 => ?_)
  have hxl2 : l2 ≠ x := (ne_of_none upd_same hl2).symm
  have hl12 : l1 ≠ l2 := ne_of_none c3 hl2
  have d1 : (upd H4 x (.ins (He.ga K "Mesh") dx (putF "_prevs" (.ref l2) (putF "_nexts" (.ref l1) [])))) l1 = some (.lst (L ns)) := by
    rw [upd_ne hxl1]
    exact e4 _ _ c3
  have d2 : (upd H4 x (.ins (He.ga K "Mesh") dx (putF "_prevs" (.ref l2) (putF "_nexts" (.ref l1) [])))) l2 = some (.lst (L (prevs ns))) := by
    rw [upd_ne hxl2]
    exact h4
  have hlk : (putF "_prevs" (V.ref l2) (putF "_nexts" (V.ref l1) [])).lookup ("_prevs" : Str) = some (.ref l2) := by
    rw [lookup_putF, if_pos rfl]
  have hcomp : EvL (tLc (iList K (tFld K (tVar 0) "_prevs")) (gName 3) tYes (tOp zXor (tVar 3) (tC (.int 1))) [3]) [some (.ref x), some (.ref a), some (.ref l1), none] (upd H4 x (.ins (He.ga K "Mesh") dx (putF "_prevs" (.ref l2) (putF "_nexts" (.ref l1) [])))) (L (turns ns)) := by
    have := el_lcL (K := K) (σ := [some (.ref x), some (.ref a), some (.ref l1), none]) (H := upd H4 x (.ins (He.ga K "Mesh") dx (putF "_prevs" (.ref l2) (putF "_nexts" (.ref l1) [])))) (j := 3) (vs := [3]) (tl := tFld K (tVar 0) "_prevs") (t := tYes) (te := tOp zXor (tVar 3) (tC (.int 1))) (fun _ => true) (fun i => vi (fn (turns ns) i))
      (ev_fld (ev_var rfl) upd_same F.cl F.n2 hlk) (sq_of d2) (by rw [L_len, prevs_len]; have := hM.len; omega) (fun _ => rfl) (fun i y H1 _ _ => et_yes) (fun i y H1 _ hy _ => by
        obtain ⟨q1, rfl⟩ := L_item hy
        rw [prevs_len] at q1
        refine ev_is (ev_op (ev_var rfl) ev_c rv_I0) ?_
        show V.int (Builtin.bitXor (fn (prevs ns) i : Int) 1) = _
        rw [xor_tw, fn_prevs q1, fn_turns q1])
    rw [given_all] at this
    have e : (List.range (L (prevs ns)).length).map (fun i => vi (fn (turns ns) i)) = L (turns ns) := by
      refine List.ext_getElem? fun j => ?_
      rw [L_len, prevs_len]
      by_cases hj : j < ns.length
      · rw [List.getElem?_map, List.getElem?_range hj, L_get (by rw [turns_len]; exact hj)]
        rfl
      · rw [List.getElem?_eq_none (by rw [List.length_map, List.length_range]; omega), List.getElem?_eq_none (by rw [L_len, turns_len]; omega)]
    rw [e] at this
    exact this
  refine s_fldL hcomp (ev_var rfl) upd_same F.cl F.n3 (by have := putF_len "_nexts" (.ref l1) []; have := putF_len "_prevs" (.ref l2) (putF "_nexts" (.ref l1) []); simp only [List.length_nil] at *; omega) (fun l3 H5 hl3 e5 h5 => ?_)
  have hxl3 : l3 ≠ x := (ne_of_none upd_same hl3).symm
  have bkx : ∀ {l : Addr} {H' : Hp}, ExO x H H' → l ≠ x → H' l = none → H l = none := fun {l H'} e n q => by
    cases w : H l with
    | none => rfl
    | some o =>
      rw [e l o n w] at q
      cases q
  refine k _ ⟨dx, l1, l2, l3, upd_same, ?_, ?_, ?_, hl1, bkx (ExO.of (e1.trans (e2.trans e3))).upd hxl2 hl2, bkx (((ExO.of (e1.trans (e2.trans e3))).upd).trans (ExO.of e4)).upd hxl3 hl3⟩ ?_
  · rw [upd_ne hxl1]
    exact e5 _ _ d1
  · rw [upd_ne hxl2]
    exact e5 _ _ d2
  · rw [upd_ne hxl3]
    exact h5
  · exact ((((ExO.of (e1.trans (e2.trans e3))).upd).trans (ExO.of e4)).upd.trans (ExO.of e5)).upd
section
variable {K : PySem.W.Frag} {σ : L2.St} {H : Hp} {ta tb te : TE} {D : Ends} {tz : TS}
/-- i = Mesh(l) -/
theorem q_mesh {i : Nat} {a : Addr} {ns : List Nat} {E : XK} (h : Ev te σ H (.ref a)) (hS : SqL K H a (L ns)) (hM : MP ns) (k : ∀ x H1, H x = none → MeshN K H H1 x ns → Ex H H1 → tz D (σ.set i (some (.ref x))) H1) :
    tSeq (tAsg (tMake (He.ga K "Mesh") (sp_Meshinit K) [] E (tCons te tNil)) (gName i)) tz D σ H :=
  h H (Ex.refl H) _ fun H1 e1 => fun x dx hx hdx hne => by
    have hx0 := fresh_back e1 hx
    have ex : Ex H1 (upd (upd H1 dx (.own x)) x (.ins (He.ga K "Mesh") dx [])) := fun b o q => by
      rw [upd_ne (ne_of_none q hx), upd_ne (ne_of_none q hdx)]
      exact q
    refine ⟨x, dx, a, L ns, rfl, upd_same, ex_l (e1.trans ex) hS, by rw [L_len]; exact hM.len, ib_L ns, fun ms hms _ H2 m x2 => ⟨rfl, ?_⟩, fun hn => absurd (good_L hM) hn⟩
    obtain rfl := L_inj hms
    refine k x H2 hx0 (m.back (e1.trans ex)) fun b o q => ?_
    have hb : b ≠ x := ne_of_none q hx0
    exact x2 b o hb (ex b o (e1 b o q))
end
def sp_Meshafter (K : PySem.W.Frag) : Sp := fun vs H Q _ => ∃ (x : Addr) (ns : List Nat) (h : Nat), vs = [.ref x, vi h] ∧ MeshAt K H x ns ∧ h < ns.length ∧ ∀ H', Ex H H' → Q (vi (fn ns h)) H'
abbrev nm_Meshafter : List Str := ["self", "half"]
abbrev pr_Meshafter : List Str := ["self", "half"]
def t_Meshafter (K : PySem.W.Frag) : TS :=
  (tRet (tOp (rIxL K) (tFld K (tVar 0) "_nexts") (tVar 1)))
abbrev Wt_Meshafter (K : PySem.W.Frag) (vs : List V) (H : Hp) (Q : VK) : Prop := t_Meshafter K { nx := fun _ H' => Q .non H', rt := Q } (start nm_Meshafter vs) H
theorem ln_Meshafter {K : PySem.W.Frag} (vs : List V) (H : Hp) (Q : VK) (E : XK) (h : sp_Meshafter K vs H Q E) : vs.length = pr_Meshafter.length := by
  obtain ⟨_, _, _, rfl, _⟩ := h
  rfl
theorem rd_Meshafter {K : PySem.W.Frag} (F : KF K) (vs : List V) (H : Hp) (Q : VK) (E : XK) (h : sp_Meshafter K vs H Q E) : Wt_Meshafter K vs H Q := by
  obtain ⟨x, ns, h, rfl, ⟨dx, l1, l2, l3, a, b, c, d⟩, hh, k⟩ := h
  show t_Meshafter K _ [some (.ref x), some (vi h)] H
  exact s_ret (ev_op (ev_fld (ev_var rfl) a F.cl F.n1 (mfs_n _ _ _)) (ev_var rfl) (rv_ixL (sq_of b) (L_at hh))) (fun H1 e1 => k H1 e1)
def sp_Meshbefore (K : PySem.W.Frag) : Sp := fun vs H Q _ => ∃ (x : Addr) (ns : List Nat) (h : Nat), vs = [.ref x, vi h] ∧ MeshAt K H x ns ∧ h < ns.length ∧ ∀ H', Ex H H' → Q (vi (bk ns h)) H'
abbrev nm_Meshbefore : List Str := ["self", "half"]
abbrev pr_Meshbefore : List Str := ["self", "half"]
def t_Meshbefore (K : PySem.W.Frag) : TS :=
  (tRet (tOp (rIxL K) (tFld K (tVar 0) "_prevs") (tVar 1)))
abbrev Wt_Meshbefore (K : PySem.W.Frag) (vs : List V) (H : Hp) (Q : VK) : Prop := t_Meshbefore K { nx := fun _ H' => Q .non H', rt := Q } (start nm_Meshbefore vs) H
theorem ln_Meshbefore {K : PySem.W.Frag} (vs : List V) (H : Hp) (Q : VK) (E : XK) (h : sp_Meshbefore K vs H Q E) : vs.length = pr_Meshbefore.length := by
  obtain ⟨_, _, _, rfl, _⟩ := h
  rfl
theorem rd_Meshbefore {K : PySem.W.Frag} (F : KF K) (vs : List V) (H : Hp) (Q : VK) (E : XK) (h : sp_Meshbefore K vs H Q E) : Wt_Meshbefore K vs H Q := by
  obtain ⟨x, ns, h, rfl, ⟨dx, l1, l2, l3, a, b, c, d⟩, hh, k⟩ := h
  show t_Meshbefore K _ [some (.ref x), some (vi h)] H
  refine s_ret (ev_op (ev_fld (ev_var rfl) a F.cl F.n2 (mfs_p _ _ _)) (ev_var rfl) (rv_ixL (sq_of c) (L_at (by rw [prevs_len]; exact hh)))) (fun H1 e1 => ?_)
  show Q (vi (fn (prevs ns) h)) H1
  rw [fn_prevs hh]
  exact k H1 e1
def sp_Meshtwin (K : PySem.W.Frag) : Sp := fun vs H Q _ => ∃ (x : V) (h : Nat), vs = [x, vi h] ∧ ∀ H', Ex H H' → Q (vi (tw h)) H'
abbrev nm_Meshtwin : List Str := ["self", "half"]
abbrev pr_Meshtwin : List Str := ["self", "half"]
def t_Meshtwin (K : PySem.W.Frag) : TS :=
  (tRet (tOp zXor (tVar 1) (tC (.int 1))))
abbrev Wt_Meshtwin (K : PySem.W.Frag) (vs : List V) (H : Hp) (Q : VK) : Prop := t_Meshtwin K { nx := fun _ H' => Q .non H', rt := Q } (start nm_Meshtwin vs) H
theorem ln_Meshtwin {K : PySem.W.Frag} (vs : List V) (H : Hp) (Q : VK) (E : XK) (h : sp_Meshtwin K vs H Q E) : vs.length = pr_Meshtwin.length := by
  obtain ⟨_, _, rfl, _⟩ := h
  rfl
theorem rd_Meshtwin {K : PySem.W.Frag} (F : KF K) (vs : List V) (H : Hp) (Q : VK) (E : XK) (h : sp_Meshtwin K vs H Q E) : Wt_Meshtwin K vs H Q := by
  obtain ⟨x, h, rfl, k⟩ := h
  show t_Meshtwin K _ [some x, some (vi h)] H
  exact s_ret (v := vi (tw h)) (ev_is (ev_op (ev_var rfl) ev_c rv_I0) (by show V.int (Builtin.bitXor (h : Int) 1) = _; rw [xor_tw])) (fun H1 e1 => k H1 e1)
def sp_Meshturned (K : PySem.W.Frag) : Sp := fun vs H Q _ => ∃ (x : Addr) (ns : List Nat) (h : Nat), vs = [.ref x, vi h] ∧ MeshAt K H x ns ∧ h < ns.length ∧ ∀ H', Ex H H' → Q (vi (tw (bk ns h))) H'
abbrev nm_Meshturned : List Str := ["self", "half"]
abbrev pr_Meshturned : List Str := ["self", "half"]
def t_Meshturned (K : PySem.W.Frag) : TS :=
  (tRet (tOp (rIxL K) (tFld K (tVar 0) "_turns") (tVar 1)))
abbrev Wt_Meshturned (K : PySem.W.Frag) (vs : List V) (H : Hp) (Q : VK) : Prop := t_Meshturned K { nx := fun _ H' => Q .non H', rt := Q } (start nm_Meshturned vs) H
theorem ln_Meshturned {K : PySem.W.Frag} (vs : List V) (H : Hp) (Q : VK) (E : XK) (h : sp_Meshturned K vs H Q E) : vs.length = pr_Meshturned.length := by
  obtain ⟨_, _, _, rfl, _⟩ := h
  rfl
theorem rd_Meshturned {K : PySem.W.Frag} (F : KF K) (vs : List V) (H : Hp) (Q : VK) (E : XK) (h : sp_Meshturned K vs H Q E) : Wt_Meshturned K vs H Q := by
  obtain ⟨x, ns, h, rfl, ⟨dx, l1, l2, l3, a, b, c, d⟩, hh, k⟩ := h
  show t_Meshturned K _ [some (.ref x), some (vi h)] H
  refine s_ret (ev_op (ev_fld (ev_var rfl) a F.cl F.n3 (mfs_t _ _ _)) (ev_var rfl) (rv_ixL (sq_of d) (L_at (by rw [turns_len]; exact hh)))) (fun H1 e1 => ?_)
  show Q (vi (fn (turns ns) h)) H1
  rw [fn_turns hh]
  exact k H1 e1
def sp_Meshnexts (K : PySem.W.Frag) : Sp := fun vs H Q _ => ∃ (x : Addr) (ns : List Nat), vs = [.ref x] ∧ MeshAt K H x ns ∧ ∀ p H', H p = none → Ex H H' → H' p = some (.lst (L ns)) → Q (.ref p) H'
abbrev nm_Meshnexts : List Str := ["self"]
abbrev pr_Meshnexts : List Str := ["self"]
def t_Meshnexts (K : PySem.W.Frag) : TS :=
  (tRet (tCB (cList K) (tCons (tFld K (tVar 0) "_nexts") tNil)))
abbrev Wt_Meshnexts (K : PySem.W.Frag) (vs : List V) (H : Hp) (Q : VK) : Prop := t_Meshnexts K { nx := fun _ H' => Q .non H', rt := Q } (start nm_Meshnexts vs) H
theorem ln_Meshnexts {K : PySem.W.Frag} (vs : List V) (H : Hp) (Q : VK) (E : XK) (h : sp_Meshnexts K vs H Q E) : vs.length = pr_Meshnexts.length := by
  obtain ⟨_, _, rfl, _⟩ := h
  rfl
theorem rd_Meshnexts {K : PySem.W.Frag} (F : KF K) (vs : List V) (H : Hp) (Q : VK) (E : XK) (h : sp_Meshnexts K vs H Q E) : Wt_Meshnexts K vs H Q := by
  obtain ⟨x, ns, rfl, ⟨dx, l1, l2, l3, a, b, c, d⟩, k⟩ := h
  show t_Meshnexts K _ [some (.ref x)] H
  exact s_retL (el_cb (ea_1 (ev_fld (ev_var rfl) a F.cl F.n1 (mfs_n _ _ _))) (rcl_list (sq_of b))) (fun p H1 hp e1 h1 => k p H1 hp e1 h1)
theorem spl_Meshnexts {K : PySem.W.Frag} {H : Hp} {x : Addr} {ns : List Nat} (h : MeshAt K H x ns) : SpL (sp_Meshnexts K) [.ref x] H (L ns) := fun H1 e Q q E => ⟨x, ns, rfl, h.ex e, fun p H' hp ex hq => q p H' hp ex hq⟩
theorem spv_Meshafter {K : PySem.W.Frag} {H : Hp} {x : Addr} {ns : List Nat} {h : Nat} (m : MeshAt K H x ns) (hh : h < ns.length) : SpV (sp_Meshafter K) [.ref x, vi h] H (vi (fn ns h)) := fun H1 e Q q E => ⟨x, ns, h, rfl, m.ex e, hh, q⟩
theorem spv_Meshbefore {K : PySem.W.Frag} {H : Hp} {x : Addr} {ns : List Nat} {h : Nat} (m : MeshAt K H x ns) (hh : h < ns.length) : SpV (sp_Meshbefore K) [.ref x, vi h] H (vi (bk ns h)) := fun H1 e Q q E => ⟨x, ns, h, rfl, m.ex e, hh, q⟩
theorem spv_Meshtwin {K : PySem.W.Frag} {H : Hp} {x : V} {h : Nat} : SpV (sp_Meshtwin K) [x, vi h] H (vi (tw h)) := fun H1 e Q q E => ⟨x, h, rfl, q⟩
theorem spv_Meshturned {K : PySem.W.Frag} {H : Hp} {x : Addr} {ns : List Nat} {h : Nat} (m : MeshAt K H x ns) (hh : h < ns.length) : SpV (sp_Meshturned K) [.ref x, vi h] H (vi (tw (bk ns h))) := fun H1 e Q q E => ⟨x, ns, h, rfl, m.ex e, hh, q⟩
def sp_Meshfaces (K : PySem.W.Frag) : Sp := fun vs H Q _ => ∃ (x : Addr) (ns : List Nat), vs = [.ref x] ∧ MeshAt K H x ns ∧ MP ns ∧ ∀ p H', H p = none → Ex H H' → LLn H H' p (cyc ns true) → Q (.ref p) H'
abbrev nm_Meshfaces : List Str := ["self"]
abbrev pr_Meshfaces : List Str := ["self"]
def t_Meshfaces (K : PySem.W.Frag) : TS :=
  (tRet (tCall (sp_rounds K) [] E0 (tCons (tFld K (tVar 0) "_nexts") tNil)))
abbrev Wt_Meshfaces (K : PySem.W.Frag) (vs : List V) (H : Hp) (Q : VK) : Prop := t_Meshfaces K { nx := fun _ H' => Q .non H', rt := Q } (start nm_Meshfaces vs) H
theorem ln_Meshfaces {K : PySem.W.Frag} (vs : List V) (H : Hp) (Q : VK) (E : XK) (h : sp_Meshfaces K vs H Q E) : vs.length = pr_Meshfaces.length := by
  obtain ⟨_, _, rfl, _⟩ := h
  rfl
theorem LLn.of {H0 H1 H : Hp} {p : Addr} {xss : List (List Nat)} (h : LLn H1 H p xss) (e : Ex H0 H1) : LLn H0 H p xss := by
  obtain ⟨as, h1, h2, h3⟩ := h
  exact ⟨as, h1, h2, fun a ha => ⟨fresh_back e (h3 a ha).1, (h3 a ha).2⟩⟩
theorem rd_Meshfaces {K : PySem.W.Frag} (F : KF K) (vs : List V) (H : Hp) (Q : VK) (E : XK) (h : sp_Meshfaces K vs H Q E) : Wt_Meshfaces K vs H Q := by
  obtain ⟨x, ns, rfl, ⟨dx, l1, l2, l3, a, b, c, d⟩, hM, k⟩ := h
  show t_Meshfaces K _ [some (.ref x)] H
  refine s_retC (ea_1 (ev_fld (ev_var rfl) a F.cl F.n1 (mfs_n _ _ _))) (fun H1 e1 => ?_)
  exact ⟨l1, ns, rfl, sq_of (e1 _ _ b), hM.p, hM.len, fun p H' hp ex hq => k p H' (fresh_back e1 hp) (e1.trans ex) (hq.of e1)⟩
def sp_Meshcorners (K : PySem.W.Frag) : Sp := fun vs H Q _ => ∃ (x : Addr) (ns : List Nat), vs = [.ref x] ∧ MeshAt K H x ns ∧ MP ns ∧ ∀ p H', H p = none → Ex H H' → LLn H H' p (cyc ns false) → Q (.ref p) H'
abbrev nm_Meshcorners : List Str := ["self"]
abbrev pr_Meshcorners : List Str := ["self"]
def t_Meshcorners (K : PySem.W.Frag) : TS :=
  (tRet (tCall (sp_rounds K) [] E0 (tCons (tFld K (tVar 0) "_turns") tNil)))
abbrev Wt_Meshcorners (K : PySem.W.Frag) (vs : List V) (H : Hp) (Q : VK) : Prop := t_Meshcorners K { nx := fun _ H' => Q .non H', rt := Q } (start nm_Meshcorners vs) H
theorem ln_Meshcorners {K : PySem.W.Frag} (vs : List V) (H : Hp) (Q : VK) (E : XK) (h : sp_Meshcorners K vs H Q E) : vs.length = pr_Meshcorners.length := by
  obtain ⟨_, _, rfl, _⟩ := h
  rfl
theorem rd_Meshcorners {K : PySem.W.Frag} (F : KF K) (vs : List V) (H : Hp) (Q : VK) (E : XK) (h : sp_Meshcorners K vs H Q E) : Wt_Meshcorners K vs H Q := by
  obtain ⟨x, ns, rfl, ⟨dx, l1, l2, l3, a, b, c, d⟩, hM, k⟩ := h
  show t_Meshcorners K _ [some (.ref x)] H
  refine s_retC (ea_1 (ev_fld (ev_var rfl) a F.cl F.n3 (mfs_t _ _ _))) (fun H1 e1 => ?_)
  refine ⟨l3, turns ns, rfl, sq_of (e1 _ _ d), isP_turns hM.p hM.two, by rw [turns_len]; exact hM.len, fun p H' hp ex hq => k p H' (fresh_back e1 hp) (e1.trans ex) ?_⟩
  rw [cyc_corners hM.p hM.two] at hq
  exact hq.of e1
end Hm
namespace Hm
open PySem PySem.Spec PyProof.Rows L2 Evl
/-! ### the program: ==, len, in of a mesh -/
/-- what the written part says of isinstance for meshes, lists and integers -/
structure KQ (K : PySem.W.Frag) : Prop where
  kf : KF K
  ins : InsF K (He.ga K "Mesh")
  kl : PySem.W.kitOne K (.type "list") (.ref (He.ga K "Mesh")) = some false
  ki : PySem.W.kitOne K (.type "int") (.ref (He.ga K "Mesh")) = some false
  sl : PySem.W.subIn K (.type "list") (.ref (He.ga K "Mesh")) = some false
  si : PySem.W.subIn K (.type "int") (.ref (He.ga K "Mesh")) = some false
theorem kit_refl {K : PySem.W.Frag} {v : Value} : PySem.W.kitOne K v v = some true := by
  unfold PySem.W.kitOne
  rw [if_pos (beq_self_eq_true v)]
inductive EqTo (K : PySem.W.Frag) (H : Hp) (ns : List Nat) : V → Bool → Prop where
  | mesh {z : Addr} {ms : List Nat} (m : MeshAt K H z ms) : EqTo K H ns (.ref z) (decide (ns = ms))
  | lst {p : Addr} {xs : List V} (h : H p = some (.lst xs)) : EqTo K H ns (.ref p) false
  | int (i : Int) : EqTo K H ns (.int i) false
theorem EqTo.ex {K : PySem.W.Frag} {H H' : Hp} {ns : List Nat} {y : V} {b : Bool} (h : EqTo K H ns y b) (e : Ex H H') : EqTo K H' ns y b := by
  cases h with
  | mesh m => exact .mesh (m.ex e)
  | lst h => exact .lst (e _ _ h)
  | int i => exact .int i
theorem EqTo.rgt {K : PySem.W.Frag} {H : Hp} {ns : List Nat} {y : V} {b : Bool} (h : EqTo K H ns y b) (F : KQ K) : Rgt K (He.ga K "Mesh") H y := by
  cases h with
  | mesh m =>
    obtain ⟨dx, l1, l2, l3, a, _⟩ := m
    exact .ins a
  | lst h => exact .lst h F.sl
  | int i => exact .int i F.si
def sp_Mesheq (K : PySem.W.Frag) : Sp := fun vs H Q _ => ∃ (x : Addr) (ns : List Nat) (y : V) (b : Bool), vs = [.ref x, y] ∧ MeshAt K H x ns ∧ EqTo K H ns y b ∧ ∀ H', Ex H H' → Q (.bl b) H'
abbrev nm_Mesheq : List Str := ["self", "other"]
abbrev pr_Mesheq : List Str := ["self", "other"]
def t_Mesheq (K : PySem.W.Frag) : TS :=
  (tRet (tAndV (tCB (rIsi K) (tCons (tVar 1) (tCons (tC (.ref (He.ga K "Mesh"))) tNil))) (tOp (rEqD K) (tFld K (tVar 0) "_nexts") (tFld K (tVar 1) "_nexts"))))
abbrev Wt_Mesheq (K : PySem.W.Frag) (vs : List V) (H : Hp) (Q : VK) : Prop := t_Mesheq K { nx := fun _ H' => Q .non H', rt := Q } (start nm_Mesheq vs) H
theorem ln_Mesheq {K : PySem.W.Frag} (vs : List V) (H : Hp) (Q : VK) (E : XK) (h : sp_Mesheq K vs H Q E) : vs.length = pr_Mesheq.length := by
  obtain ⟨_, _, _, _, rfl, _⟩ := h
  rfl
theorem ty_mesh {K : PySem.W.Frag} {H : Hp} {x : Addr} {ns : List Nat} (F : KQ K) (m : MeshAt K H x ns) : TyX K H (.ref x) (.ref (He.ga K "Mesh")) := by
  obtain ⟨dx, l1, l2, l3, a, _⟩ := m
  exact .base (.ins a F.kf.cl F.ins.ha F.ins.hn F.ins.ht F.ins.hm)
theorem rd_Mesheq {K : PySem.W.Frag} (F : KQ K) (vs : List V) (H : Hp) (Q : VK) (E : XK) (h : sp_Mesheq K vs H Q E) : Wt_Mesheq K vs H Q := by
  obtain ⟨x, ns, y, b, rfl, m, he, k⟩ := h
  obtain ⟨dx, l1, l2, l3, a1, b1, c1, d1⟩ := id m
  show t_Mesheq K _ [some (.ref x), some y] H
  cases he with
  | mesh m2 =>
    obtain ⟨dx2, k1, k2, k3, a2, b2, c2, d2⟩ := id m2
    refine s_ret (ev_andV (a := true) (ev_cb (ea_2 (ev_var rfl) ev_c) (rc_isi (.own _) (fun H1 e => ty_mesh F (m2.ex e)) kit_refl)) (fun _ => ev_op (ev_fld (ev_var rfl) a1 F.kf.cl F.kf.n1 (mfs_n _ _ _)) (ev_fld (ev_var rfl) a2 F.kf.cl F.kf.n1 (mfs_n _ _ _)) (rv_eqN (sq_of b1) (sq_of b2)))) (fun H1 e1 => ?_)
    rw [Bool.true_and]
    exact k H1 e1
  | lst h => exact s_ret (ev_andV (a := false) (b := false) (ev_cb (ea_2 (ev_var rfl) ev_c) (rc_isi (.own _) (fun H1 e => .base (.lst (e _ _ h))) F.kl)) (fun hb => nomatch hb)) (fun H1 e1 => k H1 e1)
  | int i => exact s_ret (ev_andV (a := false) (b := false) (ev_cb (ea_2 (ev_var rfl) ev_c) (rc_isi (.own _) (fun H1 e => .base (.int i)) F.ki)) (fun hb => nomatch hb)) (fun H1 e1 => k H1 e1)
def sp_Meshlen (K : PySem.W.Frag) : Sp := fun vs H Q _ => ∃ (x : Addr) (ns : List Nat), vs = [.ref x] ∧ MeshAt K H x ns ∧ ∀ H', Ex H H' → Q (.int (ns.length : Int)) H'
abbrev nm_Meshlen : List Str := ["self"]
abbrev pr_Meshlen : List Str := ["self"]
def t_Meshlen (K : PySem.W.Frag) : TS :=
  (tRet (tCB (cLen K) (tCons (tFld K (tVar 0) "_nexts") tNil)))
abbrev Wt_Meshlen (K : PySem.W.Frag) (vs : List V) (H : Hp) (Q : VK) : Prop := t_Meshlen K { nx := fun _ H' => Q .non H', rt := Q } (start nm_Meshlen vs) H
theorem ln_Meshlen {K : PySem.W.Frag} (vs : List V) (H : Hp) (Q : VK) (E : XK) (h : sp_Meshlen K vs H Q E) : vs.length = pr_Meshlen.length := by
  obtain ⟨_, _, rfl, _⟩ := h
  rfl
theorem rd_Meshlen {K : PySem.W.Frag} (F : KF K) (vs : List V) (H : Hp) (Q : VK) (E : XK) (h : sp_Meshlen K vs H Q E) : Wt_Meshlen K vs H Q := by
  obtain ⟨x, ns, rfl, ⟨dx, l1, l2, l3, a, b, c, d⟩, k⟩ := h
  show t_Meshlen K _ [some (.ref x)] H
  exact s_ret (ev_is (ev_cb (ea_1 (ev_fld (ev_var rfl) a F.cl F.n1 (mfs_n _ _ _))) (rc_len (sq_of b))) (by rw [L_len])) (fun H1 e1 => k H1 e1)
def sp_Meshcontains (K : PySem.W.Frag) : Sp := fun vs H Q _ => ∃ (x : Addr) (ns : List Nat) (i : Int), vs = [.ref x, .int i] ∧ MeshAt K H x ns ∧ ∀ H', Ex H H' → Q (.bl (decide (0 ≤ i) && decide (i < (ns.length : Int)))) H'
abbrev nm_Meshcontains : List Str := ["self", "half"]
abbrev pr_Meshcontains : List Str := ["self", "half"]
def t_Meshcontains (K : PySem.W.Frag) : TS :=
  (tRet (tAndV (tCall (sp_isinteger K) [] E0 (tCons (tVar 1) tNil)) (tChain zLe zLt (tC (.int 0)) (tVar 1) (tCB (cLen K) (tCons (tFld K (tVar 0) "_nexts") tNil)))))
abbrev Wt_Meshcontains (K : PySem.W.Frag) (vs : List V) (H : Hp) (Q : VK) : Prop := t_Meshcontains K { nx := fun _ H' => Q .non H', rt := Q } (start nm_Meshcontains vs) H
theorem ln_Meshcontains {K : PySem.W.Frag} (vs : List V) (H : Hp) (Q : VK) (E : XK) (h : sp_Meshcontains K vs H Q E) : vs.length = pr_Meshcontains.length := by
  obtain ⟨_, _, _, rfl, _⟩ := h
  rfl
theorem rd_Meshcontains {K : PySem.W.Frag} (F : KF K) (vs : List V) (H : Hp) (Q : VK) (E : XK) (h : sp_Meshcontains K vs H Q E) : Wt_Meshcontains K vs H Q := by
  obtain ⟨x, ns, i, rfl, ⟨dx, l1, l2, l3, a, b, c, d⟩, k⟩ := h
  show t_Meshcontains K _ [some (.ref x), some (.int i)] H
  refine s_ret (v := .bl (true && (decide (0 ≤ i) && decide (i < (ns.length : Int))))) (ev_andV (ev_call (ea_1 (ev_var rfl)) (spv_isinteger (.inl ⟨i, rfl⟩))) (fun _ => ev_chain ev_c (ev_var rfl) rv_I0 (fun _ => ev_is (ev_cb (ea_1 (ev_fld (ev_var rfl) a F.cl F.n1 (mfs_n _ _ _))) (rc_len (sq_of b))) (by rw [L_len])) (fun _ => rv_I0))) (fun H1 e1 => k H1 e1)
section
variable {K : PySem.W.Frag} {H : Hp} {x : Addr} {ns : List Nat}
theorem rc_ownLen (m : MeshAt K H x ns) (hl : ns.length ≤ 1000) : RC (rOwnLen (He.ga K "Mesh") (sp_Meshlen K) E0) [.ref x] H (.int (ns.length : Int)) := fun H1 e Q q => by
  obtain ⟨dx, l1, l2, l3, a, _⟩ := m.ex e
  exact ⟨x, dx, _, rfl, a, x, ns, rfl, m.ex e, fun H2 e2 => ⟨ns.length, rfl, by omega, q H2 e2⟩⟩
theorem rv_ownIn {neg : Bool} {i : Int} (m : MeshAt K H x ns) : RV (rOwnIn (He.ga K "Mesh") (sp_Meshcontains K) E0 neg) (.int i) (.ref x) H (.bl (if neg then !(decide (0 ≤ i) && decide (i < (ns.length : Int))) else (decide (0 ≤ i) && decide (i < (ns.length : Int))))) := fun H1 e Q q => by
  obtain ⟨dx, l1, l2, l3, a, _⟩ := m.ex e
  exact ⟨x, dx, _, rfl, a, x, ns, i, rfl, m.ex e, fun H2 e2 => ⟨_, rfl, q H2 e2⟩⟩
theorem rv_ownEq {y : V} {b : Bool} (F : KQ K) (m : MeshAt K H x ns) (h : EqTo K H ns y b) : RV (rOwnEq K (He.ga K "Mesh") (sp_Mesheq K) E0) (.ref x) y H (.bl b) := fun H1 e Q q => by
  obtain ⟨dx, l1, l2, l3, a, _⟩ := m.ex e
  exact ⟨x, dx, _, rfl, a, (h.ex e).rgt F, x, ns, y, b, rfl, m.ex e, h.ex e, fun H2 e2 => ⟨b, rfl, q H2 e2⟩⟩
end
end Hm
namespace Hm
open PySem PySem.Spec PyProof.Rows L2 Evl
/-! ### try .. except .. as -/
abbrev eLen (n : Nat) (W : WX) : XK := fun cls d H => ∀ σ : L2.St, σ.length = n → W cls d σ H
def tPre (p : Prop) (t : TS) : TS := fun D σ H => p ∧ t D σ H
def tTry (K : PySem.W.Frag) (c : Value) (i : Nat) (tb : WX → TS) (ts : Addr → Value → Option Addr → TS) : TS := fun D σ H => tb (wAs K c i ts (fun _ _ _ _ => False) D) D σ H
theorem pss_pre {X : Cx} {b : List Stmt} {p : Prop} {t : TS} (h : p → PSs X b t) : PSs X b (tPre p t) := ⟨fun pins s σ H D I hw => (h hw.1).run pins s σ H D I hw.2⟩
theorem ps_tryT {X : Cx} {x n : Str} {c : Value} {i : Nat} {body suite : List Stmt} {b₀ : Stmt} {np pos pos' : Pos} {tb : WX → TS} {ts : Addr → Value → Option Addr → TS} (hs : X.stack = X.env :: X.outer) (hf : X.env.frame = some X.env.locals) (hN : X.N.Nodup) (hi : X.N[i]? = some n) (hln : X.env.kindOf n = some .local) (hc : Names X x c)
    (hb : ∀ (W : WX) (pn : List (Addr × Obj)) (xe : Value → Shared → Prop), Takes (X.tr pn xe) W → PassesOwn (model X.prog X.w) X.A X.env xe → PSs (X.tr pn xe) body (tb W))
    (hsu : ∀ (a : Addr) (oe : Obj) (cls : Value) (d : Option Addr) (pn : List (Addr × Obj)), Zc cls d oe → (∃ vs, oe.data = .fields vs) → PSs (X.suite a ((a, oe) :: pn)) (b₀ :: suite) (ts a cls d)) :
    PS X (.Try body [.ExceptHandler (some (.Name x np)) (some n) (b₀ :: suite) pos'] [] [] pos) (tTry X.K c i tb ts) := ps_try_as hs hf hN hi hln hc takes0 hb hsu
theorem zc_of {C : Addr} {cls : Value} {d : Option Addr} {oe : Obj} (hz : Zc cls d oe) (hq : cls = .ref C ∧ d = none) : Zc (.ref C) none oe := by
  obtain ⟨rfl, rfl⟩ := hq
  exact hz
theorem rc_isE {K : PySem.W.Frag} {D a : Addr} {H : Hp} {c : V} {cv : Value} {b : Bool} (h1 : ∀ u, RelV c u → u = cv) (h2 : PySem.W.kitOne K (.ref D) cv = some b) : RC (rIsE K D a) [.ref a, c] H (.bl b) := fun H1 e Q q => ⟨c, cv, b, rfl, h1, h2, q H1 (Ex.refl H1)⟩
theorem q_tryMake {K : PySem.W.Frag} {c : Value} {i n : Nat} {C a : Addr} {sp : Sp} {te : TE} {ts : Addr → Value → Option Addr → TS} {tz : TS} {D : Ends} {σ : L2.St} {H : Hp} (h : Ev te σ H (.ref a))
    (k : ∀ H1 x dx, Ex H H1 → H1 x = none → H1 dx = none → dx ≠ x → sp [.ref x, .ref a] (upd (upd H1 dx (.own x)) x (.ins C dx [])) (fun v H2 => v = .non ∧ tz D σ H2) (eLen n (wAs K c i ts (fun _ _ _ _ => False) { D with nx := tz D }))) :
    tSeq (tTry K c i (fun W => tDrop (tMake C sp [] (eLen n W) (tCons te tNil))) ts) tz D σ H := h H (Ex.refl H) _ fun H1 e1 => fun x dx hx hdx hne => k H1 x dx e1 hx hdx hne
/-! ### lists that are no mesh -/
theorem good_mem {xs : List V} (h : Good xs) {v : V} (hv : v ∈ xs) : ∃ n, n < xs.length ∧ v = vi n := by
  obtain ⟨ns, rfl, hP, _⟩ := h
  obtain ⟨n, hn, rfl⟩ := List.mem_map.mp hv
  exact ⟨n, by rw [L_len]; exact hP.mem.mp hn, rfl⟩
theorem good_even {xs : List V} (h : Good xs) : xs.length % 2 = 0 := by
  obtain ⟨ns, rfl, _, h2⟩ := h
  rw [L_len]
  exact h2
theorem good_two {xs : List V} (h : Good xs) {i j : Nat} {v : V} (hi : xs[i]? = some v) (hj : xs[j]? = some v) : i = j := by
  obtain ⟨ns, rfl, hP, _⟩ := h
  obtain ⟨h1, e1⟩ := L_item hi
  obtain ⟨h2, e2⟩ := L_item hj
  have h3 : (fn ns i : Int) = (fn ns j : Int) := V.int.inj (e1.symm.trans e2)
  exact (pf_fn hP).inj i j h1 h2 (Int.ofNat.inj h3)
theorem rep_set {xs : List V} {p : Nat} {v : V} (h : p < xs.length) : (xs.take p ++ [v]) ++ xs.drop (p + 1) = xs.set p v := by
  rw [List.set_eq_take_append_cons_drop, if_pos h, List.append_assoc]
  rfl
theorem ib_set {xs : List V} {p : Nat} {v : V} (h : ∀ x ∈ xs, IB x) (hv : IB v) : ∀ x ∈ xs.set p v, IB x := fun x hx => by
  rcases List.mem_or_eq_of_mem_set hx with h1 | h1
  · exact h x h1
  · rw [h1]
    exact hv
section
variable {K : PySem.W.Frag} {σ : L2.St} {H : Hp} {ta tb te : TE}
/-- xs[:p] + [v] + xs[q:] -/
theorem el_cut {a : Addr} {xs : List V} {v : V} {p q : Nat} {t1 t2 : TE} (ha : Ev ta σ H (.ref a)) (hS : SqL K H a xs) (h1 : Ev t1 σ H (.int (p : Int))) (h2 : Ev t2 σ H (.int (q : Int))) (hv : Ev te σ H v) (hp : p ≤ xs.length) (hq : q ≤ xs.length) (hz : xs.length ≤ 10000) :
    EvL (tOp rCat (tOp rCat (tSl (rSlL K) ta tNoPart (tPart t1)) (tLst (tCons te tNil))) (tSl (rSlL K) ta (tPart t2) tNoPart)) σ H ((xs.take p ++ [v]) ++ xs.drop q) := by
  have el1 := el_sl (K := K) (te := ta) (tl := tNoPart) (th := tPart t1) (σ := σ) ha eo_none (eo_some h1) hS
  have el2 := el_sl (K := K) (te := ta) (tl := tPart t2) (th := tNoPart) (σ := σ) ha (eo_some h2) eo_none hS
  rw [cut_to hp] at el1
  rw [cut_from hq] at el2
  refine el_cat (el_cat el1 (el_lst (ea_1 hv) (by show 1 ≤ 100000; decide)) ?_) el2 ?_
  · rw [List.length_take]
    show _ + 1 ≤ _
    omega
  · rw [List.length_append, List.length_take, List.length_drop]
    show _ + 1 + _ ≤ _
    omega
end
end Hm
namespace Hm
open PySem PySem.Spec PyProof.Rows L2 Evl
section
variable {K : PySem.W.Frag} {σ : L2.St} {H : Hp} {ta tb te : TE} {D : Ends} {tz : TS}
/-- a new list of new lists -/
def EvLL (te : TE) (σ : L2.St) (H : Hp) (xss : List (List Nat)) : Prop := ∀ H1, Ex H H1 → ∀ Q : VK, (∀ p H2, H1 p = none → Ex H1 H2 → LLn H1 H2 p xss → Q (.ref p) H2) → te σ H1 Q
def SpLL (sp : Sp) (vs : List V) (H : Hp) (xss : List (List Nat)) : Prop := ∀ H1, Ex H H1 → ∀ Q : VK, (∀ p H2, H1 p = none → Ex H1 H2 → LLn H1 H2 p xss → Q (.ref p) H2) → ∀ E : XK, sp vs H1 Q E
theorem ell_call {sp : Sp} {vs : List V} {E : XK} {ta : TA} {xss : List (List Nat)} (h : EvA ta σ H vs) (hs : SpLL sp vs H xss) : EvLL (tCall sp [] E ta) σ H xss := fun H1 e Q q =>
  h H1 e _ fun H2 e2 => by
    show sp (vs ++ []) H2 _ E
    rw [List.append_nil]
    exact hs H2 (e.trans e2) Q (fun p H3 hp e3 h3 => q p H3 (fresh_back e2 hp) (e2.trans e3) (h3.of e2)) E
theorem ell_meth {a C dx : Addr} {fs : List (Str × V)} {m : Str} {sp : Sp} {ta : TE} {tb : TA} {vs : List V} {xss : List (List Nat)} {E : XK} (h : Ev ta σ H (.ref a)) (ho : H a = some (.ins C dx fs)) (hl : fs.lookup m = none) (ha : EvA tb σ H vs) (hs : SpLL sp (.ref a :: vs) H xss) : EvLL (tMeth C m sp [] E ta tb) σ H xss := fun H1 e Q q =>
  h H1 e _ fun H2 e2 => ⟨a, dx, fs, rfl, e2 _ _ (e _ _ ho), hl, ha H2 (e.trans e2) _ fun H3 e3 => by
    have e4 := (e.trans e2).trans e3
    have q2 := hs H3 e4 Q (fun p H4 hp e5 h5 => q p H4 (fresh_back (e2.trans e3) hp) ((e2.trans e3).trans e5) (h5.of (e2.trans e3))) E
    simpa using q2⟩
theorem ev_eqLL {a : Addr} {xss yss : List (List Nat)} (ha : Ev ta σ H (.ref a)) (h : LL H a xss) (hb : EvLL tb σ H yss) : Ev (tOp (rEqD K) ta tb) σ H (.bl (decide (xss = yss))) := fun H1 e Q q =>
  ha H1 e _ fun H2 e2 => hb H2 (e.trans e2) _ fun p H3 hp e3 h3 => rv_eqNN (h.ex ((e.trans e2).trans e3)) h3.ll H3 (Ex.refl H3) Q fun H4 e4 => q H4 ((e2.trans e3).trans e4)
theorem ev_neLL {a : Addr} {xss yss : List (List Nat)} (ha : Ev ta σ H (.ref a)) (h : LL H a xss) (hb : EvLL tb σ H yss) : Ev (tOp (rNeD K) ta tb) σ H (.bl (!decide (xss = yss))) := fun H1 e Q q =>
  ha H1 e _ fun H2 e2 => hb H2 (e.trans e2) _ fun p H3 hp e3 h3 => rv_neNN (h.ex ((e.trans e2).trans e3)) h3.ll H3 (Ex.refl H3) Q fun H4 e4 => q H4 ((e2.trans e3).trans e4)
theorem q_asgLL {i : Nat} {xss : List (List Nat)} (h : EvLL te σ H xss) (k : ∀ p H1, H p = none → Ex H H1 → LLn H H1 p xss → tz D (σ.set i (some (.ref p))) H1) : tSeq (tAsg te (gName i)) tz D σ H := h H (Ex.refl H) _ fun p H1 hp e h1 => k p H1 hp e h1
theorem spll_Lrounds {a : Addr} {ns : List Nat} {b : Bool} (hS : SqL K H a (L ns)) (hM : MP ns) : SpLL (sp_Lrounds K) [.ref a, .bl b] H (cyc ns b) := fun H1 e Q q E => ⟨a, ns, b, rfl, ex_l e hS, hM.p, hM.two, hM.len, fun p H' hp ex h => q p H' hp ex h⟩
theorem spll_faces {x : Addr} {ns : List Nat} (m : MeshAt K H x ns) (hM : MP ns) : SpLL (sp_Meshfaces K) [.ref x] H (cyc ns true) := fun H1 e Q q E => ⟨x, ns, rfl, m.ex e, hM, fun p H' hp ex h => q p H' hp ex h⟩
theorem spll_corners {x : Addr} {ns : List Nat} (m : MeshAt K H x ns) (hM : MP ns) : SpLL (sp_Meshcorners K) [.ref x] H (cyc ns false) := fun H1 e Q q E => ⟨x, ns, rfl, m.ex e, hM, fun p H' hp ex h => q p H' hp ex h⟩
theorem noM {m : Str} (l1 l2 l3 : Addr) (h : (decide (m = "_nexts") || decide (m = "_prevs") || decide (m = "_turns")) = false) : (mfs l1 l2 l3).lookup m = none := by
  simp only [Bool.or_eq_false_iff, decide_eq_false_iff_not] at h
  exact mfs_no _ _ _ h.1.1 h.1.2 h.2
/-- a method of a mesh that gives a value, a new list, a new list of lists -/
theorem ev_mm {x : Addr} {ns : List Nat} {m : Str} {sp : Sp} {tb : TA} {vs : List V} {v : V} {E : XK} (mm : MeshAt K H x ns) (h : Ev ta σ H (.ref x)) (hm : (decide (m = "_nexts") || decide (m = "_prevs") || decide (m = "_turns")) = false) (ha : EvA tb σ H vs) (hs : SpV sp (.ref x :: vs) H v) : Ev (tMeth (He.ga K "Mesh") m sp [] E ta tb) σ H v := by
  obtain ⟨dx, l1, l2, l3, a, _⟩ := mm
  exact ev_meth h a (noM _ _ _ hm) ha hs
theorem el_mm {x : Addr} {ns : List Nat} {m : Str} {sp : Sp} {tb : TA} {vs xs : List V} {E : XK} (mm : MeshAt K H x ns) (h : Ev ta σ H (.ref x)) (hm : (decide (m = "_nexts") || decide (m = "_prevs") || decide (m = "_turns")) = false) (ha : EvA tb σ H vs) (hs : SpL sp (.ref x :: vs) H xs) : EvL (tMeth (He.ga K "Mesh") m sp [] E ta tb) σ H xs := by
  obtain ⟨dx, l1, l2, l3, a, _⟩ := mm
  exact el_meth h a (noM _ _ _ hm) ha hs
theorem ell_mm {x : Addr} {ns : List Nat} {m : Str} {sp : Sp} {tb : TA} {vs : List V} {xss : List (List Nat)} {E : XK} (mm : MeshAt K H x ns) (h : Ev ta σ H (.ref x)) (hm : (decide (m = "_nexts") || decide (m = "_prevs") || decide (m = "_turns")) = false) (ha : EvA tb σ H vs) (hs : SpLL sp (.ref x :: vs) H xss) : EvLL (tMeth (He.ga K "Mesh") m sp [] E ta tb) σ H xss := by
  obtain ⟨dx, l1, l2, l3, a, _⟩ := mm
  exact ell_meth h a (noM _ _ _ hm) ha hs
theorem q_call2 {sp1 sp2 : Sp} {E1 E2 : XK} {tc tr : TA} {vs1 : List V} {i : Nat} (h : EvA tc σ H vs1) (k : ∀ H1, Ex H H1 → sp2 vs1 H1 (fun v H2 => tr σ H2 fun ws H3 => sp1 (v :: ws) H3 (fun v' H4 => tz D (σ.set i (some v')) H4) E1) E2) :
    tSeq (tAsg (tCall sp1 [] E1 (tCons (tCall sp2 [] E2 tc) tr)) (gName i)) tz D σ H :=
  h H (Ex.refl H) _ fun H1 e1 => by
    have q := k H1 e1
    rw [← List.append_nil vs1] at q
    have e : (fun v H2 => tr σ H2 fun ws H3 => sp1 (v :: ws) H3 (fun v' H4 => tz D (σ.set i (some v')) H4) E1) = (fun v H2 => tr σ H2 fun ws H3 => sp1 ((v :: ws) ++ []) H3 (fun v' H4 => tz D (σ.set i (some v')) H4) E1) := by
      funext v H2
      congr 1
      funext ws H3
      rw [List.append_nil]
    rw [e] at q
    exact q
/-- i = _law_nexts(_law_tape(script, k), edges) -/
theorem q_nexts {i j : Nat} {a : Addr} {zs : List Int} {k : Int} {e : Nat} {E1 E2 : XK} (hs : σ[0]? = some (some (.ref a))) (hS : SqL K H a (zs.map V.int)) (k0 : 0 ≤ k) (k1 : k ≤ 100) (he : σ[j]? = some (some (.int (e : Int)))) (h60 : e ≤ 60)
    (kk : ∀ p ns H1, H p = none → Ex H H1 → H1 p = some (.lst (L ns)) → IsP ns → ns.length = 2 * e → tz D (σ.set i (some (.ref p))) H1) :
    tSeq (tAsg (tCall (sp_Lnexts K) [] E1 (tCons (tCall (sp_Ltape K) [] E2 (tCons (tVar 0) (tCons (tC (.int k)) tNil))) (tCons (tVar j) tNil))) (gName i)) tz D σ H := by
  refine q_call2 (ea_2 (ev_var hs) ev_c) fun H1 e1 => ?_
  refine ⟨a, zs, k, rfl, ex_l e1 hS, k0, k1, fun t H2 ht tp e2 => ⟨_, he, ?_⟩⟩
  refine ⟨t, e, rfl, tp, h60, fun p H' ns hp h1 h2 h3 _ x2 => ?_⟩
  have ht0 := fresh_back e1 ht
  have ex : Ex H H' := fun b o hb => x2 b o (ne_of_none hb ht0) (e2 b o (e1 b o hb))
  exact kk p ns H' (fresh_back (e1.trans e2) hp) ex h1 h2 h3
/-- [x for x in xs] -/
theorem el_copy {a : Addr} {ns : List Nat} {j : Nat} (h : Ev ta σ H (.ref a)) (hS : SqL K H a (L ns)) (hz : ns.length ≤ 1000) (hw : ∀ x, wipe ((wipe σ [j]).set j (some x)) [j] = wipe σ [j]) (hj : ∀ x, ((wipe σ [j]).set j (some x))[j]? = some (some x)) : EvL (tLc (iList K ta) (gName j) tYes (tVar j) [j]) σ H (L ns) := by
  have := el_lcL (K := K) (σ := σ) (H := H) (j := j) (vs := [j]) (tl := ta) (t := tYes) (te := tVar j) (fun _ => true) (fun i => vi (fn ns i)) h hS (by rw [L_len]; omega) hw (fun i x H1 _ _ => et_yes) (fun i x H1 _ hx _ => by
    obtain ⟨q1, rfl⟩ := L_item hx
    exact ev_var (hj _))
  rw [given_all] at this
  have e : (List.range (L ns).length).map (fun i => vi (fn ns i)) = L ns := by
    refine List.ext_getElem? fun j => ?_
    rw [L_len]
    by_cases hj : j < ns.length
    · rw [List.getElem?_map, List.getElem?_range hj, L_get hj]
      rfl
    · rw [List.getElem?_eq_none (by rw [List.length_map, List.length_range]; omega), List.getElem?_eq_none (by rw [L_len]; omega)]
  rw [e] at this
  exact this
theorem rc_isL {p : Addr} {xs : List V} (h : H p = some (.lst xs)) : RC (rIsi K) [.ref p, .ty "list"] H (.bl true) :=
  rc_isi (.ty "list") (fun H1 e => .base (.lst (e _ _ h))) (kit_ty (by decide +kernel))
end
end Hm
namespace K15
open PySem PySem.Spec PyProof.Rows L2 Evl Hm
def nmE : List Str := ["NotAMesh", "BadLine", "UnknownName", "WrongKind", "FactFails", "Broken", "NeverGiven", "Breaks", "UnknownDeed", "UnknownMark", "NothingToUndo"]
theorem all11 {P : Str → Prop} (h0 : P "NotAMesh") (h1 : P "BadLine") (h2 : P "UnknownName") (h3 : P "WrongKind") (h4 : P "FactFails") (h5 : P "Broken") (h6 : P "NeverGiven") (h7 : P "Breaks") (h8 : P "UnknownDeed") (h9 : P "UnknownMark") (h10 : P "NothingToUndo") : ∀ x ∈ nmE, P x := by
  intro x hx
  unfold nmE at hx
  simp only [List.mem_cons, List.not_mem_nil, or_false] at hx
  rcases hx with rfl | rfl | rfl | rfl | rfl | rfl | rfl | rfl | rfl | rfl | rfl <;> assumption
abbrev gE (K : PySem.W.Frag) (x : Str) : Addr := He.ga K x
structure KE (K : PySem.W.Frag) : Prop where
  kq : KQ K
  ks : ∀ x ∈ nmE, ∀ y ∈ nmE, PySem.W.kitOne K (.ref (He.ga K x)) (.ref (He.ga K y)) = some (decide (x = y))
  kM : ∀ x ∈ nmE, PySem.W.kitOne K (.ref (He.ga K x)) (.ref (He.ga K "MeshError")) = some true
  kV : ∀ x ∈ nmE, PySem.W.kitOne K (.ref (He.ga K x)) (.type "ValueError") = some true
  ex : ∀ x ∈ nmE, ExcC K (He.ga K x)
  oe : ∀ x ∈ nmE, OexC K (He.ga K x)
  n1 : NoAttr K (He.ga K "BadLine") "line"
  n2 : NoAttr K (He.ga K "UnknownName") "line"
  n3 : NoAttr K (He.ga K "UnknownName") "name"
  n4 : NoAttr K (He.ga K "WrongKind") "line"
  n5 : NoAttr K (He.ga K "WrongKind") "name"
  n6 : NoAttr K (He.ga K "FactFails") "line"
  n7 : NoAttr K (He.ga K "Broken") "fault"
  n8 : NoAttr K (He.ga K "Broken") "line"
  n9 : NoAttr K (He.ga K "Breaks") "mesh"
  n10 : NoAttr K (He.ga K "Breaks") "halves"
  n11 : NoAttr K (He.ga K "UnknownDeed") "name"
  n12 : NoAttr K (He.ga K "UnknownMark") "name"
section
variable {K : PySem.W.Frag} {σ : L2.St} {H : Hp} {ta tb : TE}
theorem el_catV {a : Addr} {xs ys : List V} (ha : Ev ta σ H (.ref a)) (hS : H a = some (.lst xs)) (hb : EvL tb σ H ys) (hz : xs.length + ys.length ≤ 100000) : EvL (tOp rCat ta tb) σ H (xs ++ ys) := fun H1 e Q q =>
  ha H1 e _ fun H2 e2 => hb H2 (e.trans e2) _ fun p' H3 _ e3 h3 => ⟨a, p', xs, ys, rfl, rfl, e3 _ _ (e2 _ _ (e _ _ hS)), h3, sz_of hz, fun r hr => q r _ (fresh_back (e2.trans e3) hr) ((e2.trans e3).trans (Ex.new hr)) upd_same⟩
end
/-! ### an error's making -/
/-- at x an error with a dict that is not among those of H0 -/
def ErrN (H0 H : Hp) (x C : Addr) (fs : List (Str × V)) : Prop := ∃ d, H0 d = none ∧ d ≠ x ∧ H x = some (exo x C (some d)) ∧ H d = some (exd d fs)
theorem ErrN.at {H0 H : Hp} {x C : Addr} {fs : List (Str × V)} (h : ErrN H0 H x C fs) : ErrAt H x C fs := by
  obtain ⟨d, _, _, a, b⟩ := h
  exact .inr ⟨d, a, b⟩
section
variable {K : PySem.W.Frag} {σ : L2.St} {H H0 : Hp} {x C : Addr} {f : Str} {ta tv : TE} {y : V} {D : Ends} {fs : List (Str × V)} {tz : TS}
theorem fresh_exo {H H' : Hp} {x d : Addr} (e : ExO x H H') (hd : H' d = none) (n : d ≠ x) : H d = none := by
  cases w : H d with
  | none => rfl
  | some o =>
    rw [e d o n w] at hd
    cases hd
theorem s_ost1 (T : OexC K C) (hno : NoAttr K C f) (s0 : σ[0]? = some (some (.ref x))) (e0 : ExO x H0 H) (hx : H x = some (exo x C none)) (hv : Ev tv σ H y) (k : ∀ H', ExO x H0 H' → ErrN H0 H' x C [(f, y)] → Ex H H' ∨ True → D.nx σ H') : tOst K f (tVar 0) tv D σ H :=
  hv H (Ex.refl H) _ fun H1 e1 => ⟨.ref x, s0, x, C, rfl, T, hno, .inl ⟨e1 _ _ hx, fun dx hd hn => by
    have e2 : ExO x H0 H1 := e0.trans (ExO.of e1)
    refine k _ (fun a o n h => ?_) ⟨dx, fresh_exo e2 hd hn, hn, upd_same, by rw [upd_ne hn, upd_same]⟩ (.inr trivial)
    have h1 := e2 a o n h
    rw [upd_ne n, upd_ne (ne_of_none h1 hd)]
    exact h1⟩⟩
theorem s_ost2 (T : OexC K C) (hno : NoAttr K C f) (hl : fs.length ≤ 900) (s0 : σ[0]? = some (some (.ref x))) (e0 : ExO x H0 H) (hx : ErrN H0 H x C fs) (hv : Ev tv σ H y) (k : ∀ H', ExO x H0 H' → ErrN H0 H' x C ((f, y) :: fs) → D.nx σ H') : tOst K f (tVar 0) tv D σ H :=
  hv H (Ex.refl H) _ fun H1 e1 => ⟨.ref x, s0, x, C, rfl, T, hno, .inr (by
    obtain ⟨d, hd0, hdx, a, b⟩ := hx
    have e2 : ExO x H0 H1 := e0.trans (ExO.of e1)
    refine ⟨d, fs, e1 _ _ a, e1 _ _ b, hl, k _ (fun c o n h => ?_) ⟨d, hd0, hdx, by rw [upd_ne hdx.symm]; exact e1 _ _ a, upd_same⟩⟩
    rw [upd_ne (ne_of_none h hd0)]
    exact e2 c o n h)⟩
theorem s_ost2L {xs : List V} (T : OexC K C) (hno : NoAttr K C f) (hl : fs.length ≤ 900) (s0 : σ[0]? = some (some (.ref x))) (e0 : ExO x H0 H) (hx : ErrN H0 H x C fs) (hv : EvL tv σ H xs)
    (k : ∀ p H', H0 p = none → p ≠ x → H' p = some (.lst xs) → ExO x H0 H' → ErrN H0 H' x C ((f, .ref p) :: fs) → D.nx σ H') : tOst K f (tVar 0) tv D σ H :=
  hv H (Ex.refl H) _ fun p H1 hp e1 h1 => ⟨.ref x, s0, x, C, rfl, T, hno, .inr (by
    obtain ⟨d, hd0, hdx, a, b⟩ := hx
    have e2 : ExO x H0 H1 := e0.trans (ExO.of e1)
    have hpx : p ≠ x := (ne_of_none a hp).symm
    have hpd : p ≠ d := (ne_of_none b hp).symm
    refine ⟨d, fs, e1 _ _ a, e1 _ _ b, hl, k p _ (fresh_exo e0 hp hpx) hpx (by rw [upd_ne hpd]; exact h1) (fun c o n h => ?_) ⟨d, hd0, hdx, by rw [upd_ne hdx.symm]; exact e1 _ _ a, upd_same⟩⟩
    rw [upd_ne (ne_of_none h hd0)]
    exact e2 c o n h)⟩
/-- the text that is handed to the base class -/
theorem sup_arg {ts : List TE} {P : Hp → Prop} (h : FsL σ H ts) (hl : ts.length ≤ 10) (hx : H x = some (exo x C none)) (k : ∀ H1, Ex H H1 → P H1) : tCons (tFs ts) tNil σ H (fun ws H1 => ws.length ≤ 1000 ∧ H1 x = some (exo x C none) ∧ P H1) := by
  obtain ⟨out, h⟩ := fs_ev h hl
  exact ea_1 h H (Ex.refl H) _ fun H1 e1 => ⟨by show 1 ≤ 1000; decide, e1 _ _ hx, k H1 e1⟩
end
abbrev okI (i : Int) : Prop := i.natAbs.log2 < 1900
abbrev okS (y : Str) : Prop := y.length ≤ 2000
theorem fI {σ : L2.St} {H : Hp} {n : Nat} {i : Int} {ts : List TE} (h : σ[n]? = some (some (.int i))) (hi : okI i) (r : FsL σ H ts) : FsL σ H (tFmt (tVar n) :: ts) := .cons (ev_fmtI (ev_var h) hi) (int_len hi) r
theorem fS {σ : L2.St} {H : Hp} {n : Nat} {y : Str} {ts : List TE} (h : σ[n]? = some (some (.str y))) (hi : okS y) (r : FsL σ H ts) : FsL σ H (tFmt (tVar n) :: ts) := .cons (ev_fmtS (ev_var h) hi) hi r
theorem fC {σ : L2.St} {H : Hp} {y : Str} {ts : List TE} (hi : okS y) (r : FsL σ H ts) : FsL σ H (tC (.str y) :: ts) := .cons ev_c hi r
/-- one attribute, a number -/
def spI (C : Str) (f : Str) : PySem.W.Frag → Sp := fun K vs H Q _ => ∃ (x : Addr) (i : Int), vs = [.ref x, .int i] ∧ H x = some (exo x (He.ga K C) none) ∧ okI i ∧ ∀ H', ExO x H H' → ErrAt H' x (He.ga K C) [(f, .int i)] → Q .non H'
def spS (C : Str) (f : Str) : PySem.W.Frag → Sp := fun K vs H Q _ => ∃ (x : Addr) (y : Str), vs = [.ref x, .str y] ∧ H x = some (exo x (He.ga K C) none) ∧ okS y ∧ ∀ H', ExO x H H' → ErrAt H' x (He.ga K C) [(f, .str y)] → Q .non H'
def spIS (C : Str) : PySem.W.Frag → Sp := fun K vs H Q _ => ∃ (x : Addr) (i : Int) (y : Str), vs = [.ref x, .int i, .str y] ∧ H x = some (exo x (He.ga K C) none) ∧ okI i ∧ okS y ∧ ∀ H', ExO x H H' → ErrAt H' x (He.ga K C) [("name", .str y), ("line", .int i)] → Q .non H'
def sp0 (C : Str) : PySem.W.Frag → Sp := fun K vs H Q _ => ∃ x : Addr, vs = [.ref x] ∧ H x = some (exo x (He.ga K C) none) ∧ Q .non H
def sp_BadLineinit := spI "BadLine" "line"
abbrev nm_BadLineinit : List Str := ["self", "line", "__class__"]
abbrev pr_BadLineinit : List Str := ["self", "line"]
def a_BadLineinit (K : PySem.W.Frag) : TA := (tCons (tFs [(tC (.str "line ")), (tFmt (tVar 1)), (tC (.str " is wrong"))]) tNil)
def t_BadLineinit (K : PySem.W.Frag) : TS :=
  (tOst K "line" (tVar 0) (tVar 1))
def sp_FactFailsinit := spI "FactFails" "line"
abbrev nm_FactFailsinit : List Str := ["self", "line", "__class__"]
abbrev pr_FactFailsinit : List Str := ["self", "line"]
def a_FactFailsinit (K : PySem.W.Frag) : TA := (tCons (tFs [(tC (.str "line ")), (tFmt (tVar 1)), (tC (.str ": the fact does not hold"))]) tNil)
def t_FactFailsinit (K : PySem.W.Frag) : TS :=
  (tOst K "line" (tVar 0) (tVar 1))
def sp_UnknownNameinit := spIS "UnknownName"
abbrev nm_UnknownNameinit : List Str := ["self", "line", "name", "__class__"]
abbrev pr_UnknownNameinit : List Str := ["self", "line", "name"]
def a_UnknownNameinit (K : PySem.W.Frag) : TA := (tCons (tFs [(tC (.str "line ")), (tFmt (tVar 1)), (tC (.str ": the name ")), (tFmt (tVar 2)), (tC (.str " is not known"))]) tNil)
def t_UnknownNameinit (K : PySem.W.Frag) : TS :=
  (tSeq (tOst K "line" (tVar 0) (tVar 1))
  (tOst K "name" (tVar 0) (tVar 2)))
def sp_WrongKindinit := spIS "WrongKind"
abbrev nm_WrongKindinit : List Str := ["self", "line", "name", "__class__"]
abbrev pr_WrongKindinit : List Str := ["self", "line", "name"]
def a_WrongKindinit (K : PySem.W.Frag) : TA := (tCons (tFs [(tC (.str "line ")), (tFmt (tVar 1)), (tC (.str ": the name ")), (tFmt (tVar 2)), (tC (.str " is of the wrong kind"))]) tNil)
def t_WrongKindinit (K : PySem.W.Frag) : TS :=
  (tSeq (tOst K "line" (tVar 0) (tVar 1))
  (tOst K "name" (tVar 0) (tVar 2)))
def sp_UnknownDeedinit := spS "UnknownDeed" "name"
abbrev nm_UnknownDeedinit : List Str := ["self", "name", "__class__"]
abbrev pr_UnknownDeedinit : List Str := ["self", "name"]
def a_UnknownDeedinit (K : PySem.W.Frag) : TA := (tCons (tFs [(tC (.str "there is no deed ")), (tFmt (tVar 1))]) tNil)
def t_UnknownDeedinit (K : PySem.W.Frag) : TS :=
  (tOst K "name" (tVar 0) (tVar 1))
def sp_UnknownMarkinit := spS "UnknownMark" "name"
abbrev nm_UnknownMarkinit : List Str := ["self", "name", "__class__"]
abbrev pr_UnknownMarkinit : List Str := ["self", "name"]
def a_UnknownMarkinit (K : PySem.W.Frag) : TA := (tCons (tFs [(tC (.str "there is no mark ")), (tFmt (tVar 1))]) tNil)
def t_UnknownMarkinit (K : PySem.W.Frag) : TS :=
  (tOst K "name" (tVar 0) (tVar 1))
def sp_Brokeninit (K : PySem.W.Frag) : Sp := fun vs H Q _ => ∃ (x : Addr) (i : Int) (y : Str), vs = [.ref x, .str y, .int i] ∧ H x = some (exo x (He.ga K "Broken") none) ∧ okI i ∧ okS y ∧ ∀ H', ExO x H H' → ErrAt H' x (He.ga K "Broken") [("line", .int i), ("fault", .str y)] → Q .non H'
abbrev nm_Brokeninit : List Str := ["self", "fault", "line", "__class__"]
abbrev pr_Brokeninit : List Str := ["self", "fault", "line"]
def a_Brokeninit (K : PySem.W.Frag) : TA := (tCons (tFs [(tC (.str "line ")), (tFmt (tVar 2)), (tC (.str ": broken, ")), (tFmt (tVar 1))]) tNil)
def t_Brokeninit (K : PySem.W.Frag) : TS :=
  (tSeq (tOst K "fault" (tVar 0) (tVar 1))
  (tOst K "line" (tVar 0) (tVar 2)))
def sp_NeverGiveninit := sp0 "NeverGiven"
abbrev nm_NeverGiveninit : List Str := ["self", "__class__"]
abbrev pr_NeverGiveninit : List Str := ["self"]
def sp_NothingToUndoinit := sp0 "NothingToUndo"
abbrev nm_NothingToUndoinit : List Str := ["self", "__class__"]
abbrev pr_NothingToUndoinit : List Str := ["self"]
def sp_Breaksinit (K : PySem.W.Frag) : Sp := fun vs H Q _ => ∃ (x m l : Addr) (xs : List V), vs = [.ref x, .ref m, .ref l] ∧ H x = some (exo x (He.ga K "Breaks") none) ∧ H l = some (.lst xs) ∧
  ∀ p H', H p = none → H' p = some (.lst xs) → ExO x H H' → ErrAt H' x (He.ga K "Breaks") [("halves", .ref p), ("mesh", .ref m)] → Q .non H'
abbrev nm_Breaksinit : List Str := ["self", "mesh", "halves", "__class__"]
abbrev pr_Breaksinit : List Str := ["self", "mesh", "halves"]
def a_Breaksinit (K : PySem.W.Frag) : TA := (tCons (tC (.str "the deed breaks on a mesh")) tNil)
def t_Breaksinit (K : PySem.W.Frag) : TS :=
  (tSeq (tOst K "mesh" (tVar 0) (tVar 1))
  (tOst K "halves" (tVar 0) (tCB (cList K) (tCons (tVar 2) tNil))))
section
variable {K : PySem.W.Frag} (vs : List V) (H : Hp) (Q : VK) (E : XK)
theorem ln_BadLineinit (h : sp_BadLineinit K vs H Q E) : vs.length = pr_BadLineinit.length := by obtain ⟨_, _, rfl, _⟩ := h; rfl
theorem ln_FactFailsinit (h : sp_FactFailsinit K vs H Q E) : vs.length = pr_FactFailsinit.length := by obtain ⟨_, _, rfl, _⟩ := h; rfl
theorem ln_UnknownDeedinit (h : sp_UnknownDeedinit K vs H Q E) : vs.length = pr_UnknownDeedinit.length := by obtain ⟨_, _, rfl, _⟩ := h; rfl
theorem ln_UnknownMarkinit (h : sp_UnknownMarkinit K vs H Q E) : vs.length = pr_UnknownMarkinit.length := by obtain ⟨_, _, rfl, _⟩ := h; rfl
theorem ln_UnknownNameinit (h : sp_UnknownNameinit K vs H Q E) : vs.length = pr_UnknownNameinit.length := by obtain ⟨_, _, _, rfl, _⟩ := h; rfl
theorem ln_WrongKindinit (h : sp_WrongKindinit K vs H Q E) : vs.length = pr_WrongKindinit.length := by obtain ⟨_, _, _, rfl, _⟩ := h; rfl
theorem ln_Brokeninit (h : sp_Brokeninit K vs H Q E) : vs.length = pr_Brokeninit.length := by obtain ⟨_, _, _, rfl, _⟩ := h; rfl
theorem ln_Breaksinit (h : sp_Breaksinit K vs H Q E) : vs.length = pr_Breaksinit.length := by obtain ⟨_, _, _, _, rfl, _⟩ := h; rfl
theorem ln_NeverGiveninit (h : sp_NeverGiveninit K vs H Q E) : vs.length = pr_NeverGiveninit.length := by obtain ⟨_, rfl, _⟩ := h; rfl
theorem ln_NothingToUndoinit (h : sp_NothingToUndoinit K vs H Q E) : vs.length = pr_NothingToUndoinit.length := by obtain ⟨_, rfl, _⟩ := h; rfl
end
section
variable {K : PySem.W.Frag}
/-- of an own error's __init__: the text, then the rest -/
abbrev GoE (C : Addr) (nm : List Str) (aI : TA) (tI : TS) (vs : List V) (H : Hp) (Q : VK) : Prop := ∃ x : Addr, vs[0]? = some (.ref x) ∧ H x = some (exo x C none) ∧
  aI (NdefX.startF nm vs [none]) H fun ws H1 => ws.length ≤ 1000 ∧ H1 x = some (exo x C none) ∧ tI { nx := fun _ H' => Q .non H', rt := Q } (NdefX.startF nm vs [none]) H1
theorem mN (j : Nat) {x : Str} (h : nmE[j]? = some x := by rfl) : x ∈ nmE := List.mem_of_getElem? h
theorem rd_BadLineinit (F : KE K) (vs : List V) (H : Hp) (Q : VK) (E : XK) (h : sp_BadLineinit K vs H Q E) : GoE (He.ga K "BadLine") ["self", "line", "__class__"] (a_BadLineinit K) (t_BadLineinit K) vs H Q := by
  obtain ⟨x, i, rfl, hx, hi, k⟩ := h
  refine ⟨x, rfl, hx, sup_arg (x := x) (σ := [some (.ref x), some (.int i), none]) (fC (by decide) (fI rfl hi (fC (by decide) .nil))) (by decide) hx fun H1 e1 => ?_⟩
  exact s_ost1 (x := x) (y := .int i) (F.oe _ (mN 1)) F.n1 rfl (ExO.of e1) (e1 _ _ hx) (ev_var rfl) fun H' e r _ => k H' e r.at
theorem rd_FactFailsinit (F : KE K) (vs : List V) (H : Hp) (Q : VK) (E : XK) (h : sp_FactFailsinit K vs H Q E) : GoE (He.ga K "FactFails") ["self", "line", "__class__"] (a_FactFailsinit K) (t_FactFailsinit K) vs H Q := by
  obtain ⟨x, i, rfl, hx, hi, k⟩ := h
  refine ⟨x, rfl, hx, sup_arg (x := x) (σ := [some (.ref x), some (.int i), none]) (fC (by decide) (fI rfl hi (fC (by decide) .nil))) (by decide) hx fun H1 e1 => ?_⟩
  exact s_ost1 (x := x) (y := .int i) (F.oe _ (mN 4)) F.n6 rfl (ExO.of e1) (e1 _ _ hx) (ev_var rfl) fun H' e r _ => k H' e r.at
theorem rd_UnknownDeedinit (F : KE K) (vs : List V) (H : Hp) (Q : VK) (E : XK) (h : sp_UnknownDeedinit K vs H Q E) : GoE (He.ga K "UnknownDeed") ["self", "name", "__class__"] (a_UnknownDeedinit K) (t_UnknownDeedinit K) vs H Q := by
  obtain ⟨x, y, rfl, hx, hi, k⟩ := h
  refine ⟨x, rfl, hx, sup_arg (x := x) (σ := [some (.ref x), some (.str y), none]) (fC (by decide) (fS rfl hi .nil)) (by decide) hx fun H1 e1 => ?_⟩
  exact s_ost1 (x := x) (y := .str y) (F.oe _ (mN 8)) F.n11 rfl (ExO.of e1) (e1 _ _ hx) (ev_var rfl) fun H' e r _ => k H' e r.at
theorem rd_UnknownMarkinit (F : KE K) (vs : List V) (H : Hp) (Q : VK) (E : XK) (h : sp_UnknownMarkinit K vs H Q E) : GoE (He.ga K "UnknownMark") ["self", "name", "__class__"] (a_UnknownMarkinit K) (t_UnknownMarkinit K) vs H Q := by
  obtain ⟨x, y, rfl, hx, hi, k⟩ := h
  refine ⟨x, rfl, hx, sup_arg (x := x) (σ := [some (.ref x), some (.str y), none]) (fC (by decide) (fS rfl hi .nil)) (by decide) hx fun H1 e1 => ?_⟩
  exact s_ost1 (x := x) (y := .str y) (F.oe _ (mN 9)) F.n12 rfl (ExO.of e1) (e1 _ _ hx) (ev_var rfl) fun H' e r _ => k H' e r.at
theorem rd_UnknownNameinit (F : KE K) (vs : List V) (H : Hp) (Q : VK) (E : XK) (h : sp_UnknownNameinit K vs H Q E) : GoE (He.ga K "UnknownName") ["self", "line", "name", "__class__"] (a_UnknownNameinit K) (t_UnknownNameinit K) vs H Q := by
  obtain ⟨x, i, y, rfl, hx, hi, hy, k⟩ := h
  refine ⟨x, rfl, hx, sup_arg (x := x) (σ := [some (.ref x), some (.int i), some (.str y), none]) (fC (by decide) (fI rfl hi (fC (by decide) (fS rfl hy (fC (by decide) .nil))))) (by decide) hx fun H1 e1 => ?_⟩
  exact s_ost1 (x := x) (y := .int i) (F.oe _ (mN 2)) F.n2 rfl (ExO.of e1) (e1 _ _ hx) (ev_var rfl) fun H2 e r _ => s_ost2 (x := x) (y := .str y) (F.oe _ (mN 2)) F.n3 (by show 1 ≤ 900; decide) rfl e r (ev_var rfl) fun H' e r => k H' e r.at
theorem rd_WrongKindinit (F : KE K) (vs : List V) (H : Hp) (Q : VK) (E : XK) (h : sp_WrongKindinit K vs H Q E) : GoE (He.ga K "WrongKind") ["self", "line", "name", "__class__"] (a_WrongKindinit K) (t_WrongKindinit K) vs H Q := by
  obtain ⟨x, i, y, rfl, hx, hi, hy, k⟩ := h
  refine ⟨x, rfl, hx, sup_arg (x := x) (σ := [some (.ref x), some (.int i), some (.str y), none]) (fC (by decide) (fI rfl hi (fC (by decide) (fS rfl hy (fC (by decide) .nil))))) (by decide) hx fun H1 e1 => ?_⟩
  exact s_ost1 (x := x) (y := .int i) (F.oe _ (mN 3)) F.n4 rfl (ExO.of e1) (e1 _ _ hx) (ev_var rfl) fun H2 e r _ => s_ost2 (x := x) (y := .str y) (F.oe _ (mN 3)) F.n5 (by show 1 ≤ 900; decide) rfl e r (ev_var rfl) fun H' e r => k H' e r.at
theorem rd_Brokeninit (F : KE K) (vs : List V) (H : Hp) (Q : VK) (E : XK) (h : sp_Brokeninit K vs H Q E) : GoE (He.ga K "Broken") ["self", "fault", "line", "__class__"] (a_Brokeninit K) (t_Brokeninit K) vs H Q := by
  obtain ⟨x, i, y, rfl, hx, hi, hy, k⟩ := h
  refine ⟨x, rfl, hx, sup_arg (x := x) (σ := [some (.ref x), some (.str y), some (.int i), none]) (fC (by decide) (fI rfl hi (fC (by decide) (fS rfl hy .nil)))) (by decide) hx fun H1 e1 => ?_⟩
  exact s_ost1 (x := x) (y := .str y) (F.oe _ (mN 5)) F.n7 rfl (ExO.of e1) (e1 _ _ hx) (ev_var rfl) fun H2 e r _ => s_ost2 (x := x) (y := .int i) (F.oe _ (mN 5)) F.n8 (by show 1 ≤ 900; decide) rfl e r (ev_var rfl) fun H' e r => k H' e r.at
theorem rd_Breaksinit (F : KE K) (vs : List V) (H : Hp) (Q : VK) (E : XK) (h : sp_Breaksinit K vs H Q E) : GoE (He.ga K "Breaks") ["self", "mesh", "halves", "__class__"] (a_Breaksinit K) (t_Breaksinit K) vs H Q := by
  obtain ⟨x, m, l, xs, rfl, hx, hl, k⟩ := h
  have hlx : l ≠ x := fun q => by
    rw [q, hx] at hl
    have h2 : exo x (He.ga K "Breaks") none = HO.lst xs := Option.some.inj hl
    cases (show HO.ext _ = HO.lst xs from h2)
  refine ⟨x, rfl, hx, (ea_1 ev_c : EvA (tCons (tC (.str "the deed breaks on a mesh")) tNil) _ H _) H (Ex.refl H) _ fun H1 e1 => ⟨by show 1 ≤ 1000; decide, e1 _ _ hx, ?_⟩⟩
  refine s_ost1 (σ := [some (.ref x), some (.ref m), some (.ref l), none]) (x := x) (y := .ref m) (F.oe _ (mN 7)) F.n9 rfl (ExO.of e1) (e1 _ _ hx) (ev_var rfl) fun H2 e r _ => ?_
  exact s_ost2L (x := x) (xs := xs) (F.oe _ (mN 7)) F.n10 (by show 1 ≤ 900; decide) rfl e r (el_cb (ea_1 (ev_var rfl)) (rcl_list (sq_of (e _ _ hlx hl)))) fun p H' hp _ h1 e r => k p H' hp h1 e r.at
end
/-! ### errors that the law makes -/
def EvE (te : TE) (σ : L2.St) (H : Hp) (C : Addr) (fs : List (Str × V)) : Prop := ∀ H1, Ex H H1 → ∀ Q : VK, (∀ a H2, H1 a = none → Ex H1 H2 → ErrAt H2 a C fs → Q (.ref a) H2) → te σ H1 Q
section
variable {K : PySem.W.Frag} {σ : L2.St} {H : Hp} {ta tk : TA} {vs zs : List V} {i : Int} {y : Str}
theorem ee_mk {C : Addr} {n m : Nat} {sp : Sp} {fs : List (Str × V)} (ha : EvA ta σ H vs) (hk : EvA tk σ H zs) (hn : vs.length = n) (hm : zs.length = m)
    (hs : ∀ (H1 : Hp) (a : Addr) (Q : VK) (E : XK), H1 a = none → (∀ H', ExO a (upd H1 a (exo a C none)) H' → ErrAt H' a C fs → Q .non H') → sp (gR (.ref a :: vs) zs) (upd H1 a (exo a C none)) Q E) : EvE (tMkE C n m sp gR ta tk) σ H C fs := fun H1 e Q q =>
  ha H1 e _ fun H2 e2 => hk H2 (e.trans e2) _ fun H3 e3 => ⟨hn, hm, fun a hna => hs H3 a _ _ hna fun H' x er => ⟨rfl, q a H' (fresh_back (e2.trans e3) hna) (fun b o hb => by
    have h3 := e3 _ _ (e2 _ _ hb)
    have hne : b ≠ a := ne_of_none h3 hna
    exact x b o hne (by rw [upd_ne hne]; exact h3)) er⟩⟩
theorem ee_I1 {C f : Str} (h : EvA ta σ H [.int i]) (hi : okI i) : EvE (tMkE (He.ga K C) 1 0 (spI C f K) gR ta tNil) σ H (He.ga K C) [(f, .int i)] := ee_mk h ea_nil rfl rfl fun H1 a Q E _ q => ⟨a, i, rfl, upd_same, hi, q⟩
theorem ee_I2 {C f : Str} (h : EvA tk σ H [.int i]) (hi : okI i) : EvE (tMkE (He.ga K C) 0 1 (spI C f K) gR tNil tk) σ H (He.ga K C) [(f, .int i)] := ee_mk ea_nil h rfl rfl fun H1 a Q E _ q => ⟨a, i, rfl, upd_same, hi, q⟩
theorem ee_S1 {C f : Str} (h : EvA ta σ H [.str y]) (hi : okS y) : EvE (tMkE (He.ga K C) 1 0 (spS C f K) gR ta tNil) σ H (He.ga K C) [(f, .str y)] := ee_mk h ea_nil rfl rfl fun H1 a Q E _ q => ⟨a, y, rfl, upd_same, hi, q⟩
theorem ee_S2 {C f : Str} (h : EvA tk σ H [.str y]) (hi : okS y) : EvE (tMkE (He.ga K C) 0 1 (spS C f K) gR tNil tk) σ H (He.ga K C) [(f, .str y)] := ee_mk ea_nil h rfl rfl fun H1 a Q E _ q => ⟨a, y, rfl, upd_same, hi, q⟩
theorem ee_IS1 {C : Str} (h : EvA ta σ H [.int i, .str y]) (hi : okI i) (hy : okS y) : EvE (tMkE (He.ga K C) 2 0 (spIS C K) gR ta tNil) σ H (He.ga K C) [("name", .str y), ("line", .int i)] := ee_mk h ea_nil rfl rfl fun H1 a Q E _ q => ⟨a, i, y, rfl, upd_same, hi, hy, q⟩
theorem ee_IS2 {C : Str} (h : EvA tk σ H [.str y, .int i]) (hi : okI i) (hy : okS y) : EvE (tMkE (He.ga K C) 0 2 (spIS C K) gR tNil tk) σ H (He.ga K C) [("name", .str y), ("line", .int i)] := ee_mk ea_nil h rfl rfl fun H1 a Q E _ q => ⟨a, i, y, rfl, upd_same, hi, hy, q⟩
theorem ee_B1 (h : EvA ta σ H [.str y, .int i]) (hi : okI i) (hy : okS y) : EvE (tMkE (He.ga K "Broken") 2 0 (sp_Brokeninit K) gR ta tNil) σ H (He.ga K "Broken") [("line", .int i), ("fault", .str y)] := ee_mk h ea_nil rfl rfl fun H1 a Q E _ q => ⟨a, i, y, rfl, upd_same, hi, hy, q⟩
theorem ee_B2 (h : EvA tk σ H [.int i, .str y]) (hi : okI i) (hy : okS y) : EvE (tMkE (He.ga K "Broken") 0 2 (sp_Brokeninit K) gR tNil tk) σ H (He.ga K "Broken") [("line", .int i), ("fault", .str y)] := ee_mk ea_nil h rfl rfl fun H1 a Q E _ q => ⟨a, i, y, rfl, upd_same, hi, hy, q⟩
theorem ee_0 {C : Str} : EvE (tMkE (He.ga K C) 0 0 (sp0 C K) gR tNil tNil) σ H (He.ga K C) [] := ee_mk ea_nil ea_nil rfl rfl fun H1 a Q E _ q => ⟨a, rfl, upd_same, q _ ExO.refl (.inl ⟨rfl, upd_same⟩)⟩
theorem ee_N : EvE (tMkE (He.ga K "NotAMesh") 0 0 (sp_NotAMeshinit K) gR tNil tNil) σ H (He.ga K "NotAMesh") [] := ee_mk ea_nil ea_nil rfl rfl fun H1 a Q E _ q => ⟨a, rfl, upd_same, q _ ExO.refl (.inl ⟨rfl, upd_same⟩)⟩
/-- errors by their classes and attributes -/
abbrev Es := List (Str × List (Str × V))
abbrev LE (K : PySem.W.Frag) (H : Hp) (as : List Addr) (es : Es) : Prop := Paired (fun a (e : Str × List (Str × V)) => ErrAt H a (He.ga K e.1) e.2) as es
theorem LE.ex {H H' : Hp} {as : List Addr} {es : Es} (h : LE K H as es) (e : Ex H H') : LE K H' as es := paired_imp h fun a x _ q => q.ex e
def EvEs (K : PySem.W.Frag) (ta : TA) (σ : L2.St) (H : Hp) (es : Es) : Prop := ∀ H1, Ex H H1 → ∀ Q : List V → Hp → Prop, (∀ as H2, Ex H1 H2 → LE K H2 as es → Q (as.map V.ref) H2) → ta σ H1 Q
theorem es_nil : EvEs K tNil σ H [] := fun H1 _ Q q => q [] H1 (Ex.refl H1) .nil
theorem es_cons {te : TE} {x : Str} {fs : List (Str × V)} {es : Es} (h : EvE te σ H (He.ga K x) fs) (r : EvEs K ta σ H es) : EvEs K (tCons te ta) σ H ((x, fs) :: es) := fun H1 e Q q =>
  h H1 e _ fun a H2 ha e2 er => r H2 (e.trans e2) _ fun as H3 e3 l => q (a :: as) H3 (e2.trans e3) (.cons (er.ex e3) l)
theorem LE.len {H : Hp} {as : List Addr} {es : Es} (h : LE K H as es) : as.length = es.length := Paired.length h
theorem paired_append {α β : Type} {R : α → β → Prop} : ∀ {as bs : List α} {xs ys : List β}, Paired R as xs → Paired R bs ys → Paired R (as ++ bs) (xs ++ ys)
  | _, _, _, _, .nil, h => h
  | _, _, _, _, .cons r t, h => .cons r (paired_append t h)
/-- a new list of errors -/
def EvEL (K : PySem.W.Frag) (te : TE) (σ : L2.St) (H : Hp) (es : Es) : Prop := ∀ H1, Ex H H1 → ∀ Q : VK, (∀ p as H2, H1 p = none → Ex H1 H2 → H2 p = some (.lst (as.map V.ref)) → LE K H2 as es → Q (.ref p) H2) → te σ H1 Q
theorem eel_lst {es : Es} (h : EvEs K ta σ H es) (hl : es.length ≤ 100) : EvEL K (tLst ta) σ H es := fun H1 e Q q =>
  h H1 e _ fun as H2 e2 l => ⟨sz_of (by rw [List.length_map, l.len]; omega), fun p hp => q p as _ (fresh_back e2 hp) (e2.trans (Ex.new hp)) upd_same (l.ex (Ex.new hp))⟩
theorem eel_cat {te : TE} {j : Nat} {p : Addr} {as : List Addr} {es es' : Es} (s : σ[j]? = some (some (.ref p))) (hp : H p = some (.lst (as.map V.ref))) (l : LE K H as es) (h : EvEL K te σ H es') (h1 : es.length ≤ 100) (h2 : es'.length ≤ 100) : EvEL K (tOp rCat (tVar j) te) σ H (es ++ es') := fun H1 e Q q =>
  ⟨.ref p, s, h H1 e _ fun p' as' H2 hp' e2 h' l' => ⟨p, p', _, _, rfl, rfl, (e.trans e2) _ _ hp, h', sz_of (by rw [List.length_map, List.length_map, l.len, l'.len]; omega), fun r hr => q r (as ++ as') _ (fresh_back e2 hr) (e2.trans (Ex.new hr))
    (by rw [upd_same, List.map_append]) (LE.ex (paired_append (l.ex (e.trans e2)) l') (Ex.new hr))⟩⟩
theorem q_asgE {te : TE} {es : Es} {j : Nat} {tz : TS} {D : Ends} (h : EvEL K te σ H es) (k : ∀ p as H1, H p = none → Ex H H1 → H1 p = some (.lst (as.map V.ref)) → LE K H1 as es → tz D (σ.set j (some (.ref p))) H1) : tSeq (tAsg te (gName j)) tz D σ H :=
  h H (Ex.refl H) _ fun p as H1 hp e h1 l => k p as H1 hp e h1 l
theorem LE.at {H : Hp} {as : List Addr} {es : Es} (h : LE K H as es) : ∀ {k : Nat} {e : Str × List (Str × V)}, es[k]? = some e → ∃ a, (as.map V.ref)[k]? = some (.ref a) ∧ ErrAt H a (He.ga K e.1) e.2 := by
  induction h with
  | nil => intro k e he; cases he
  | @cons a x as es r t ih =>
    intro k e he
    cases k with
    | zero =>
      cases he
      exact ⟨a, rfl, r⟩
    | succ k => exact ih he
end
end K15
namespace K15
open PySem PySem.Spec PyProof.Rows L2 Evl Hm
def sp_Lkinds (K : PySem.W.Frag) : Sp := fun vs H Q _ => ∃ (a : Addr) (x : Str) (fs : List (Str × V)), vs = [.ref a] ∧ x ∈ nmE ∧ ErrAt H a (He.ga K x) fs ∧ ∀ p H', H p = none → Ex H H' → H' p = some (.lst (nmE.map fun y => .bl (decide (x = y)))) → Q (.ref p) H'
abbrev nm_Lkinds : List Str := ["_law_e", "_law_found"]
abbrev pr_Lkinds : List Str := ["_law_e"]
def t_Lkinds (K : PySem.W.Frag) : TS :=
  (tSeq (tAsg (tLst (tCons (tCB (rIsErr K) (tCons (tVar 0) (tCons (tC (.ref (He.ga K "NotAMesh"))) tNil))) (tCons (tCB (rIsErr K) (tCons (tVar 0) (tCons (tC (.ref (He.ga K "BadLine"))) tNil))) (tCons (tCB (rIsErr K) (tCons (tVar 0) (tCons (tC (.ref (He.ga K "UnknownName"))) tNil))) (tCons (tCB (rIsErr K) (tCons (tVar 0) (tCons (tC (.ref (He.ga K "WrongKind"))) tNil))) tNil))))) (gName 1))
  (tSeq (tAsg (tOp rCat (tVar 1) (tLst (tCons (tCB (rIsErr K) (tCons (tVar 0) (tCons (tC (.ref (He.ga K "FactFails"))) tNil))) (tCons (tCB (rIsErr K) (tCons (tVar 0) (tCons (tC (.ref (He.ga K "Broken"))) tNil))) (tCons (tCB (rIsErr K) (tCons (tVar 0) (tCons (tC (.ref (He.ga K "NeverGiven"))) tNil))) (tCons (tCB (rIsErr K) (tCons (tVar 0) (tCons (tC (.ref (He.ga K "Breaks"))) tNil))) tNil)))))) (gName 1))
  (tRet (tOp rCat (tVar 1) (tLst (tCons (tCB (rIsErr K) (tCons (tVar 0) (tCons (tC (.ref (He.ga K "UnknownDeed"))) tNil))) (tCons (tCB (rIsErr K) (tCons (tVar 0) (tCons (tC (.ref (He.ga K "UnknownMark"))) tNil))) (tCons (tCB (rIsErr K) (tCons (tVar 0) (tCons (tC (.ref (He.ga K "NothingToUndo"))) tNil))) tNil))))))))
abbrev Wt_Lkinds (K : PySem.W.Frag) (vs : List V) (H : Hp) (Q : VK) : Prop := t_Lkinds K { nx := fun _ H' => Q .non H', rt := Q } (start nm_Lkinds vs) H
theorem ln_Lkinds {K : PySem.W.Frag} (vs : List V) (H : Hp) (Q : VK) (E : XK) (h : sp_Lkinds K vs H Q E) : vs.length = pr_Lkinds.length := by
  obtain ⟨_, _, _, rfl, _⟩ := h
  rfl
theorem rc_isErr {K : PySem.W.Frag} {D a : Addr} {H : Hp} {fs : List (Str × V)} {c : V} {cv : Value} {b : Bool} (e : ErrAt H a D fs) (C : ExcC K D) (h1 : ∀ u, RelV c u → u = cv) (h2 : PySem.W.kitOne K (.ref D) cv = some b) : RC (rIsErr K) [.ref a, c] H (.bl b) :=
  fun H1 ex Q q => ⟨a, D, fs, c, cv, b, rfl, e.ex ex, C, h1, h2, q H1 (Ex.refl H1)⟩
theorem rd_Lkinds {K : PySem.W.Frag} (F : KE K) (vs : List V) (H : Hp) (Q : VK) (E : XK) (h : sp_Lkinds K vs H Q E) : Wt_Lkinds K vs H Q := by
  obtain ⟨a, x, fs, rfl, hm, ea, k⟩ := h
  show t_Lkinds K _ [some (.ref a), none] H
  have one : ∀ {σ : L2.St} {H1 : Hp} (y : Str), y ∈ nmE → σ[0]? = some (some (.ref a)) → ErrAt H1 a (He.ga K x) fs → Ev (tCB (rIsErr K) (tCons (tVar 0) (tCons (tC (.ref (He.ga K y))) tNil))) σ H1 (.bl (decide (x = y))) :=
    fun y hy s e => ev_cb (ea_2 (ev_var s) ev_c) (rc_isErr e (F.ex _ hm) (fun u r => r) (F.ks _ hm _ hy))
  refine q_asgL (el_lst (ea_cons (one _ (mN 0) rfl ea) (ea_cons (one _ (mN 1) rfl ea) (ea_2 (one _ (mN 2) rfl ea) (one _ (mN 3) rfl ea)))) (by show 4 ≤ 100000; decide)) (fun p1 H1 hp1 e1 h1 => ?_)
  have ea1 := ea.ex e1
  refine q_asgL (el_catV (ev_var rfl) h1 (el_lst (ea_cons (one _ (mN 4) rfl ea1) (ea_cons (one _ (mN 5) rfl ea1) (ea_2 (one _ (mN 6) rfl ea1) (one _ (mN 7) rfl ea1)))) (by show 4 ≤ 100000; decide)) (by show 4 + 4 ≤ 100000; decide)) (fun p2 H2 hp2 e2 h2 => ?_)
  have ea2 := ea1.ex e2
  refine s_retL (el_catV (ev_var rfl) h2 (el_lst (ea_cons (one _ (mN 8) rfl ea2) (ea_2 (one _ (mN 9) rfl ea2) (one _ (mN 10) rfl ea2))) (by show 3 ≤ 100000; decide)) (by show 8 + 3 ≤ 100000; decide)) (fun p3 H3 hp3 e3 h3 => ?_)
  exact k p3 H3 (fresh_back (e1.trans e2) hp3) ((e1.trans e2).trans e3) h3
def sp_Lright (K : PySem.W.Frag) : Sp := fun vs H Q _ => ∃ (a : Addr) (i : Nat) (x : Str) (fs : List (Str × V)), vs = [.ref a, vi i] ∧ nmE[i]? = some x ∧ ErrAt H a (He.ga K x) fs ∧ ∀ H', Ex H H' → Q (.bl true) H'
abbrev nm_Lright : List Str := ["_law_e", "_law_at", "_law_due", "_law_k"]
abbrev pr_Lright : List Str := ["_law_e", "_law_at"]
def t_Lright (K : PySem.W.Frag) : TS :=
  (tSeq (tAsg (tLc (iRng1 (tCons (tC (.int 11)) tNil)) (gName 3) tYes (tOp rEq (tVar 3) (tVar 1)) [3]) (gName 2))
  (tRet (tAndV (tOp (rEqD K) (tCall (sp_Lkinds K) [] E0 (tCons (tVar 0) tNil)) (tVar 2)) (tAndV (tCB (rIsErr K) (tCons (tVar 0) (tCons (tC (.ref (He.ga K "MeshError"))) tNil))) (tCB (rIsErr K) (tCons (tVar 0) (tCons (tC (.ty "ValueError")) tNil)))))))
abbrev Wt_Lright (K : PySem.W.Frag) (vs : List V) (H : Hp) (Q : VK) : Prop := t_Lright K { nx := fun _ H' => Q .non H', rt := Q } (start nm_Lright vs) H
theorem ln_Lright {K : PySem.W.Frag} (vs : List V) (H : Hp) (Q : VK) (E : XK) (h : sp_Lright K vs H Q E) : vs.length = pr_Lright.length := by
  obtain ⟨_, _, _, _, rfl, _⟩ := h
  rfl
def dB (bs : List Bool) : PyData := .list (bs.map PyData.bool)
theorem dpAll_B {K : PySem.W.Frag} {H : Hp} : ∀ bs : List Bool, DpAll K H (bs.map V.bl) (bs.map PyData.bool)
  | [] => .nil
  | b :: r => .cons (.bl b) (dpAll_B r)
theorem shaped_dB (bs : List Bool) : SeqAt.shaped (dB bs) = true := by
  have h : ∀ zs : List Bool, PyData.canLayAll0 (zs.map PyData.bool) = true ∧ PyData.depthAll (zs.map PyData.bool) = 0 := by
    intro zs
    induction zs with
    | nil => exact ⟨by simp [PyData.canLayAll0], by simp [PyData.depthAll]⟩
    | cons n r ih => exact ⟨by simp [PyData.canLayAll0, PyData.canLay0, ih.1], by simp [PyData.depthAll, PyData.depth, ih.2]⟩
  obtain ⟨h1, h2⟩ := h bs
  have e1 : PyData.canLay0 (.list (bs.map PyData.bool)) = true := by simp [PyData.canLay0, h1]
  have e2 : PyData.depth (.list (bs.map PyData.bool)) ≤ 64 := by simp [PyData.depth, h2]
  unfold SeqAt.shaped dB
  rw [e1, decide_eq_true e2]
  rfl
theorem eqvAll_B : ∀ bs : List Bool, PyData.eqvAll (bs.map PyData.bool) (bs.map PyData.bool) = true
  | [] => by simp [PyData.eqvAll]
  | b :: r => by simp [PyData.eqvAll, PyData.eqv, eqvAll_B r]
theorem eqv_B (bs : List Bool) : PyData.eqv (dB bs) (dB bs) = true := by
  unfold dB
  simp only [PyData.eqv]
  exact eqvAll_B bs
theorem nodup_nmE : nmE.Nodup := by decide +kernel
theorem due_ok {i : Nat} {x : Str} (h : nmE[i]? = some x) : (List.range 11).map (fun k => V.bl (decide (vi k = vi i))) = (nmE.map fun y => decide (x = y)).map V.bl := by
  rw [List.map_map]
  refine List.ext_getElem? fun j => ?_
  rw [List.getElem?_map, List.getElem?_map]
  by_cases hj : j < 11
  · obtain ⟨y, hy⟩ : ∃ y, nmE[j]? = some y := ⟨nmE[j]'hj, List.getElem?_eq_getElem hj⟩
    rw [List.getElem?_range hj, hy]
    show some (V.bl (decide (vi j = vi i))) = some (V.bl (decide (x = y)))
    have e : (vi j = vi i) ↔ x = y := by
      constructor
      · intro q
        have q1 : (j : Int) = (i : Int) := V.int.inj q
        have q2 : j = i := by omega
        subst q2
        exact Option.some.inj (h.symm.trans hy)
      · intro q
        subst q
        obtain ⟨hi, h1⟩ := List.getElem?_eq_some_iff.mp h
        obtain ⟨hj, h2⟩ := List.getElem?_eq_some_iff.mp hy
        rw [(List.getElem_inj nodup_nmE).mp (h2.trans h1.symm)]
    rw [decide_eq_decide.mpr e]
  · have h1 : nmE.length = 11 := rfl
    rw [List.getElem?_eq_none (by rw [List.length_range]; omega), List.getElem?_eq_none (by omega)]
    rfl
theorem spl_Lkinds {K : PySem.W.Frag} {H : Hp} {a : Addr} {x : Str} {fs : List (Str × V)} (hm : x ∈ nmE) (e : ErrAt H a (He.ga K x) fs) : SpL (sp_Lkinds K) [.ref a] H ((nmE.map fun y => decide (x = y)).map V.bl) := fun H1 ex Q q E => ⟨a, x, fs, rfl, hm, e.ex ex, fun p H' hp ex2 h => q p H' hp ex2 (by rw [h, List.map_map]; rfl)⟩
theorem rd_Lright {K : PySem.W.Frag} (F : KE K) (vs : List V) (H : Hp) (Q : VK) (E : XK) (h : sp_Lright K vs H Q E) : Wt_Lright K vs H Q := by
  obtain ⟨a, i, x, fs, rfl, hx, ea, k⟩ := h
  have hm : x ∈ nmE := List.mem_of_getElem? hx
  show t_Lright K _ [some (.ref a), some (vi i), none, none] H
  have hdue : EvL (tLc (iRng1 (tCons (tC (.int 11)) tNil)) (gName 3) tYes (tOp rEq (tVar 3) (tVar 1)) [3]) [some (.ref a), some (vi i), none, none] H ((nmE.map fun y => decide (x = y)).map V.bl) := by
    have := el_lcR1 (σ := [some (.ref a), some (vi i), none, none]) (H := H) (j := 3) (vs := [3]) (t := tYes) (te := tOp rEq (tVar 3) (tVar 1)) (n := 11) (fun _ => true) (fun k => V.bl (decide (vi k = vi i))) (ea_1 ev_c) (by decide) (fun _ => rfl) (fun _ _ _ _ => et_yes) (fun k H1 _ _ _ => ev_op (ev_var rfl) (ev_var rfl) (rv_eq rfl))
    rw [given_all] at this
    rw [← due_ok hx]
    exact this
  refine q_asgL hdue (fun p H1 hp e1 h1 => ?_)
  have ea1 := ea.ex e1
  refine s_ret (v := .bl (true && (true && true))) (ev_andV (ev_opL1 (el_call (ea_1 (ev_var rfl)) (spl_Lkinds hm ea1)) (fun _ _ => ev_var rfl) (fun q H2 hq e2 => ?_)) (fun _ => ev_andV (ev_cb (ea_2 (ev_var rfl) ev_c) (rc_isErr ea1 (F.ex _ hm) (fun u r => r) (F.kM _ hm))) (fun _ => ev_cb (ea_2 (ev_var rfl) ev_c) (rc_isErr ea1 (F.ex _ hm) (fun u r => r) (F.kV _ hm))))) (fun H2 e2 => k H2 (e1.trans e2))
  rw [← eqv_B (nmE.map fun y => decide (x = y))]
  exact rv_eqD' (Dp.lst (sq_of hq) (dpAll_B _)) (Dp.lst (sq_of (e2 _ _ h1)) (dpAll_B _)) (shaped_dB _) (shaped_dB _)
theorem spv_Lright {K : PySem.W.Frag} {H : Hp} {a : Addr} {i : Nat} {x : Str} {fs : List (Str × V)} (hx : nmE[i]? = some x) (e : ErrAt H a (He.ga K x) fs) : SpV (sp_Lright K) [.ref a, vi i] H (.bl true) := fun H1 ex Q q E => ⟨a, i, x, fs, rfl, hx, e.ex ex, q⟩
theorem ev_rightN {K : PySem.W.Frag} {σ : L2.St} {H : Hp} {te : TE} {i : Nat} {x : Str} {fs : List (Str × V)} (hx : nmE[i]? = some x) (h : EvE te σ H (He.ga K x) fs) : Ev (tCall (sp_Lright K) [] E0 (tCons te (tCons (tC (vi i)) tNil))) σ H (.bl true) := fun H1 e Q q =>
  h H1 e _ fun a H2 ha e2 er => show sp_Lright K [.ref a, vi i] H2 Q E0 from ⟨a, i, x, fs, rfl, hx, er, fun H3 e3 => q H3 (e2.trans e3)⟩
/-! ### the tape -/
def sp_Ltape (K : PySem.W.Frag) : Sp := fun vs H Q _ => ∃ (a : Addr) (zs : List Int) (k : Nat), vs = [.ref a, vi k] ∧ SqL K H a (zs.map V.int) ∧ k ≤ 100 ∧
  ∀ p H', H p = none → Tp (H' p) → Ex H H' → Q (.ref p) H'
abbrev nm_Ltape : List Str := ["_law_script", "_law_k", "_law_cell"]
abbrev pr_Ltape : List Str := ["_law_script", "_law_k"]
def t_Ltape (K : PySem.W.Frag) : TS :=
  (tSeq (tAsg (tIf (tTest (tOp zLt (tVar 1) (tCB (cLen K) (tCons (tVar 0) tNil)))) (tOp (rIxL K) (tVar 0) (tVar 1)) (tC (.int 0))) (gName 2))
  (tRet (tLst (tCons (tCB cAbs (tCons (tVar 2) tNil)) (tCons (tOp zAdd (tOp zMul (tC (.int 7919)) (tVar 1)) (tC (.int 104729))) tNil)))))
abbrev Wt_Ltape (K : PySem.W.Frag) (vs : List V) (H : Hp) (Q : VK) : Prop := t_Ltape K { nx := fun _ H' => Q .non H', rt := Q } (start nm_Ltape vs) H
theorem ln_Ltape {K : PySem.W.Frag} (vs : List V) (H : Hp) (Q : VK) (E : XK) (h : sp_Ltape K vs H Q E) : vs.length = pr_Ltape.length := by
  obtain ⟨_, _, _, rfl, _⟩ := h
  rfl
theorem rd_Ltape {K : PySem.W.Frag} (F : KF K) (vs : List V) (H : Hp) (Q : VK) (E : XK) (h : sp_Ltape K vs H Q E) : Wt_Ltape K vs H Q := by
  obtain ⟨a, zs, k, rfl, hS, k1, q⟩ := h
  show t_Ltape K _ [some (.ref a), some (vi k), none] H
  have hcell : ∃ c : Int, Ev (tIf (tTest (tOp zLt (tVar 1) (tCB (cLen K) (tCons (tVar 0) tNil)))) (tOp (rIxL K) (tVar 0) (tVar 1)) (tC (.int 0))) [some (.ref a), some (vi k), none] H (.int c) := by
    have ht : EvT (tTest (tOp zLt (tVar 1) (tCB (cLen K) (tCons (tVar 0) tNil)))) [some (.ref a), some (vi k), none] H (decide ((k : Int) < ((zs.map V.int).length : Int))) := et_test (ev_op (ev_var rfl) (ev_cb (ea_1 (ev_var rfl)) (rc_len hS)) rv_I0)
    by_cases h : k < zs.length
    · refine ⟨zs[k]'h, ev_if ht (fun _ => ev_op (ev_var rfl) (ev_var rfl) (rv_ixL hS ?_)) (fun hb => ?_)⟩
      · refine at_of (j := k) rfl ?_
        rw [List.getElem?_map, List.getElem?_eq_getElem h]
        rfl
      · rw [List.length_map] at hb
        have := of_decide_eq_false hb
        omega
    · refine ⟨0, ev_if ht (fun hb => ?_) (fun _ => ev_c)⟩
      rw [List.length_map] at hb
      have := of_decide_eq_true hb
      omega
  obtain ⟨c, hc⟩ := hcell
  refine q_asg hc (fun H1 e1 => ?_)
  refine s_retL (el_lst (ea_2 (ev_cb (ea_1 (ev_var rfl)) rc_abs) (ev_op (ev_op ev_c (ev_var rfl) (rv_I (Or.inl ⟨by decide, by decide⟩))) ev_c rv_I0)) (by show 2 ≤ 100000; decide)) (fun p H3 hp e3 h3 => ?_)
  refine q p H3 (fresh_back e1 hp) ⟨_, _, h3, ?_, by dsimp only; omega, by dsimp only; omega⟩ (e1.trans e3)
  split <;> omega
end K15
namespace K15
open PySem PySem.Spec PyProof.Rows L2 Evl Hm
section
variable {K : PySem.W.Frag} {σ : L2.St} {H : Hp} {D : Ends} {tz : TS} {t : Addr}
theorem pick_run {m : Int} {Q : VK} (s1 : σ[1]? = some (some (.ref t))) (ht : Tp (H t)) (h1 : 1 ≤ m) (h2 : m ≤ 1000000) (k : ∀ (d : Nat) H', (d : Int) < m → Tp (H' t) → ExO t H H' → Q (vi d) H') : tCall (sp_Lpick K) [] E0 (tCons (tVar 1) (tCons (tC (.int m)) tNil)) σ H Q :=
  ⟨.ref t, s1, t, m, rfl, ht, h1, h2, fun d H' d0 d1 ht' e => by
    have : d = ((d.toNat : Nat) : Int) := by omega
    rw [this]
    exact k d.toNat H' (by omega) ht' e⟩
theorem q_word {i : Nat} {w : Str} {c m : Int} (s1 : σ[1]? = some (some (.ref t))) (ht : Tp (H t)) (h1 : 1 ≤ m) (h2 : m ≤ 1000000) (hw : w.length ≤ 100) (k : ∀ y H', y.length ≤ 100 → Tp (H' t) → ExO t H H' → tz D (σ.set i (some (.str y))) H') :
    tSeq (tAsg (tSl rSlS (tC (.str w)) tNoPart (tPart (tOp zAdd (tC (.int c)) (tCall (sp_Lpick K) [] E0 (tCons (tVar 1) (tCons (tC (.int m)) tNil)))))) (gName i)) tz D σ H :=
  pick_run (Q := fun v H2 => zAdd (.int c) v H2 (fun z H3 => ∃ j, z = .int j ∧ rSlS (.str w) none (some j) H3 (fun u H4 => tz D (σ.set i (some u)) H4))) s1 ht h1 h2 fun d H' _ ht' e => ⟨c, d, rfl, rfl, _, rfl, w, rfl, sz_of (by omega), k _ H' (Nat.le_trans (cutS_length _ _ _) hw) ht' e⟩
theorem q_mkIx {i : Nat} {m : Int} {ta : TE} {xss : List (List Nat)} {E1 : XK} (hT : EvLL ta σ H xss) (s1 : σ[1]? = some (some (.ref t))) (ht : Tp (H t)) (h1 : 1 ≤ m) (h2 : m ≤ 1000000) (hm : m = (xss.length : Int)) (hM : ∀ ns ∈ xss, MP ns)
    (k : ∀ x ns H0 H', H0 x = none → MeshN K H0 H' x ns → Tp (H0 t) → Tp (H' t) → ExO t H H' → tz D (σ.set i (some (.ref x))) H') :
    tSeq (tAsg (tMake (He.ga K "Mesh") (sp_Meshinit K) [] E1 (tCons (tOp (rIxL K) ta (tCall (sp_Lpick K) [] E0 (tCons (tVar 1) (tCons (tC (.int m)) tNil)))) tNil)) (gName i)) tz D σ H :=
  hT H (Ex.refl H) _ fun p H1 hp e1 hl => pick_run (H := H1)
    (Q := fun d H3 => rIxL K (.ref p) d H3 (fun a H4 => ∀ x dx, H4 x = none → H4 dx = none → dx ≠ x → sp_Meshinit K ([.ref x, a] ++ []) (upd (upd H4 dx (.own x)) x (.ins (He.ga K "Mesh") dx [])) (fun v H5 => v = .non ∧ tz D (σ.set i (some (.ref x))) H5) E1))
    s1 (tp_ex ht e1) h1 h2 fun d H' hd ht' e => by
      obtain ⟨as, hps, la, hfr⟩ := hl
      have hpt : p ≠ t := tp_ne ht hp
      have hd2 : d < xss.length := by omega
      obtain ⟨l, hl1, hl2, hl3⟩ : ∃ l, as[d]? = some l ∧ l ∈ as ∧ H1 l = some (.lst (L (xss[d]'hd2))) := by
        have key : ∀ {as : List Addr} {xss : List (List Nat)}, LA H1 as xss → ∀ (d : Nat) (h : d < xss.length), ∃ l, as[d]? = some l ∧ l ∈ as ∧ H1 l = some (.lst (L (xss[d]'h))) := by
          intro as xss la
          induction la with
          | nil => intro d h; exact absurd h (Nat.not_lt_zero _)
          | @cons a x as xs r q ih =>
            intro d h
            cases d with
            | zero => exact ⟨a, rfl, List.mem_cons_self .., r⟩
            | succ d =>
              obtain ⟨l, q1, q2, q3⟩ := ih d (Nat.lt_of_succ_lt_succ h)
              exact ⟨l, q1, List.mem_cons_of_mem _ q2, q3⟩
        exact key la d hd2
      have hlt : l ≠ t := tp_ne ht (hfr l hl2).1
      have hns : xss[d]'hd2 ∈ xss := List.getElem_mem hd2
      generalize xss[d]'hd2 = ns at hl3 hns
      refine ⟨p, _, _, .ref l, rfl, rfl, sq_of (e p _ hpt hps), at_of (j := d) rfl (by rw [List.getElem?_map, hl1]; rfl), fun x dx hx hdx hne => ?_⟩
      have ex : Ex H' (upd (upd H' dx (.own x)) x (.ins (He.ga K "Mesh") dx [])) := fun b o q => by
        rw [upd_ne (ne_of_none q hx), upd_ne (ne_of_none q hdx)]
        exact q
      refine ⟨x, dx, l, L ns, rfl, upd_same, ex_l ex (sq_of (e l _ hlt hl3)), by rw [L_len]; exact (hM ns hns).len, ib_L ns, fun ms hms _ H2 mm x2 => ⟨rfl, ?_⟩, fun hn => absurd (good_L (hM ns hns)) hn⟩
      obtain rfl := L_inj hms
      have x3 : Ex H' H2 := fun b o q => x2 b o (ne_of_none q hx) (ex b o q)
      have o3 : ExO t H H2 := (ExO.of e1).trans (e.trans (ExO.of x3))
      exact k x ns H' H2 hx (mm.back ex) ht' (tp_ex ht' x3) o3
theorem ell_three {a b c : List Nat} {ta tb tc : TE} (ha : EvL ta σ H (L a)) (hb : EvL tb σ H (L b)) (hc : EvL tc σ H (L c)) : EvLL (tLst (tCons ta (tCons tb (tCons tc tNil)))) σ H [a, b, c] := fun H1 e Q q =>
  ha H1 e _ fun p1 H2 n1 e1 h1 => hb H2 (e.trans e1) _ fun p2 H3 n2 e2 h2 => hc H3 ((e.trans e1).trans e2) _ fun p3 H4 n3 e3 h3 => ⟨sz_of (by show 3 ≤ 100000; decide), fun p hp => by
    have k1 := e3 _ _ (e2 _ _ h1)
    have k2 := e3 _ _ h2
    refine q p _ (fresh_back ((e1.trans e2).trans e3) hp) (((e1.trans e2).trans e3).trans (Ex.new hp)) ⟨[p1, p2, p3], upd_same, ?_, ?_⟩
    · have ne : ∀ {x : Addr} {o : HO}, H4 x = some o → x ≠ p := fun z => ne_of_none z hp
      exact .cons (by rw [upd_ne (ne k1)]; exact k1) (.cons (by rw [upd_ne (ne k2)]; exact k2) (.cons (by rw [upd_ne (ne h3)]; exact h3) .nil))
    · intro a ha
      simp only [List.mem_cons, List.not_mem_nil, or_false] at ha
      rcases ha with rfl | rfl | rfl
      · exact ⟨n1, ne_of_none k1 hp⟩
      · exact ⟨fresh_back e1 n2, ne_of_none k2 hp⟩
      · exact ⟨fresh_back (e1.trans e2) n3, ne_of_none h3 hp⟩⟩
theorem q_passed {i : Nat} (s1 : σ[1]? = some (some (.ref t))) (ht : Tp (H t)) (k : ∀ p ns H', H p = none → H' p = some (.lst (L ns)) → ns.length ≤ 2 → Tp (H' t) → ExO t H H' → tz D (σ.set i (some (.ref p))) H') :
    tSeq (tAsg (tSl (rSlL K) (tLst (tCons (tCall (sp_Lpick K) [] E0 (tCons (tVar 1) (tCons (tC (.int 2)) tNil))) (tCons (tCall (sp_Lpick K) [] E0 (tCons (tVar 1) (tCons (tC (.int 2)) tNil))) tNil))) tNoPart (tPart (tOp zAdd (tC (.int 1)) (tCall (sp_Lpick K) [] E0 (tCons (tVar 1) (tCons (tC (.int 2)) tNil)))))) (gName i)) tz D σ H :=
  pick_run (H := H) (Q := fun v1 H1 => tCall (sp_Lpick K) [] E0 (tCons (tVar 1) (tCons (tC (.int 2)) tNil)) σ H1 fun v2 H2 => [v1, v2].length ≤ sizeLine ∧ ∀ l, H2 l = none → tCall (sp_Lpick K) [] E0 (tCons (tVar 1) (tCons (tC (.int 2)) tNil)) σ (upd H2 l (.lst [v1, v2])) fun v3 H3 =>
      zAdd (.int 1) v3 H3 (fun z H4 => ∃ j, z = .int j ∧ rSlL K (.ref l) none (some j) H4 (fun u H5 => tz D (σ.set i (some u)) H5))) s1 ht (by decide) (by decide) fun a H1 ha t1 o1 =>
    pick_run (H := H1) (Q := fun v2 H2 => [vi a, v2].length ≤ sizeLine ∧ ∀ l, H2 l = none → tCall (sp_Lpick K) [] E0 (tCons (tVar 1) (tCons (tC (.int 2)) tNil)) σ (upd H2 l (.lst [vi a, v2])) fun v3 H3 =>
      zAdd (.int 1) v3 H3 (fun z H4 => ∃ j, z = .int j ∧ rSlL K (.ref l) none (some j) H4 (fun u H5 => tz D (σ.set i (some u)) H5))) s1 t1 (by decide) (by decide) fun b H2 hb t2 o2 =>
    ⟨sz_of (by show 2 ≤ 100000; decide), fun l hl => by
      have hlt : l ≠ t := tp_ne t2 hl
      refine pick_run (H := upd H2 l (.lst [vi a, vi b])) (Q := fun v3 H3 => zAdd (.int 1) v3 H3 (fun z H4 => ∃ j, z = .int j ∧ rSlL K (.ref l) none (some j) H4 (fun u H5 => tz D (σ.set i (some u)) H5))) s1 (by rw [upd_ne hlt.symm]; exact t2) (by decide) (by decide) fun c H3 hc t3 o3 => ?_
      have hl3 : H3 l = some (.lst [vi a, vi b]) := o3 l _ hlt upd_same
      refine ⟨1, (c : Int), rfl, rfl, _, rfl, l, _, rfl, sq_of hl3, fun p hp => ?_⟩
      have hpt : p ≠ t := tp_ne t3 hp
      have oo : ExO t H (upd H3 p (.lst (cutV [vi a, vi b] none (some (1 + (c : Int)))))) := (o1.trans (o2.trans ((ExO.refl.mut hl).trans o3))).trans (ExO.of (Ex.new hp))
      have e : cutV [vi a, vi b] none (some (1 + (c : Int))) = L ([a, b].take (1 + c)) := by
        have e1 : (1 + (c : Int)) = ((1 + c : Nat) : Int) := by omega
        rw [e1, cut_to (by show 1 + c ≤ 2; omega), ← L_take]
        rfl
      rw [e] at oo ⊢
      refine k p ([a, b].take (1 + c)) _ ?_ upd_same (by rw [List.length_take]; exact Nat.min_le_right _ _) (by rw [upd_ne hpt.symm]; exact t3) oo
      cases w : H p with
      | none => rfl
      | some o =>
        have hpl : p ≠ l := fun q => by
          rw [q, hl3] at hp
          cases hp
        have := o3 p o hpt (by rw [upd_ne hpl]; exact o2 p o hpt (o1 p o hpt w))
        rw [this] at hp
        cases hp⟩
end
end K15
namespace K15
open PySem PySem.Spec PyProof.Rows L2 Evl Hm
theorem lk1 {f : Str} {a : V} {fs : List (Str × V)} : ((f, a) :: fs).lookup f = some a := by rw [lookup_put, if_pos rfl]
theorem lk2 {f g : Str} {a b : V} (h : ¬ g = f) : [(f, a), (g, b)].lookup g = some b := by rw [lookup_put, if_neg h, lookup_put, if_pos rfl]
theorem neLN : ¬ (("line" : Str) = "name") := by decide +kernel
theorem neFL : ¬ (("fault" : Str) = "line") := by decide +kernel
theorem neMH : ¬ (("mesh" : Str) = "halves") := by decide +kernel
abbrev aNL (i : Int) (w : Str) : List (Str × V) := [("name", .str w), ("line", .int i)]
abbrev aLF (i : Int) (w : Str) : List (Str × V) := [("line", .int i), ("fault", .str w)]
abbrev aL (i : Int) : List (Str × V) := [("line", .int i)]
abbrev aN (w : Str) : List (Str × V) := [("name", .str w)]
abbrev es1 (i : Int) (w : Str) : Es := [("BadLine", aL i), ("BadLine", aL i), ("UnknownName", aNL i w), ("UnknownName", aNL i w)]
abbrev es2 (i : Int) (w : Str) : Es := [("WrongKind", aNL i w), ("WrongKind", aNL i w), ("FactFails", aL i)]
abbrev es3 (i : Int) (w : Str) : Es := [("FactFails", aL i), ("Broken", aLF i w), ("Broken", aLF i w)]
abbrev esL (i : Int) (w : Str) : Es := (es1 i w ++ es2 i w) ++ es3 i w
abbrev esN (w : Str) : Es := [("UnknownDeed", aN w), ("UnknownDeed", aN w), ("UnknownMark", aN w), ("UnknownMark", aN w)]
section
variable {K : PySem.W.Frag}
theorem esL_at (F : KE K) (i : Int) (w : Str) : ∀ k : Nat, k < 10 → ∃ nm fs, (esL i w)[k]? = some (nm, fs) ∧ nmE[1 + k / 2]? = some nm ∧ fs.lookup ("line" : Str) = some (.int i) ∧ NoAttr K (He.ga K nm) "line"
  | 0, _ => ⟨_, _, rfl, rfl, lk1, F.n1⟩
  | 1, _ => ⟨_, _, rfl, rfl, lk1, F.n1⟩
  | 2, _ => ⟨_, _, rfl, rfl, lk2 neLN, F.n2⟩
  | 3, _ => ⟨_, _, rfl, rfl, lk2 neLN, F.n2⟩
  | 4, _ => ⟨_, _, rfl, rfl, lk2 neLN, F.n4⟩
  | 5, _ => ⟨_, _, rfl, rfl, lk2 neLN, F.n4⟩
  | 6, _ => ⟨_, _, rfl, rfl, lk1, F.n6⟩
  | 7, _ => ⟨_, _, rfl, rfl, lk1, F.n6⟩
  | 8, _ => ⟨_, _, rfl, rfl, lk1, F.n8⟩
  | 9, _ => ⟨_, _, rfl, rfl, lk1, F.n8⟩
  | k + 10, h => absurd h (by omega)
theorem esL_nm (F : KE K) (i : Int) (w : Str) : ∀ k : Nat, k < 4 → ∃ nm fs, (esL i w)[2 + k]? = some (nm, fs) ∧ nm ∈ nmE ∧ fs.lookup ("name" : Str) = some (.str w) ∧ NoAttr K (He.ga K nm) "name"
  | 0, _ => ⟨_, _, rfl, mN 2, lk1, F.n3⟩
  | 1, _ => ⟨_, _, rfl, mN 2, lk1, F.n3⟩
  | 2, _ => ⟨_, _, rfl, mN 3, lk1, F.n5⟩
  | 3, _ => ⟨_, _, rfl, mN 3, lk1, F.n5⟩
  | k + 4, h => absurd h (by omega)
theorem esN_at (F : KE K) (w : Str) : ∀ k : Nat, k < 4 → ∃ nm fs, (esN w)[k]? = some (nm, fs) ∧ nmE[8 + k / 2]? = some nm ∧ fs.lookup ("name" : Str) = some (.str w) ∧ NoAttr K (He.ga K nm) "name"
  | 0, _ => ⟨_, _, rfl, rfl, lk1, F.n11⟩
  | 1, _ => ⟨_, _, rfl, rfl, lk1, F.n11⟩
  | 2, _ => ⟨_, _, rfl, rfl, lk1, F.n12⟩
  | 3, _ => ⟨_, _, rfl, rfl, lk1, F.n12⟩
  | k + 4, h => absurd h (by omega)
variable {σ : L2.St} {H : Hp} {te : TE} {a C : Addr} {fs : List (Str × V)} {f : Str} {v : V}
theorem ev_erF (h : Ev te σ H (.ref a)) (e : ErrAt H a C fs) (X : ExcC K C) (n : NoAttr K C f) (l : fs.lookup f = some v) : Ev (tErF K f te) σ H v := fun H1 e1 Q q => h H1 e1 _ fun H2 e2 => ⟨a, C, fs, v, rfl, e.ex (e1.trans e2), X, n, l, q H2 e2⟩
theorem ev_ixE {as : List Addr} {k : Nat} {p : Addr} {i : Nat} (s : σ[i]? = some (some (.ref p))) (hp : H p = some (.lst (as.map V.ref))) (hk : Ev te σ H (vi k)) (ha : (as.map V.ref)[k]? = some (.ref a)) : Ev (tOp (rIxL K) (tVar i) te) σ H (.ref a) :=
  ev_op (ev_var s) hk (rv_ixL (sq_of hp) (atI_nat ha))
theorem half_int (k : Nat) : ((k : Int)).fdiv 2 = ((k / 2 : Nat) : Int) := by
  rw [Int.fdiv_eq_ediv_of_nonneg _ (by decide)]
  omega
/-- c + int(k // 2) -/
theorem ev_half {i k : Nat} {c : Nat} (s : σ[i]? = some (some (vi k))) : Ev (tOp zAdd (tC (.int (c : Int))) (tCB cInt (tCons (tOp zDiv (tVar i) (tC (.int 2))) tNil))) σ H (vi (c + k / 2)) := by
  refine ev_is (ev_op ev_c (ev_cb (ea_1 (ev_op (ev_var s) ev_c (rv_I ⟨by decide, by decide⟩))) rc_int) rv_I0) ?_
  show V.int ((c : Int) + ((k : Int)).fdiv 2) = _
  rw [half_int]
  show V.int ((c : Int) + ((k / 2 : Nat) : Int)) = V.int ((c + k / 2 : Nat) : Int)
  rw [← Int.natCast_add]
/-! ### Breaks -/
def EvB (K : PySem.W.Frag) (te : TE) (σ : L2.St) (H : Hp) (m : Addr) (xs : List V) : Prop := ∀ H1, Ex H H1 → ∀ Q : VK, (∀ a p H2, H1 a = none → H1 p = none → Ex H1 H2 → ErrAt H2 a (He.ga K "Breaks") [("halves", .ref p), ("mesh", .ref m)] → H2 p = some (.lst xs) → Q (.ref a) H2) → te σ H1 Q
theorem eb_mk {n1 n2 : Nat} {ta tk : TA} {vs zs : List V} {m l : Addr} {xs : List V} (ha : EvA ta σ H vs) (hk : EvA tk σ H zs) (hn : vs.length = n1) (hm : zs.length = n2) (hv : vs ++ zs.reverse = [.ref m, .ref l]) (hl : H l = some (.lst xs)) :
    EvB K (tMkE (He.ga K "Breaks") n1 n2 (sp_Breaksinit K) gR ta tk) σ H m xs := fun H1 e Q q =>
  ha H1 e _ fun H2 e2 => hk H2 (e.trans e2) _ fun H3 e3 => ⟨hn, hm, fun a hna => by
    have l3 : H3 l = some (.lst xs) := e3 _ _ (e2 _ _ (e _ _ hl))
    refine ⟨a, m, l, xs, by show V.ref a :: (vs ++ zs.reverse) = _; rw [hv], upd_same, by rw [upd_ne (ne_of_none l3 hna)]; exact l3, fun p H' hp hp2 x er => ⟨rfl, ?_⟩⟩
    have hpa : p ≠ a := fun z => by
      rw [z, upd_same] at hp
      cases hp
    rw [upd_ne hpa] at hp
    refine q a p H' (fresh_back (e2.trans e3) hna) (fresh_back (e2.trans e3) hp) (fun b o hb => ?_) er hp2
    have h3 := e3 _ _ (e2 _ _ hb)
    have hne : b ≠ a := ne_of_none h3 hna
    exact x b o hne (by rw [upd_ne hne]; exact h3)⟩
theorem q_asgB {te1 te2 : TE} {i : Nat} {m : Addr} {xs : List V} {tz : TS} {D : Ends} (h1 : EvB K te1 σ H m xs) (h2 : EvB K te2 σ H m xs)
    (k : ∀ b1 r1 b2 r2 pB H', H r1 = none → H r2 = none → H pB = none → Ex H H' → ErrAt H' b1 (He.ga K "Breaks") [("halves", .ref r1), ("mesh", .ref m)] → H' r1 = some (.lst xs) → ErrAt H' b2 (He.ga K "Breaks") [("halves", .ref r2), ("mesh", .ref m)] → H' r2 = some (.lst xs) →
      H' pB = some (.lst [.ref b1, .ref b2]) → tz D (σ.set i (some (.ref pB))) H') : tSeq (tAsg (tLst (tCons te1 (tCons te2 tNil))) (gName i)) tz D σ H :=
  h1 H (Ex.refl H) _ fun b1 r1 H18 hb1 hr1 e18 er1 hh1 => h2 H18 e18 _ fun b2 r2 H19 hb2 hr2 e19 er2 hh2 => ⟨sz_of (by show 2 ≤ 100000; decide), fun pB hpB =>
    k b1 r1 b2 r2 pB _ hr1 (fresh_back e18 hr2) (fresh_back (e18.trans e19) hpB) ((e18.trans e19).trans (Ex.new hpB)) ((er1.ex e19).ex (Ex.new hpB)) (Ex.new hpB _ _ (e19 _ _ hh1)) (er2.ex (Ex.new hpB)) (Ex.new hpB _ _ hh2) upd_same⟩
theorem err_exl {H H' : Hp} {l : Addr} {xs : List V} (h : ErrAt H a C fs) (hl : H l = some (.lst xs)) (e : ExO l H H') : ErrAt H' a C fs := by
  have n1 : ∀ {b : Addr} {c : Option Addr}, H b = some (exo b C c) → b ≠ l := fun {b c} q z => by
    rw [z, hl] at q
    cases (show HO.lst xs = HO.ext _ from Option.some.inj q)
  have n2 : ∀ {b : Addr}, H b = some (exd b fs) → b ≠ l := fun {b} q z => by
    rw [z, hl] at q
    cases (show HO.lst xs = HO.ext _ from Option.some.inj q)
  rcases h with ⟨h, q⟩ | ⟨d, q, r⟩
  · exact .inl ⟨h, e _ _ (n1 q) q⟩
  · exact .inr ⟨d, e _ _ (n1 q) q, e _ _ (n2 r) r⟩
theorem MeshN.ex2 {H0 H H' : Hp} {x t p : Addr} {ns : List Nat} {u : HO} (h : MeshN K H0 H x ns) (ht : H0 t = some u) (hx : H0 x = none) (hp : H p = none) (e : ∀ a o, a ≠ t → a ≠ p → H a = some o → H' a = some o) : MeshAt K H' x ns := by
  obtain ⟨dx, l1, l2, l3, a, b, c, d, n1, n2, n3⟩ := h
  have nt : ∀ {y : Addr}, H0 y = none → y ≠ t := fun {y} q z => by
    rw [z, ht] at q
    cases q
  exact ⟨dx, l1, l2, l3, e _ _ (nt hx) (ne_of_none a hp) a, e _ _ (nt n1) (ne_of_none b hp) b, e _ _ (nt n2) (ne_of_none c hp) c, e _ _ (nt n3) (ne_of_none d hp) d⟩
end
def sp_law (K : PySem.W.Frag) : Sp := fun vs H Q _ => ∃ (a : Addr) (zs : List Int), vs = [.ref a] ∧ SqL K H a (zs.map V.int) ∧ ∀ H', Q (.bl true) H'
abbrev nm_law : List Str := ["_law_script", "_law_tape_here", "_law_number", "_law_word", "_law_shape", "_law_passed", "_law_spots", "_law_lines", "_law_k", "_law_names", "_law_broken", "_law_spot"]
abbrev pr_law : List Str := ["_law_script"]
def t_law (K : PySem.W.Frag) : TS :=
  (tSeq (tAsg (tCall (sp_Ltape K) [] E0 (tCons (tVar 0) (tCons (tC (.int 0)) tNil))) (gName 1))
  (tSeq (tAsg (tCall (sp_Lpick K) [] E0 (tCons (tVar 1) (tCons (tOp zPow (tC (.int 10)) (tC (.int 6))) tNil))) (gName 2))
  (tSeq (tAsg (tSl rSlS (tC (.str "abcdefgh")) tNoPart (tPart (tOp zAdd (tC (.int 1)) (tCall (sp_Lpick K) [] E0 (tCons (tVar 1) (tCons (tC (.int 8)) tNil)))))) (gName 3))
  (tSeq (tAsg (tMake (He.ga K "Mesh") (sp_Meshinit K) [] E0 (tCons (tOp (rIxL K) (tLst (tCons (tLst (tCons (tC (.int 1)) (tCons (tC (.int 0)) tNil))) (tCons (tLst (tCons (tC (.int 0)) (tCons (tC (.int 1)) tNil))) (tCons (tLst (tCons (tC (.int 2)) (tCons (tC (.int 3)) (tCons (tC (.int 1)) (tCons (tC (.int 0)) tNil))))) tNil)))) (tCall (sp_Lpick K) [] E0 (tCons (tVar 1) (tCons (tC (.int 3)) tNil)))) tNil)) (gName 4))
  (tSeq (tAsg (tSl (rSlL K) (tLst (tCons (tCall (sp_Lpick K) [] E0 (tCons (tVar 1) (tCons (tC (.int 2)) tNil))) (tCons (tCall (sp_Lpick K) [] E0 (tCons (tVar 1) (tCons (tC (.int 2)) tNil))) tNil))) tNoPart (tPart (tOp zAdd (tC (.int 1)) (tCall (sp_Lpick K) [] E0 (tCons (tVar 1) (tCons (tC (.int 2)) tNil)))))) (gName 5))
  (tSeq (tAsg (tLc (iList K (tVar 5)) (gName 11) tYes (tVar 11) [11]) (gName 6))
  (tSeq (tIfS (tOr (tNot (tB (tCall (sp_Lright K) [] E0 (tCons (tMkE (He.ga K "NotAMesh") 0 0 (sp_NotAMeshinit K) gR tNil tNil) (tCons (tC (.int 0)) tNil))))) (tOr (tNot (tB (tCall (sp_Lright K) [] E0 (tCons (tMkE (He.ga K "NeverGiven") 0 0 (sp_NeverGiveninit K) gR tNil tNil) (tCons (tC (.int 6)) tNil))))) (tNot (tB (tCall (sp_Lright K) [] E0 (tCons (tMkE (He.ga K "NothingToUndo") 0 0 (sp_NothingToUndoinit K) gR tNil tNil) (tCons (tC (.int 10)) tNil))))))) (tRet (tC (.bl false))) tNext)
  (tSeq (tAsg (tLst (tCons (tMkE (He.ga K "BadLine") 1 0 (sp_BadLineinit K) gR (tCons (tVar 2) tNil) tNil) (tCons (tMkE (He.ga K "BadLine") 0 1 (sp_BadLineinit K) gR tNil (tCons (tVar 2) tNil)) (tCons (tMkE (He.ga K "UnknownName") 2 0 (sp_UnknownNameinit K) gR (tCons (tVar 2) (tCons (tVar 3) tNil)) tNil) (tCons (tMkE (He.ga K "UnknownName") 0 2 (sp_UnknownNameinit K) gR tNil (tCons (tVar 3) (tCons (tVar 2) tNil))) tNil))))) (gName 7))
  (tSeq (tAsg (tOp rCat (tVar 7) (tLst (tCons (tMkE (He.ga K "WrongKind") 2 0 (sp_WrongKindinit K) gR (tCons (tVar 2) (tCons (tVar 3) tNil)) tNil) (tCons (tMkE (He.ga K "WrongKind") 0 2 (sp_WrongKindinit K) gR tNil (tCons (tVar 3) (tCons (tVar 2) tNil))) (tCons (tMkE (He.ga K "FactFails") 1 0 (sp_FactFailsinit K) gR (tCons (tVar 2) tNil) tNil) tNil))))) (gName 7))
  (tSeq (tAsg (tOp rCat (tVar 7) (tLst (tCons (tMkE (He.ga K "FactFails") 0 1 (sp_FactFailsinit K) gR tNil (tCons (tVar 2) tNil)) (tCons (tMkE (He.ga K "Broken") 2 0 (sp_Brokeninit K) gR (tCons (tVar 3) (tCons (tVar 2) tNil)) tNil) (tCons (tMkE (He.ga K "Broken") 0 2 (sp_Brokeninit K) gR tNil (tCons (tVar 2) (tCons (tVar 3) tNil))) tNil))))) (gName 7))
  (tSeq (tFor (iRng1 (tCons (tC (.int 10)) tNil)) (gName 8) (tIfS (tOr (tNot (tB (tCall (sp_Lright K) [] E0 (tCons (tOp (rIxL K) (tVar 7) (tVar 8)) (tCons (tOp zAdd (tC (.int 1)) (tCB cInt (tCons (tOp zDiv (tVar 8) (tC (.int 2))) tNil))) tNil))))) (tTest (tOp rNe (tErF K "line" (tOp (rIxL K) (tVar 7) (tVar 8))) (tVar 2)))) (tRet (tC (.bl false))) tNext))
  (tSeq (tFor (iRng2 (tCons (tC (.int 2)) (tCons (tC (.int 6)) tNil))) (gName 8) (tIfS (tTest (tOp rNe (tErF K "name" (tOp (rIxL K) (tVar 7) (tVar 8))) (tVar 3))) (tRet (tC (.bl false))) tNext))
  (tSeq (tAsg (tLst (tCons (tMkE (He.ga K "UnknownDeed") 1 0 (sp_UnknownDeedinit K) gR (tCons (tVar 3) tNil) tNil) (tCons (tMkE (He.ga K "UnknownDeed") 0 1 (sp_UnknownDeedinit K) gR tNil (tCons (tVar 3) tNil)) (tCons (tMkE (He.ga K "UnknownMark") 1 0 (sp_UnknownMarkinit K) gR (tCons (tVar 3) tNil) tNil) (tCons (tMkE (He.ga K "UnknownMark") 0 1 (sp_UnknownMarkinit K) gR tNil (tCons (tVar 3) tNil)) tNil))))) (gName 9))
  (tSeq (tFor (iRng1 (tCons (tC (.int 4)) tNil)) (gName 8) (tIfS (tOr (tNot (tB (tCall (sp_Lright K) [] E0 (tCons (tOp (rIxL K) (tVar 9) (tVar 8)) (tCons (tOp zAdd (tC (.int 8)) (tCB cInt (tCons (tOp zDiv (tVar 8) (tC (.int 2))) tNil))) tNil))))) (tTest (tOp rNe (tErF K "name" (tOp (rIxL K) (tVar 9) (tVar 8))) (tVar 3)))) (tRet (tC (.bl false))) tNext))
  (tSeq (tAsg (tLst (tCons (tMkE (He.ga K "Breaks") 2 0 (sp_Breaksinit K) gR (tCons (tVar 4) (tCons (tVar 5) tNil)) tNil) (tCons (tMkE (He.ga K "Breaks") 0 2 (sp_Breaksinit K) gR tNil (tCons (tVar 5) (tCons (tVar 4) tNil))) tNil))) (gName 10))
  (tSeq (tDrop (tBM K "list" rAppend (tVar 5) (tCons (tC (.int 9)) tNil)))
  (tSeq (tFor (iRng1 (tCons (tC (.int 2)) tNil)) (gName 8) (tIfS (tOr (tNot (tB (tCall (sp_Lright K) [] E0 (tCons (tOp (rIxL K) (tVar 10) (tVar 8)) (tCons (tC (.int 7)) tNil))))) (tOr (tNot (tTest (tOp (rOwnEq K (He.ga K "Mesh") (sp_Mesheq K) E0) (tErF K "mesh" (tOp (rIxL K) (tVar 10) (tVar 8))) (tVar 4)))) (tTest (tOp (rNeD K) (tErF K "halves" (tOp (rIxL K) (tVar 10) (tVar 8))) (tVar 6))))) (tRet (tC (.bl false))) tNext))
  (tRet (tAndV (tOp rEq (tErF K "fault" (tOp (rIxL K) (tVar 7) (tC (.int 8)))) (tVar 3)) (tOp rEq (tErF K "fault" (tOp (rIxL K) (tVar 7) (tC (.int 9)))) (tVar 3)))))))))))))))))))))
abbrev Wt_law (K : PySem.W.Frag) (vs : List V) (H : Hp) (Q : VK) : Prop := t_law K { nx := fun _ H' => Q .non H', rt := Q } (start nm_law vs) H
theorem ln_law {K : PySem.W.Frag} (vs : List V) (H : Hp) (Q : VK) (E : XK) (h : sp_law K vs H Q E) : vs.length = pr_law.length := by
  obtain ⟨_, _, rfl, _⟩ := h
  rfl
theorem mp_a : MP [1, 0] := ⟨⟨by decide⟩, by decide, by decide⟩
theorem mp_b : MP [0, 1] := ⟨⟨by decide⟩, by decide, by decide⟩
theorem mp_c : MP [2, 3, 1, 0] := ⟨⟨by decide⟩, by decide, by decide⟩
theorem okI_lt {d : Nat} (h : (d : Int) < 1000000) : okI (d : Int) := by
  show (d : Int).natAbs.log2 < 1900
  have h1 : (d : Int).natAbs = d := Int.natAbs_natCast d
  rw [h1]
  have h2 : d < 2 ^ 20 := by have : (2 : Nat) ^ 20 = 1048576 := by decide
                             omega
  by_cases h0 : d = 0
  · subst h0; decide
  · have := (Nat.log2_lt h0).mpr h2
    omega
theorem rd_law {K : PySem.W.Frag} (F : KE K) (vs : List V) (H : Hp) (Q : VK) (E : XK) (h : sp_law K vs H Q E) : Wt_law K vs H Q := by
  obtain ⟨a, zs, rfl, hS, k⟩ := h
  show t_law K _ [some (.ref a), none, none, none, none, none, none, none, none, none, none, none] H
  refine q_asgC (ea_2 (ev_var rfl) ev_c) (fun H1 e1 => ⟨a, zs, 0, rfl, ex_l e1 hS, by decide, fun t H2 ht tp e2 => ?_⟩)
  refine q_asgC (ea_2 (ev_var rfl) (ev_op ev_c ev_c (rv_I ⟨by decide, by decide, by decide⟩))) (fun H3 e3 => ⟨t, 1000000, rfl, tp_ex tp e3, by decide, by decide, fun d H4 d0 d1 t4 o4 => ?_⟩)
  obtain ⟨num, rfl⟩ : ∃ n : Nat, d = (n : Int) := ⟨d.toNat, by omega⟩
  have oki := okI_lt d1
  refine q_word (t := t) rfl t4 (by decide) (by decide) (by decide) (fun w H5 hw t5 o5 => ?_)
  have okw : okS w := by show w.length ≤ 2000; omega
  refine q_mkIx (t := t) (xss := [[1, 0], [0, 1], [2, 3, 1, 0]]) (ell_three (el_lst (ea_2 ev_c ev_c) (by show 2 ≤ 100000; decide)) (el_lst (ea_2 ev_c ev_c) (by show 2 ≤ 100000; decide)) (el_lst (ea_cons ev_c (ea_cons ev_c (ea_2 ev_c ev_c))) (by show 4 ≤ 100000; decide))) rfl t5 (by decide) (by decide) rfl (fun ns hn => by
    simp only [List.mem_cons, List.not_mem_nil, or_false] at hn
    rcases hn with rfl | rfl | rfl
    · exact mp_a
    · exact mp_b
    · exact mp_c) (fun x ns H6 H7 hx6 m7 t6 t7 o7 => ?_)
  obtain ⟨_, _, ht6, _⟩ := t6
  refine q_passed (t := t) rfl t7 (fun l ps H8 hl8 h8 hps t8 o8 => ?_)
  -- from now on: the mesh, the passed list, the spots
  refine q_asgL (el_copy (ev_var rfl) (sq_of h8) (by omega) (fun _ => rfl) (fun _ => rfl)) (fun sp H9 hsp e9 h9 => ?_)
  have x9 : ∀ b o, b ≠ t → b ≠ l → H7 b = some o → H9 b = some o := fun b o n1 n2 q => e9 _ _ (o8 b o n1 q)
  have m9 : MeshAt K H9 x ns := MeshN.ex2 m7 ht6 hx6 hl8 x9
  have l9 := e9 _ _ h8
  refine q_when (b := !true || (!true || !true)) (et_or (et_not (et_B (ev_rightN (i := 0) rfl ee_N))) (fun _ => et_or (et_not (et_B (ev_rightN (i := 6) rfl ee_0))) (fun _ => et_not (et_B (ev_rightN (i := 10) rfl ee_0))))) (fun hb => nomatch hb) (fun _ H10 e10 => ?_)
  refine q_asgE (es := es1 num w) (eel_lst (es_cons (ee_I1 (ea_1 (ev_var rfl)) oki) (es_cons (ee_I2 (ea_1 (ev_var rfl)) oki) (es_cons (ee_IS1 (ea_2 (ev_var rfl) (ev_var rfl)) oki okw) (es_cons (ee_IS2 (ea_2 (ev_var rfl) (ev_var rfl)) oki okw) es_nil)))) (by show 4 ≤ 100; decide)) (fun p1 as1 H11 hp1 e11 h11 le1 => ?_)
  refine q_asgE (es := es1 num w ++ es2 num w) (eel_cat rfl h11 le1 (eel_lst (es_cons (ee_IS1 (ea_2 (ev_var rfl) (ev_var rfl)) oki okw) (es_cons (ee_IS2 (ea_2 (ev_var rfl) (ev_var rfl)) oki okw) (es_cons (ee_I1 (ea_1 (ev_var rfl)) oki) es_nil))) (by show 3 ≤ 100; decide)) (by show 4 ≤ 100; decide) (by show 3 ≤ 100; decide)) (fun p2 as2 H12 hp2 e12 h12 le2 => ?_)
  refine q_asgE (es := esL num w) (eel_cat rfl h12 le2 (eel_lst (es_cons (ee_I2 (ea_1 (ev_var rfl)) oki) (es_cons (ee_B1 (ea_2 (ev_var rfl) (ev_var rfl)) oki okw) (es_cons (ee_B2 (ea_2 (ev_var rfl) (ev_var rfl)) oki okw) es_nil))) (by show 3 ≤ 100; decide)) (by show 7 ≤ 100; decide) (by show 3 ≤ 100; decide)) (fun pL asL H13 hpL e13 hL leL => ?_)
  have x13 : Ex H9 H13 := ((e10.trans e11).trans e12).trans e13
  refine q_forR1 (ea_1 ev_c) (by decide) (fun i σ' H' => ∃ v8 : Option V, σ' = [some (.ref a), some (.ref t), some (.int (num : Int)), some (.str w), some (.ref x), some (.ref l), some (.ref sp), some (.ref pL), v8, none, none, none] ∧ Ex H13 H') (fun H' e => ⟨_, rfl, e⟩) ?_ ?_
  · rintro i σ' H' hi ⟨v8, rfl, ex⟩
    obtain ⟨nm, fs, q1, q2, q3, q4⟩ := esL_at F (num : Int) w i (by omega)
    obtain ⟨b, hb1, hb2⟩ := (leL.ex ex).at q1
    have hm : nm ∈ nmE := List.mem_of_getElem? q2
    refine s_when (b := !true || !decide (V.int (num : Int) = V.int (num : Int))) (et_or (et_not (et_B (ev_call (ea_2 (ev_ixE rfl (ex _ _ hL) (ev_var rfl) hb1) (ev_half (c := 1) rfl)) (spv_Lright q2 hb2)))) (fun _ => et_test (ev_op (ev_erF (ev_ixE rfl (ex _ _ hL) (ev_var rfl) hb1) hb2 (F.ex _ hm) q4 q3) (ev_var rfl) (rv_ne rfl)))) (fun hb => ?_) (fun _ H'' e' => ⟨_, rfl, ex.trans e'⟩)
    rw [decide_eq_true rfl] at hb
    cases hb
  rintro σ' H14 ⟨v8, rfl, x14⟩
  refine q_forR2 (ea_2 ev_c ev_c) (by decide) (fun i σ' H' => ∃ v8 : Option V, σ' = [some (.ref a), some (.ref t), some (.int (num : Int)), some (.str w), some (.ref x), some (.ref l), some (.ref sp), some (.ref pL), v8, none, none, none] ∧ Ex H13 H') (fun H' e => ⟨_, rfl, x14.trans e⟩) ?_ ?_
  · rintro i σ' H' hi ⟨v8, rfl, ex⟩
    obtain ⟨nm, fs, q1, hm, q3, q4⟩ := esL_nm F (num : Int) w i (by omega)
    obtain ⟨b, hb1, hb2⟩ := (leL.ex ex).at q1
    have ei : (2 : Int) + (i : Int) = ((2 + i : Nat) : Int) := by omega
    refine s_when (b := !decide (V.str w = V.str w)) (et_test (ev_op (ev_erF (ev_ixE (k := 2 + i) rfl (ex _ _ hL) (ev_var (by show some (some (V.int ((2 : Int) + (i : Int)))) = some (some (V.int ((2 + i : Nat) : Int))); rw [ei])) hb1) hb2 (F.ex _ hm) q4 q3) (ev_var rfl) (rv_ne rfl))) (fun hb => ?_) (fun _ H'' e' => ⟨_, rfl, ex.trans e'⟩)
    rw [decide_eq_true rfl] at hb
    cases hb
  rintro σ' H15 ⟨v8, rfl, x15⟩
  refine q_asgE (es := esN w) (eel_lst (es_cons (ee_S1 (ea_1 (ev_var rfl)) okw) (es_cons (ee_S2 (ea_1 (ev_var rfl)) okw) (es_cons (ee_S1 (ea_1 (ev_var rfl)) okw) (es_cons (ee_S2 (ea_1 (ev_var rfl)) okw) es_nil)))) (by show 4 ≤ 100; decide)) (fun pN asN H16 hpN e16 hN leN => ?_)
  refine q_forR1 (ea_1 ev_c) (by decide) (fun i σ' H' => ∃ v8 : Option V, σ' = [some (.ref a), some (.ref t), some (.int (num : Int)), some (.str w), some (.ref x), some (.ref l), some (.ref sp), some (.ref pL), v8, some (.ref pN), none, none] ∧ Ex H16 H') (fun H' e => ⟨_, rfl, e⟩) ?_ ?_
  · rintro i σ' H' hi ⟨v8, rfl, ex⟩
    obtain ⟨nm, fs, q1, q2, q3, q4⟩ := esN_at F w i (by omega)
    obtain ⟨b, hb1, hb2⟩ := (leN.ex ex).at q1
    have hm : nm ∈ nmE := List.mem_of_getElem? q2
    refine s_when (b := !true || !decide (V.str w = V.str w)) (et_or (et_not (et_B (ev_call (ea_2 (ev_ixE rfl (ex _ _ hN) (ev_var rfl) hb1) (ev_half (c := 8) rfl)) (spv_Lright q2 hb2)))) (fun _ => et_test (ev_op (ev_erF (ev_ixE rfl (ex _ _ hN) (ev_var rfl) hb1) hb2 (F.ex _ hm) q4 q3) (ev_var rfl) (rv_ne rfl)))) (fun hb => ?_) (fun _ H'' e' => ⟨_, rfl, ex.trans e'⟩)
    rw [decide_eq_true rfl] at hb
    cases hb
  rintro σ' H17 ⟨v8', rfl, x17⟩
  have y17 : Ex H9 H17 := x13.trans (x15.trans (e16.trans x17))
  have l17 := y17 _ _ l9
  have hE : Ex H13 H17 := x15.trans (e16.trans x17)
  -- the two errors Breaks
  refine q_asgB (m := x) (xs := L ps) (eb_mk (ea_2 (ev_var rfl) (ev_var rfl)) ea_nil rfl rfl rfl l17) (eb_mk ea_nil (ea_2 (ev_var rfl) (ev_var rfl)) rfl rfl rfl l17) (fun b1 r1 b2 r2 pB G hr1 hr2 hpB x19 er1' hh1' er2' hh2' hB => ?_)
  have lG := x19 _ _ l17
  refine q_app lG (ev_var rfl) ev_c (by rw [L_len]; omega) (fun H20 e20 => ?_)
  have l20 := e20 _ _ lG
  have oG : ExO l H20 (upd H20 l (.lst (L ps ++ [.int 9]))) := ExO.refl.upd
  have n_r1 : r1 ≠ l := fun q => by rw [q, l17] at hr1; cases hr1
  have n_r2 : r2 ≠ l := fun q => by rw [q, l17] at hr2; cases hr2
  have n_B : pB ≠ l := fun q => by rw [q, l17] at hpB; cases hpB
  have n_sp : sp ≠ l := fun q => by rw [q, h8] at hsp; cases hsp
  have n_L : pL ≠ l := fun q => by
    have z : H12 l = some (.lst (L ps)) := (e10.trans (e11.trans e12)) _ _ l9
    rw [q, z] at hpL
    cases hpL
  have f1 := err_exl (er1'.ex e20) l20 oG
  have f2 := err_exl (er2'.ex e20) l20 oG
  have f3 := oG r1 _ n_r1 (e20 _ _ hh1')
  have f4 := oG r2 _ n_r2 (e20 _ _ hh2')
  have fB := oG pB _ n_B (e20 _ _ hB)
  have fS := oG sp _ n_sp (e20 _ _ (x19 _ _ (y17 _ _ h9)))
  have fL := oG pL _ n_L (e20 _ _ (x19 _ _ (hE _ _ hL)))
  have fM : MeshAt K (upd H20 l (.lst (L ps ++ [.int 9]))) x ns := MeshN.ex2 m7 ht6 hx6 hl8 (fun b o n1 n2 q => oG b o n2 (e20 _ _ (x19 _ _ (y17 _ _ (x9 b o n1 n2 q)))))
  have leF : LE K (upd H20 l (.lst (L ps ++ [.int 9]))) asL (esL num w) := paired_imp leL fun b y _ q => err_exl (((q.ex hE).ex x19).ex e20) l20 oG
  generalize upd H20 l (.lst (L ps ++ [.int 9])) = G2 at f1 f2 f3 f4 fB fS fL fM leF ⊢
  refine q_forR1 (ea_1 ev_c) (by decide) (fun i σ' H' => ∃ v8 : Option V, σ' = [some (.ref a), some (.ref t), some (.int (num : Int)), some (.str w), some (.ref x), some (.ref l), some (.ref sp), some (.ref pL), v8, some (.ref pN), some (.ref pB), none] ∧ Ex G2 H') (fun H' e => ⟨_, rfl, e⟩) ?_ ?_
  · rintro i σ' H' hi ⟨v8, rfl, ex⟩
    obtain ⟨b, r, hb1, hb2, hr⟩ : ∃ b r, ([b1, b2].map V.ref)[i]? = some (.ref b) ∧ ErrAt H' b (He.ga K "Breaks") [("halves", .ref r), ("mesh", .ref x)] ∧ H' r = some (.lst (L ps)) := by
      match i, hi with
      | 0, _ => exact ⟨b1, r1, rfl, f1.ex ex, ex _ _ f3⟩
      | 1, _ => exact ⟨b2, r2, rfl, f2.ex ex, ex _ _ f4⟩
      | i + 2, h => exact absurd h (by omega)
    have fB' : H' pB = some (.lst ([b1, b2].map V.ref)) := ex _ _ fB
    refine s_when (b := !true || (!decide (ns = ns) || !decide (ps = ps))) (et_or (et_not (et_B (ev_call (ea_2 (ev_ixE rfl fB' (ev_var rfl) hb1) ev_c) (spv_Lright (i := 7) rfl hb2)))) (fun _ => et_or (et_not (et_test (ev_op (ev_erF (ev_ixE rfl fB' (ev_var rfl) hb1) hb2 (F.ex _ (mN 7)) F.n9 (lk2 neMH)) (ev_var rfl) (rv_ownEq F.kq (fM.ex ex) (.mesh (fM.ex ex)))))) (fun _ => et_test (ev_op (ev_erF (ev_ixE rfl fB' (ev_var rfl) hb1) hb2 (F.ex _ (mN 7)) F.n10 lk1) (ev_var rfl) (rv_neN (sq_of hr) (sq_of (ex _ _ fS))))))) (fun hb => ?_) (fun _ H'' e' => ⟨_, rfl, ex.trans e'⟩)
    rw [decide_eq_true rfl, decide_eq_true rfl] at hb
    cases hb
  rintro σ' H21 ⟨v8'', rfl, x21⟩
  obtain ⟨c1, hc1, hc2⟩ := (leF.ex x21).at (k := 8) rfl
  obtain ⟨c2, hc3, hc4⟩ := (leF.ex x21).at (k := 9) rfl
  refine s_ret (v := .bl (decide (V.str w = V.str w) && decide (V.str w = V.str w))) (ev_andV (ev_op (ev_erF (ev_ixE (k := 8) rfl (x21 _ _ fL) ev_c hc1) hc2 (F.ex _ (mN 5)) F.n7 (lk2 neFL)) (ev_var rfl) (rv_eq rfl)) (fun _ => ev_op (ev_erF (ev_ixE (k := 9) rfl (x21 _ _ fL) ev_c hc3) hc4 (F.ex _ (mN 5)) F.n7 (lk2 neFL)) (ev_var rfl) (rv_eq rfl))) (fun H22 _ => ?_)
  rw [decide_eq_true rfl]
  exact k H22
end K15
namespace K15
open PySem PySem.Spec PyProof.Rows L2 Evl Hm
def fileS : Str := PySem.Challenge.pw_halfmeshes_k15_error_classes.main.file
def topS (i : Nat) : Stmt := PySem.Challenge.pw_halfmeshes_k15_error_classes.main.body.getD i (.Pass ⟨0, 0, 0, 0⟩)
abbrev s_NotAMeshinit : Stmt := inClass (topS 3) 0
abbrev s_BadLineinit : Stmt := inClass (topS 4) 0
abbrev s_UnknownNameinit : Stmt := inClass (topS 5) 0
abbrev s_WrongKindinit : Stmt := inClass (topS 6) 0
abbrev s_FactFailsinit : Stmt := inClass (topS 7) 0
abbrev s_Brokeninit : Stmt := inClass (topS 8) 0
abbrev s_NeverGiveninit : Stmt := inClass (topS 9) 0
abbrev s_Breaksinit : Stmt := inClass (topS 10) 0
abbrev s_UnknownDeedinit : Stmt := inClass (topS 11) 0
abbrev s_UnknownMarkinit : Stmt := inClass (topS 12) 0
abbrev s_NothingToUndoinit : Stmt := inClass (topS 13) 0
abbrev s_Meshinit : Stmt := inClass (topS 15) 0
theorem sc_Meshinit : FnScope nm_Meshinit pr_Meshinit (defScope s_Meshinit) := ⟨rfl, rfl, rfl, by decide +kernel, rfl, by decide +kernel, by decide +kernel⟩
abbrev s_Mesheq : Stmt := inClass (topS 15) 1
theorem sc_Mesheq : FnScope nm_Mesheq pr_Mesheq (defScope s_Mesheq) := ⟨rfl, rfl, rfl, by decide +kernel, rfl, by decide +kernel, by decide +kernel⟩
abbrev s_isinteger : Stmt := topS 16
theorem sc_isinteger : FnScope nm_isinteger pr_isinteger (defScope s_isinteger) := ⟨rfl, rfl, rfl, by decide +kernel, rfl, by decide +kernel, by decide +kernel⟩
abbrev s_arehalves : Stmt := topS 17
theorem sc_arehalves : FnScope nm_arehalves pr_arehalves (defScope s_arehalves) := ⟨rfl, rfl, rfl, by decide +kernel, rfl, by decide +kernel, by decide +kernel⟩
abbrev s_areallhalves : Stmt := topS 18
theorem sc_areallhalves : FnScope nm_areallhalves pr_areallhalves (defScope s_areallhalves) := ⟨rfl, rfl, rfl, by decide +kernel, rfl, by decide +kernel, by decide +kernel⟩
abbrev s_inverse : Stmt := topS 19
theorem sc_inverse : FnScope nm_inverse pr_inverse (defScope s_inverse) := ⟨rfl, rfl, rfl, by decide +kernel, rfl, by decide +kernel, by decide +kernel⟩
abbrev s_Ltape : Stmt := topS 22
theorem sc_Ltape : FnScope nm_Ltape pr_Ltape (defScope s_Ltape) := ⟨rfl, rfl, rfl, by decide +kernel, rfl, by decide +kernel, by decide +kernel⟩
abbrev s_Lpick : Stmt := topS 23
theorem sc_Lpick : FnScope nm_Lpick pr_Lpick (defScope s_Lpick) := ⟨rfl, rfl, rfl, by decide +kernel, rfl, by decide +kernel, by decide +kernel⟩
abbrev s_Lkinds : Stmt := topS 24
theorem sc_Lkinds : FnScope nm_Lkinds pr_Lkinds (defScope s_Lkinds) := ⟨rfl, rfl, rfl, by decide +kernel, rfl, by decide +kernel, by decide +kernel⟩
abbrev s_Lright : Stmt := topS 25
theorem sc_Lright : FnScope nm_Lright pr_Lright (defScope s_Lright) := ⟨rfl, rfl, rfl, by decide +kernel, rfl, by decide +kernel, by decide +kernel⟩
abbrev s_law : Stmt := topS 26
theorem sc_law : FnScope nm_law pr_law (defScope s_law) := ⟨rfl, rfl, rfl, by decide +kernel, rfl, by decide +kernel, by decide +kernel⟩
def cl_NotAMesh : CloD := ⟨"NotAMesh", "NotAMesh.__init__", defArgs s_NotAMeshinit, defBody s_NotAMeshinit, defScope s_NotAMeshinit⟩
def cl_BadLine : CloD := ⟨"BadLine", "BadLine.__init__", defArgs s_BadLineinit, defBody s_BadLineinit, defScope s_BadLineinit⟩
def cl_UnknownName : CloD := ⟨"UnknownName", "UnknownName.__init__", defArgs s_UnknownNameinit, defBody s_UnknownNameinit, defScope s_UnknownNameinit⟩
def cl_WrongKind : CloD := ⟨"WrongKind", "WrongKind.__init__", defArgs s_WrongKindinit, defBody s_WrongKindinit, defScope s_WrongKindinit⟩
def cl_FactFails : CloD := ⟨"FactFails", "FactFails.__init__", defArgs s_FactFailsinit, defBody s_FactFailsinit, defScope s_FactFailsinit⟩
def cl_Broken : CloD := ⟨"Broken", "Broken.__init__", defArgs s_Brokeninit, defBody s_Brokeninit, defScope s_Brokeninit⟩
def cl_NeverGiven : CloD := ⟨"NeverGiven", "NeverGiven.__init__", defArgs s_NeverGiveninit, defBody s_NeverGiveninit, defScope s_NeverGiveninit⟩
def cl_Breaks : CloD := ⟨"Breaks", "Breaks.__init__", defArgs s_Breaksinit, defBody s_Breaksinit, defScope s_Breaksinit⟩
def cl_UnknownDeed : CloD := ⟨"UnknownDeed", "UnknownDeed.__init__", defArgs s_UnknownDeedinit, defBody s_UnknownDeedinit, defScope s_UnknownDeedinit⟩
def cl_UnknownMark : CloD := ⟨"UnknownMark", "UnknownMark.__init__", defArgs s_UnknownMarkinit, defBody s_UnknownMarkinit, defScope s_UnknownMarkinit⟩
def cl_NothingToUndo : CloD := ⟨"NothingToUndo", "NothingToUndo.__init__", defArgs s_NothingToUndoinit, defBody s_NothingToUndoinit, defScope s_NothingToUndoinit⟩
structure PF (P : Program) : Prop where
  file : P.main.file = fileS
  top : (P.main.scope.names.lookup ("super" : Str)).isSome = false
structure Tx (P : Program) (K : PySem.W.Frag) (mg : Str → Option Value) where
  n_len : mg "len" = none
  n_abs : mg "abs" = none
  n_int : mg "int" = none
  n_list : mg "list" = none
  n_all : mg "all" = none
  n_isinstance : mg "isinstance" = none
  n_range : mg "range" = none
  n_bool : mg "bool" = none
  n_enumerate : mg "enumerate" = none
  n_super : mg "super" = none
  n_set : mg "set" = none
  n_ValueError : mg "ValueError" = none
  m_MeshError : mg "MeshError" = some (.ref (He.ga K "MeshError"))
  m_NotAMesh : mg "NotAMesh" = some (.ref (He.ga K "NotAMesh"))
  m_BadLine : mg "BadLine" = some (.ref (He.ga K "BadLine"))
  m_UnknownName : mg "UnknownName" = some (.ref (He.ga K "UnknownName"))
  m_WrongKind : mg "WrongKind" = some (.ref (He.ga K "WrongKind"))
  m_FactFails : mg "FactFails" = some (.ref (He.ga K "FactFails"))
  m_Broken : mg "Broken" = some (.ref (He.ga K "Broken"))
  m_NeverGiven : mg "NeverGiven" = some (.ref (He.ga K "NeverGiven"))
  m_Breaks : mg "Breaks" = some (.ref (He.ga K "Breaks"))
  m_UnknownDeed : mg "UnknownDeed" = some (.ref (He.ga K "UnknownDeed"))
  m_UnknownMark : mg "UnknownMark" = some (.ref (He.ga K "UnknownMark"))
  m_NothingToUndo : mg "NothingToUndo" = some (.ref (He.ga K "NothingToUndo"))
  m_Mesh : mg "Mesh" = some (.ref (He.ga K "Mesh"))
  cl_Mesh : Cls K (He.ga K "Mesh")
  na_nexts : NoAttr K (He.ga K "Mesh") "_nexts"
  na_prevs : NoAttr K (He.ga K "Mesh") "_prevs"
  na_turns : NoAttr K (He.ga K "Mesh") "_turns"
  mk_Mesh : Mk K (He.ga K "Mesh") (He.ma K (He.ga K "Mesh") "__init__")
  fd_NotAMeshinit : FuncData
  u_NotAMesh : SupX P K cl_NotAMesh fd_NotAMeshinit
  b_NotAMeshinit : Binds K fd_NotAMeshinit pr_NotAMeshinit []
  kp_NotAMesh : KBn K fd_NotAMeshinit pr_NotAMeshinit 1 [] gR gR
  fd_BadLineinit : FuncData
  u_BadLine : SupX P K cl_BadLine fd_BadLineinit
  b_BadLineinit : Binds K fd_BadLineinit pr_BadLineinit []
  kp_BadLine : KBn K fd_BadLineinit pr_BadLineinit 2 [] gR gR
  kk_BadLine : KBn K fd_BadLineinit pr_BadLineinit 1 ["line"] gR gR
  fd_UnknownNameinit : FuncData
  u_UnknownName : SupX P K cl_UnknownName fd_UnknownNameinit
  b_UnknownNameinit : Binds K fd_UnknownNameinit pr_UnknownNameinit []
  kp_UnknownName : KBn K fd_UnknownNameinit pr_UnknownNameinit 3 [] gR gR
  kk_UnknownName : KBn K fd_UnknownNameinit pr_UnknownNameinit 1 ["name", "line"] gR gR
  fd_WrongKindinit : FuncData
  u_WrongKind : SupX P K cl_WrongKind fd_WrongKindinit
  b_WrongKindinit : Binds K fd_WrongKindinit pr_WrongKindinit []
  kp_WrongKind : KBn K fd_WrongKindinit pr_WrongKindinit 3 [] gR gR
  kk_WrongKind : KBn K fd_WrongKindinit pr_WrongKindinit 1 ["name", "line"] gR gR
  fd_FactFailsinit : FuncData
  u_FactFails : SupX P K cl_FactFails fd_FactFailsinit
  b_FactFailsinit : Binds K fd_FactFailsinit pr_FactFailsinit []
  kp_FactFails : KBn K fd_FactFailsinit pr_FactFailsinit 2 [] gR gR
  kk_FactFails : KBn K fd_FactFailsinit pr_FactFailsinit 1 ["line"] gR gR
  fd_Brokeninit : FuncData
  u_Broken : SupX P K cl_Broken fd_Brokeninit
  b_Brokeninit : Binds K fd_Brokeninit pr_Brokeninit []
  kp_Broken : KBn K fd_Brokeninit pr_Brokeninit 3 [] gR gR
  kk_Broken : KBn K fd_Brokeninit pr_Brokeninit 1 ["line", "fault"] gR gR
  fd_NeverGiveninit : FuncData
  u_NeverGiven : SupX P K cl_NeverGiven fd_NeverGiveninit
  b_NeverGiveninit : Binds K fd_NeverGiveninit pr_NeverGiveninit []
  kp_NeverGiven : KBn K fd_NeverGiveninit pr_NeverGiveninit 1 [] gR gR
  fd_Breaksinit : FuncData
  u_Breaks : SupX P K cl_Breaks fd_Breaksinit
  b_Breaksinit : Binds K fd_Breaksinit pr_Breaksinit []
  kp_Breaks : KBn K fd_Breaksinit pr_Breaksinit 3 [] gR gR
  kk_Breaks : KBn K fd_Breaksinit pr_Breaksinit 1 ["halves", "mesh"] gR gR
  fd_UnknownDeedinit : FuncData
  u_UnknownDeed : SupX P K cl_UnknownDeed fd_UnknownDeedinit
  b_UnknownDeedinit : Binds K fd_UnknownDeedinit pr_UnknownDeedinit []
  kp_UnknownDeed : KBn K fd_UnknownDeedinit pr_UnknownDeedinit 2 [] gR gR
  kk_UnknownDeed : KBn K fd_UnknownDeedinit pr_UnknownDeedinit 1 ["name"] gR gR
  fd_UnknownMarkinit : FuncData
  u_UnknownMark : SupX P K cl_UnknownMark fd_UnknownMarkinit
  b_UnknownMarkinit : Binds K fd_UnknownMarkinit pr_UnknownMarkinit []
  kp_UnknownMark : KBn K fd_UnknownMarkinit pr_UnknownMarkinit 2 [] gR gR
  kk_UnknownMark : KBn K fd_UnknownMarkinit pr_UnknownMarkinit 1 ["name"] gR gR
  fd_NothingToUndoinit : FuncData
  u_NothingToUndo : SupX P K cl_NothingToUndo fd_NothingToUndoinit
  b_NothingToUndoinit : Binds K fd_NothingToUndoinit pr_NothingToUndoinit []
  kp_NothingToUndo : KBn K fd_NothingToUndoinit pr_NothingToUndoinit 1 [] gR gR
  fd_Meshinit : FuncData
  F_Meshinit : FunD K "__init__" "Mesh.__init__" (defArgs s_Meshinit) (defBody s_Meshinit) (defScope s_Meshinit) [] [] (He.ma K (He.ga K "Mesh") "__init__") fd_Meshinit
  b_Meshinit : Binds K fd_Meshinit pr_Meshinit []
  me_Mesheq : Meth K (He.ga K "Mesh") "__eq__" (He.ma K (He.ga K "Mesh") "__eq__")
  fd_Mesheq : FuncData
  F_Mesheq : FunD K "__eq__" "Mesh.__eq__" (defArgs s_Mesheq) (defBody s_Mesheq) (defScope s_Mesheq) [] [] (He.ma K (He.ga K "Mesh") "__eq__") fd_Mesheq
  b_Mesheq : Binds K fd_Mesheq pr_Mesheq []
  m_isinteger : mg "_is_integer" = some (.ref (He.ga K "_is_integer"))
  fd_isinteger : FuncData
  F_isinteger : FunD K "_is_integer" "_is_integer" (defArgs s_isinteger) (defBody s_isinteger) (defScope s_isinteger) [] [] (He.ga K "_is_integer") fd_isinteger
  b_isinteger : Binds K fd_isinteger pr_isinteger []
  m_arehalves : mg "are_halves" = some (.ref (He.ga K "are_halves"))
  fd_arehalves : FuncData
  F_arehalves : FunD K "are_halves" "are_halves" (defArgs s_arehalves) (defBody s_arehalves) (defScope s_arehalves) [] [] (He.ga K "are_halves") fd_arehalves
  b_arehalves : Binds K fd_arehalves pr_arehalves []
  m_areallhalves : mg "_are_all_halves" = some (.ref (He.ga K "_are_all_halves"))
  fd_areallhalves : FuncData
  F_areallhalves : FunD K "_are_all_halves" "_are_all_halves" (defArgs s_areallhalves) (defBody s_areallhalves) (defScope s_areallhalves) [] [] (He.ga K "_are_all_halves") fd_areallhalves
  b_areallhalves : Binds K fd_areallhalves pr_areallhalves []
  m_inverse : mg "_inverse" = some (.ref (He.ga K "_inverse"))
  fd_inverse : FuncData
  F_inverse : FunD K "_inverse" "_inverse" (defArgs s_inverse) (defBody s_inverse) (defScope s_inverse) [] [] (He.ga K "_inverse") fd_inverse
  b_inverse : Binds K fd_inverse pr_inverse []
  m_Ltape : mg "_law_tape" = some (.ref (He.ga K "_law_tape"))
  fd_Ltape : FuncData
  F_Ltape : FunD K "_law_tape" "_law_tape" (defArgs s_Ltape) (defBody s_Ltape) (defScope s_Ltape) [] [] (He.ga K "_law_tape") fd_Ltape
  b_Ltape : Binds K fd_Ltape pr_Ltape []
  m_Lpick : mg "_law_pick" = some (.ref (He.ga K "_law_pick"))
  fd_Lpick : FuncData
  F_Lpick : FunD K "_law_pick" "_law_pick" (defArgs s_Lpick) (defBody s_Lpick) (defScope s_Lpick) [] [] (He.ga K "_law_pick") fd_Lpick
  b_Lpick : Binds K fd_Lpick pr_Lpick []
  m_Lkinds : mg "_law_kinds" = some (.ref (He.ga K "_law_kinds"))
  fd_Lkinds : FuncData
  F_Lkinds : FunD K "_law_kinds" "_law_kinds" (defArgs s_Lkinds) (defBody s_Lkinds) (defScope s_Lkinds) [] [] (He.ga K "_law_kinds") fd_Lkinds
  b_Lkinds : Binds K fd_Lkinds pr_Lkinds []
  m_Lright : mg "_law_right" = some (.ref (He.ga K "_law_right"))
  fd_Lright : FuncData
  F_Lright : FunD K "_law_right" "_law_right" (defArgs s_Lright) (defBody s_Lright) (defScope s_Lright) [] [] (He.ga K "_law_right") fd_Lright
  b_Lright : Binds K fd_Lright pr_Lright []
  fd_law : FuncData
  F_law : FunD K "law" "law" (defArgs s_law) (defBody s_law) (defScope s_law) [] [] (He.ga K "law") fd_law
  b_law : Binds K fd_law pr_law []
  na_BadLine_line : NoAttr K (He.ga K "BadLine") "line"
  na_UnknownName_line : NoAttr K (He.ga K "UnknownName") "line"
  na_UnknownName_name : NoAttr K (He.ga K "UnknownName") "name"
  na_WrongKind_line : NoAttr K (He.ga K "WrongKind") "line"
  na_WrongKind_name : NoAttr K (He.ga K "WrongKind") "name"
  na_FactFails_line : NoAttr K (He.ga K "FactFails") "line"
  na_Broken_fault : NoAttr K (He.ga K "Broken") "fault"
  na_Broken_line : NoAttr K (He.ga K "Broken") "line"
  na_Breaks_mesh : NoAttr K (He.ga K "Breaks") "mesh"
  na_Breaks_halves : NoAttr K (He.ga K "Breaks") "halves"
  na_UnknownDeed_name : NoAttr K (He.ga K "UnknownDeed") "name"
  na_UnknownMark_name : NoAttr K (He.ga K "UnknownMark") "name"
  x_NotAMesh : ExcC K (He.ga K "NotAMesh")
  x_BadLine : ExcC K (He.ga K "BadLine")
  x_UnknownName : ExcC K (He.ga K "UnknownName")
  x_WrongKind : ExcC K (He.ga K "WrongKind")
  x_FactFails : ExcC K (He.ga K "FactFails")
  x_Broken : ExcC K (He.ga K "Broken")
  x_NeverGiven : ExcC K (He.ga K "NeverGiven")
  x_Breaks : ExcC K (He.ga K "Breaks")
  x_UnknownDeed : ExcC K (He.ga K "UnknownDeed")
  x_UnknownMark : ExcC K (He.ga K "UnknownMark")
  x_NothingToUndo : ExcC K (He.ga K "NothingToUndo")
  k_all : ∀ x ∈ K15.nmE, ∀ y ∈ K15.nmE, PySem.W.kitOne K (.ref (He.ga K x)) (.ref (He.ga K y)) = some (decide (x = y))
  k_M : ∀ x ∈ K15.nmE, PySem.W.kitOne K (.ref (He.ga K x)) (.ref (He.ga K "MeshError")) = some true
  k_V : ∀ x ∈ K15.nmE, PySem.W.kitOne K (.ref (He.ga K x)) (.type "ValueError") = some true
  i_Mesh : InsF K (He.ga K "Mesh")
  e_1 : PySem.W.kitOne K (.type "list") (.ref (He.ga K "Mesh")) = some false
  e_2 : PySem.W.kitOne K (.type "int") (.ref (He.ga K "Mesh")) = some false
  e_3 : PySem.W.subIn K (.type "list") (.ref (He.ga K "Mesh")) = some false
  e_4 : PySem.W.subIn K (.type "int") (.ref (He.ga K "Mesh")) = some false
theorem Tx.kf {P : Program} {K : PySem.W.Frag} {mg : Str → Option Value} (T : Tx P K mg) : Hm.KF K := ⟨T.cl_Mesh, T.na_nexts, T.na_prevs, T.na_turns⟩
theorem Tx.kq {P : Program} {K : PySem.W.Frag} {mg : Str → Option Value} (T : Tx P K mg) : Hm.KQ K := ⟨T.kf, T.i_Mesh, T.e_1, T.e_2, T.e_3, T.e_4⟩
theorem Tx.ke {P : Program} {K : PySem.W.Frag} {mg : Str → Option Value} (T : Tx P K mg) : K15.KE K := ⟨T.kq, T.k_all, T.k_M, T.k_V, K15.all11 T.x_NotAMesh T.x_BadLine T.x_UnknownName T.x_WrongKind T.x_FactFails T.x_Broken T.x_NeverGiven T.x_Breaks T.x_UnknownDeed T.x_UnknownMark T.x_NothingToUndo, K15.all11 T.u_NotAMesh.F.oex T.u_BadLine.F.oex T.u_UnknownName.F.oex T.u_WrongKind.F.oex T.u_FactFails.F.oex T.u_Broken.F.oex T.u_NeverGiven.F.oex T.u_Breaks.F.oex T.u_UnknownDeed.F.oex T.u_UnknownMark.F.oex T.u_NothingToUndo.F.oex, T.na_BadLine_line, T.na_UnknownName_line, T.na_UnknownName_name, T.na_WrongKind_line, T.na_WrongKind_name, T.na_FactFails_line, T.na_Broken_fault, T.na_Broken_line, T.na_Breaks_mesh, T.na_Breaks_halves, T.na_UnknownDeed_name, T.na_UnknownMark_name⟩
def fn : List He.DefD := [⟨("Mesh", some "__init__"), "__init__", "Mesh.__init__", defArgs s_Meshinit, defBody s_Meshinit, defScope s_Meshinit, [], []⟩,
  ⟨("Mesh", some "__eq__"), "__eq__", "Mesh.__eq__", defArgs s_Mesheq, defBody s_Mesheq, defScope s_Mesheq, [], []⟩,
  ⟨("_is_integer", none), "_is_integer", "_is_integer", defArgs s_isinteger, defBody s_isinteger, defScope s_isinteger, [], []⟩,
  ⟨("are_halves", none), "are_halves", "are_halves", defArgs s_arehalves, defBody s_arehalves, defScope s_arehalves, [], []⟩,
  ⟨("_are_all_halves", none), "_are_all_halves", "_are_all_halves", defArgs s_areallhalves, defBody s_areallhalves, defScope s_areallhalves, [], []⟩,
  ⟨("_inverse", none), "_inverse", "_inverse", defArgs s_inverse, defBody s_inverse, defScope s_inverse, [], []⟩,
  ⟨("_law_tape", none), "_law_tape", "_law_tape", defArgs s_Ltape, defBody s_Ltape, defScope s_Ltape, [], []⟩,
  ⟨("_law_pick", none), "_law_pick", "_law_pick", defArgs s_Lpick, defBody s_Lpick, defScope s_Lpick, [], []⟩,
  ⟨("_law_kinds", none), "_law_kinds", "_law_kinds", defArgs s_Lkinds, defBody s_Lkinds, defScope s_Lkinds, [], []⟩,
  ⟨("_law_right", none), "_law_right", "_law_right", defArgs s_Lright, defBody s_Lright, defScope s_Lright, [], []⟩,
  ⟨("law", none), "law", "law", defArgs s_law, defBody s_law, defScope s_law, [], []⟩]
def fa : List He.Fa := [.free "len", .free "abs", .free "int", .free "list", .free "all", .free "isinstance", .free "range", .free "bool", .free "enumerate", .free "super", .free "set", .free "ValueError", .glo "MeshError", .glo "NotAMesh", .glo "BadLine", .glo "UnknownName", .glo "WrongKind", .glo "FactFails", .glo "Broken", .glo "NeverGiven", .glo "Breaks", .glo "UnknownDeed", .glo "UnknownMark", .glo "NothingToUndo", .glo "Mesh", .cls "Mesh", .noat "Mesh" "_nexts", .noat "Mesh" "_prevs", .noat "Mesh" "_turns", .mkr "Mesh", .meth "Mesh" "__eq__", .glo "_is_integer", .glo "are_halves", .glo "_are_all_halves", .glo "_inverse", .glo "_law_tape", .glo "_law_pick", .glo "_law_kinds", .glo "_law_right", .noat "BadLine" "line", .noat "UnknownName" "line", .noat "UnknownName" "name", .noat "WrongKind" "line", .noat "WrongKind" "name", .noat "FactFails" "line", .noat "Broken" "fault", .noat "Broken" "line", .noat "Breaks" "mesh", .noat "Breaks" "halves", .noat "UnknownDeed" "name", .noat "UnknownMark" "name", .glo "law"]
def fx : List Fx := [.sup "NotAMesh", .sup "BadLine", .sup "UnknownName", .sup "WrongKind", .sup "FactFails", .sup "Broken", .sup "NeverGiven", .sup "Breaks", .sup "UnknownDeed", .sup "UnknownMark", .sup "NothingToUndo", .exc "NotAMesh", .exc "BadLine", .exc "UnknownName", .exc "WrongKind", .exc "FactFails", .exc "Broken", .exc "NeverGiven", .exc "Breaks", .exc "UnknownDeed", .exc "UnknownMark", .exc "NothingToUndo", .kits ["NotAMesh", "BadLine", "UnknownName", "WrongKind", "FactFails", "Broken", "NeverGiven", "Breaks", "UnknownDeed", "UnknownMark", "NothingToUndo"], .kitTo ["NotAMesh", "BadLine", "UnknownName", "WrongKind", "FactFails", "Broken", "NeverGiven", "Breaks", "UnknownDeed", "UnknownMark", "NothingToUndo"] (.own "MeshError"), .kitTo ["NotAMesh", "BadLine", "UnknownName", "WrongKind", "FactFails", "Broken", "NeverGiven", "Breaks", "UnknownDeed", "UnknownMark", "NothingToUndo"] (.ty "ValueError"), .ins "Mesh", .kit (.ty "list") (.own "Mesh") false, .kit (.ty "int") (.own "Mesh") false, .sub (.ty "list") "Mesh" false, .sub (.ty "int") "Mesh" false]
def cl : List CloD := [cl_NotAMesh, cl_BadLine, cl_UnknownName, cl_WrongKind, cl_FactFails, cl_Broken, cl_NeverGiven, cl_Breaks, cl_UnknownDeed, cl_UnknownMark, cl_NothingToUndo]
def pg : List PgD := []
theorem tx_of {P : Program} {K : PySem.W.Frag} {h : Heap} {mg : Str → Option Value} (hP : PF P) (X : K.In h) (G : h.Ns mainGlobals mg) (c : SaysS fa fn fx cl fileS K) : Nonempty (Tx P K mg) := by
  have cd := c.d
  obtain ⟨fd_NotAMeshinit, u_NotAMesh⟩ := sup_of (P := P) (d := cl_NotAMesh) (c.clo 0 rfl) (by rw [hP.file]; exact c.fact 0 (f := .sup "NotAMesh") rfl) hP.top
  have b_NotAMeshinit : Binds K fd_NotAMeshinit pr_NotAMeshinit [] := by
    obtain ⟨cl, kV, doc, pm, an, cdv, ct, e⟩ := u_NotAMesh.fx
    rw [e]
    exact Binds.all fun us hl => match us, hl with | [_], _ => rfl
  have kp_NotAMesh : KBn K fd_NotAMeshinit pr_NotAMeshinit 1 [] gR gR := by
    obtain ⟨cl, kV, doc, pm, an, cdv, ct, e⟩ := u_NotAMesh.fx
    rw [e]
    exact kbn_of fun us ws h1 h2 => match us, ws, h1, h2 with | [_], [], _, _ => rfl
  obtain ⟨fd_BadLineinit, u_BadLine⟩ := sup_of (P := P) (d := cl_BadLine) (c.clo 1 rfl) (by rw [hP.file]; exact c.fact 1 (f := .sup "BadLine") rfl) hP.top
  have b_BadLineinit : Binds K fd_BadLineinit pr_BadLineinit [] := by
    obtain ⟨cl, kV, doc, pm, an, cdv, ct, e⟩ := u_BadLine.fx
    rw [e]
    exact Binds.all fun us hl => match us, hl with | [_, _], _ => rfl
  have kp_BadLine : KBn K fd_BadLineinit pr_BadLineinit 2 [] gR gR := by
    obtain ⟨cl, kV, doc, pm, an, cdv, ct, e⟩ := u_BadLine.fx
    rw [e]
    exact kbn_of fun us ws h1 h2 => match us, ws, h1, h2 with | [_, _], [], _, _ => rfl
  have kk_BadLine : KBn K fd_BadLineinit pr_BadLineinit 1 ["line"] gR gR := by
    obtain ⟨cl, kV, doc, pm, an, cdv, ct, e⟩ := u_BadLine.fx
    rw [e]
    exact kbn_of fun us ws h1 h2 => match us, ws, h1, h2 with | [_], [_], _, _ => rfl
  obtain ⟨fd_UnknownNameinit, u_UnknownName⟩ := sup_of (P := P) (d := cl_UnknownName) (c.clo 2 rfl) (by rw [hP.file]; exact c.fact 2 (f := .sup "UnknownName") rfl) hP.top
  have b_UnknownNameinit : Binds K fd_UnknownNameinit pr_UnknownNameinit [] := by
    obtain ⟨cl, kV, doc, pm, an, cdv, ct, e⟩ := u_UnknownName.fx
    rw [e]
    exact Binds.all fun us hl => match us, hl with | [_, _, _], _ => rfl
  have kp_UnknownName : KBn K fd_UnknownNameinit pr_UnknownNameinit 3 [] gR gR := by
    obtain ⟨cl, kV, doc, pm, an, cdv, ct, e⟩ := u_UnknownName.fx
    rw [e]
    exact kbn_of fun us ws h1 h2 => match us, ws, h1, h2 with | [_, _, _], [], _, _ => rfl
  have kk_UnknownName : KBn K fd_UnknownNameinit pr_UnknownNameinit 1 ["name", "line"] gR gR := by
    obtain ⟨cl, kV, doc, pm, an, cdv, ct, e⟩ := u_UnknownName.fx
    rw [e]
    exact kbn_of fun us ws h1 h2 => match us, ws, h1, h2 with | [_], [_, _], _, _ => rfl
  obtain ⟨fd_WrongKindinit, u_WrongKind⟩ := sup_of (P := P) (d := cl_WrongKind) (c.clo 3 rfl) (by rw [hP.file]; exact c.fact 3 (f := .sup "WrongKind") rfl) hP.top
  have b_WrongKindinit : Binds K fd_WrongKindinit pr_WrongKindinit [] := by
    obtain ⟨cl, kV, doc, pm, an, cdv, ct, e⟩ := u_WrongKind.fx
    rw [e]
    exact Binds.all fun us hl => match us, hl with | [_, _, _], _ => rfl
  have kp_WrongKind : KBn K fd_WrongKindinit pr_WrongKindinit 3 [] gR gR := by
    obtain ⟨cl, kV, doc, pm, an, cdv, ct, e⟩ := u_WrongKind.fx
    rw [e]
    exact kbn_of fun us ws h1 h2 => match us, ws, h1, h2 with | [_, _, _], [], _, _ => rfl
  have kk_WrongKind : KBn K fd_WrongKindinit pr_WrongKindinit 1 ["name", "line"] gR gR := by
    obtain ⟨cl, kV, doc, pm, an, cdv, ct, e⟩ := u_WrongKind.fx
    rw [e]
    exact kbn_of fun us ws h1 h2 => match us, ws, h1, h2 with | [_], [_, _], _, _ => rfl
  obtain ⟨fd_FactFailsinit, u_FactFails⟩ := sup_of (P := P) (d := cl_FactFails) (c.clo 4 rfl) (by rw [hP.file]; exact c.fact 4 (f := .sup "FactFails") rfl) hP.top
  have b_FactFailsinit : Binds K fd_FactFailsinit pr_FactFailsinit [] := by
    obtain ⟨cl, kV, doc, pm, an, cdv, ct, e⟩ := u_FactFails.fx
    rw [e]
    exact Binds.all fun us hl => match us, hl with | [_, _], _ => rfl
  have kp_FactFails : KBn K fd_FactFailsinit pr_FactFailsinit 2 [] gR gR := by
    obtain ⟨cl, kV, doc, pm, an, cdv, ct, e⟩ := u_FactFails.fx
    rw [e]
    exact kbn_of fun us ws h1 h2 => match us, ws, h1, h2 with | [_, _], [], _, _ => rfl
  have kk_FactFails : KBn K fd_FactFailsinit pr_FactFailsinit 1 ["line"] gR gR := by
    obtain ⟨cl, kV, doc, pm, an, cdv, ct, e⟩ := u_FactFails.fx
    rw [e]
    exact kbn_of fun us ws h1 h2 => match us, ws, h1, h2 with | [_], [_], _, _ => rfl
  obtain ⟨fd_Brokeninit, u_Broken⟩ := sup_of (P := P) (d := cl_Broken) (c.clo 5 rfl) (by rw [hP.file]; exact c.fact 5 (f := .sup "Broken") rfl) hP.top
  have b_Brokeninit : Binds K fd_Brokeninit pr_Brokeninit [] := by
    obtain ⟨cl, kV, doc, pm, an, cdv, ct, e⟩ := u_Broken.fx
    rw [e]
    exact Binds.all fun us hl => match us, hl with | [_, _, _], _ => rfl
  have kp_Broken : KBn K fd_Brokeninit pr_Brokeninit 3 [] gR gR := by
    obtain ⟨cl, kV, doc, pm, an, cdv, ct, e⟩ := u_Broken.fx
    rw [e]
    exact kbn_of fun us ws h1 h2 => match us, ws, h1, h2 with | [_, _, _], [], _, _ => rfl
  have kk_Broken : KBn K fd_Brokeninit pr_Brokeninit 1 ["line", "fault"] gR gR := by
    obtain ⟨cl, kV, doc, pm, an, cdv, ct, e⟩ := u_Broken.fx
    rw [e]
    exact kbn_of fun us ws h1 h2 => match us, ws, h1, h2 with | [_], [_, _], _, _ => rfl
  obtain ⟨fd_NeverGiveninit, u_NeverGiven⟩ := sup_of (P := P) (d := cl_NeverGiven) (c.clo 6 rfl) (by rw [hP.file]; exact c.fact 6 (f := .sup "NeverGiven") rfl) hP.top
  have b_NeverGiveninit : Binds K fd_NeverGiveninit pr_NeverGiveninit [] := by
    obtain ⟨cl, kV, doc, pm, an, cdv, ct, e⟩ := u_NeverGiven.fx
    rw [e]
    exact Binds.all fun us hl => match us, hl with | [_], _ => rfl
  have kp_NeverGiven : KBn K fd_NeverGiveninit pr_NeverGiveninit 1 [] gR gR := by
    obtain ⟨cl, kV, doc, pm, an, cdv, ct, e⟩ := u_NeverGiven.fx
    rw [e]
    exact kbn_of fun us ws h1 h2 => match us, ws, h1, h2 with | [_], [], _, _ => rfl
  obtain ⟨fd_Breaksinit, u_Breaks⟩ := sup_of (P := P) (d := cl_Breaks) (c.clo 7 rfl) (by rw [hP.file]; exact c.fact 7 (f := .sup "Breaks") rfl) hP.top
  have b_Breaksinit : Binds K fd_Breaksinit pr_Breaksinit [] := by
    obtain ⟨cl, kV, doc, pm, an, cdv, ct, e⟩ := u_Breaks.fx
    rw [e]
    exact Binds.all fun us hl => match us, hl with | [_, _, _], _ => rfl
  have kp_Breaks : KBn K fd_Breaksinit pr_Breaksinit 3 [] gR gR := by
    obtain ⟨cl, kV, doc, pm, an, cdv, ct, e⟩ := u_Breaks.fx
    rw [e]
    exact kbn_of fun us ws h1 h2 => match us, ws, h1, h2 with | [_, _, _], [], _, _ => rfl
  have kk_Breaks : KBn K fd_Breaksinit pr_Breaksinit 1 ["halves", "mesh"] gR gR := by
    obtain ⟨cl, kV, doc, pm, an, cdv, ct, e⟩ := u_Breaks.fx
    rw [e]
    exact kbn_of fun us ws h1 h2 => match us, ws, h1, h2 with | [_], [_, _], _, _ => rfl
  obtain ⟨fd_UnknownDeedinit, u_UnknownDeed⟩ := sup_of (P := P) (d := cl_UnknownDeed) (c.clo 8 rfl) (by rw [hP.file]; exact c.fact 8 (f := .sup "UnknownDeed") rfl) hP.top
  have b_UnknownDeedinit : Binds K fd_UnknownDeedinit pr_UnknownDeedinit [] := by
    obtain ⟨cl, kV, doc, pm, an, cdv, ct, e⟩ := u_UnknownDeed.fx
    rw [e]
    exact Binds.all fun us hl => match us, hl with | [_, _], _ => rfl
  have kp_UnknownDeed : KBn K fd_UnknownDeedinit pr_UnknownDeedinit 2 [] gR gR := by
    obtain ⟨cl, kV, doc, pm, an, cdv, ct, e⟩ := u_UnknownDeed.fx
    rw [e]
    exact kbn_of fun us ws h1 h2 => match us, ws, h1, h2 with | [_, _], [], _, _ => rfl
  have kk_UnknownDeed : KBn K fd_UnknownDeedinit pr_UnknownDeedinit 1 ["name"] gR gR := by
    obtain ⟨cl, kV, doc, pm, an, cdv, ct, e⟩ := u_UnknownDeed.fx
    rw [e]
    exact kbn_of fun us ws h1 h2 => match us, ws, h1, h2 with | [_], [_], _, _ => rfl
  obtain ⟨fd_UnknownMarkinit, u_UnknownMark⟩ := sup_of (P := P) (d := cl_UnknownMark) (c.clo 9 rfl) (by rw [hP.file]; exact c.fact 9 (f := .sup "UnknownMark") rfl) hP.top
  have b_UnknownMarkinit : Binds K fd_UnknownMarkinit pr_UnknownMarkinit [] := by
    obtain ⟨cl, kV, doc, pm, an, cdv, ct, e⟩ := u_UnknownMark.fx
    rw [e]
    exact Binds.all fun us hl => match us, hl with | [_, _], _ => rfl
  have kp_UnknownMark : KBn K fd_UnknownMarkinit pr_UnknownMarkinit 2 [] gR gR := by
    obtain ⟨cl, kV, doc, pm, an, cdv, ct, e⟩ := u_UnknownMark.fx
    rw [e]
    exact kbn_of fun us ws h1 h2 => match us, ws, h1, h2 with | [_, _], [], _, _ => rfl
  have kk_UnknownMark : KBn K fd_UnknownMarkinit pr_UnknownMarkinit 1 ["name"] gR gR := by
    obtain ⟨cl, kV, doc, pm, an, cdv, ct, e⟩ := u_UnknownMark.fx
    rw [e]
    exact kbn_of fun us ws h1 h2 => match us, ws, h1, h2 with | [_], [_], _, _ => rfl
  obtain ⟨fd_NothingToUndoinit, u_NothingToUndo⟩ := sup_of (P := P) (d := cl_NothingToUndo) (c.clo 10 rfl) (by rw [hP.file]; exact c.fact 10 (f := .sup "NothingToUndo") rfl) hP.top
  have b_NothingToUndoinit : Binds K fd_NothingToUndoinit pr_NothingToUndoinit [] := by
    obtain ⟨cl, kV, doc, pm, an, cdv, ct, e⟩ := u_NothingToUndo.fx
    rw [e]
    exact Binds.all fun us hl => match us, hl with | [_], _ => rfl
  have kp_NothingToUndo : KBn K fd_NothingToUndoinit pr_NothingToUndoinit 1 [] gR gR := by
    obtain ⟨cl, kV, doc, pm, an, cdv, ct, e⟩ := u_NothingToUndo.fx
    rw [e]
    exact kbn_of fun us ws h1 h2 => match us, ws, h1, h2 with | [_], [], _, _ => rfl
  obtain ⟨fd_Meshinit, F_Meshinit⟩ := cd.def_ 0 rfl
  have b_Meshinit : Binds K fd_Meshinit pr_Meshinit [] := F_Meshinit.bindsN fun _ _ _ _ _ _ us hl => match us, hl with | [_, _], _ => rfl
  obtain ⟨fd_Mesheq, F_Mesheq⟩ := cd.def_ 1 rfl
  have b_Mesheq : Binds K fd_Mesheq pr_Mesheq [] := F_Mesheq.bindsN fun _ _ _ _ _ _ us hl => match us, hl with | [_, _], _ => rfl
  obtain ⟨fd_isinteger, F_isinteger⟩ := cd.def_ 2 rfl
  have b_isinteger : Binds K fd_isinteger pr_isinteger [] := F_isinteger.bindsN fun _ _ _ _ _ _ us hl => match us, hl with | [_], _ => rfl
  obtain ⟨fd_arehalves, F_arehalves⟩ := cd.def_ 3 rfl
  have b_arehalves : Binds K fd_arehalves pr_arehalves [] := F_arehalves.bindsN fun _ _ _ _ _ _ us hl => match us, hl with | [_, _], _ => rfl
  obtain ⟨fd_areallhalves, F_areallhalves⟩ := cd.def_ 4 rfl
  have b_areallhalves : Binds K fd_areallhalves pr_areallhalves [] := F_areallhalves.bindsN fun _ _ _ _ _ _ us hl => match us, hl with | [_], _ => rfl
  obtain ⟨fd_inverse, F_inverse⟩ := cd.def_ 5 rfl
  have b_inverse : Binds K fd_inverse pr_inverse [] := F_inverse.bindsN fun _ _ _ _ _ _ us hl => match us, hl with | [_], _ => rfl
  obtain ⟨fd_Ltape, F_Ltape⟩ := cd.def_ 6 rfl
  have b_Ltape : Binds K fd_Ltape pr_Ltape [] := F_Ltape.bindsN fun _ _ _ _ _ _ us hl => match us, hl with | [_, _], _ => rfl
  obtain ⟨fd_Lpick, F_Lpick⟩ := cd.def_ 7 rfl
  have b_Lpick : Binds K fd_Lpick pr_Lpick [] := F_Lpick.bindsN fun _ _ _ _ _ _ us hl => match us, hl with | [_, _], _ => rfl
  obtain ⟨fd_Lkinds, F_Lkinds⟩ := cd.def_ 8 rfl
  have b_Lkinds : Binds K fd_Lkinds pr_Lkinds [] := F_Lkinds.bindsN fun _ _ _ _ _ _ us hl => match us, hl with | [_], _ => rfl
  obtain ⟨fd_Lright, F_Lright⟩ := cd.def_ 9 rfl
  have b_Lright : Binds K fd_Lright pr_Lright [] := F_Lright.bindsN fun _ _ _ _ _ _ us hl => match us, hl with | [_, _], _ => rfl
  obtain ⟨fd_law, F_law⟩ := cd.def_ 10 rfl
  have b_law : Binds K fd_law pr_law [] := F_law.bindsN fun _ _ _ _ _ _ us hl => match us, hl with | [_], _ => rfl
  exact ⟨⟨He.free_ok X G (cd.fact 0 (f := .free "len") rfl),
    He.free_ok X G (cd.fact 1 (f := .free "abs") rfl),
    He.free_ok X G (cd.fact 2 (f := .free "int") rfl),
    He.free_ok X G (cd.fact 3 (f := .free "list") rfl),
    He.free_ok X G (cd.fact 4 (f := .free "all") rfl),
    He.free_ok X G (cd.fact 5 (f := .free "isinstance") rfl),
    He.free_ok X G (cd.fact 6 (f := .free "range") rfl),
    He.free_ok X G (cd.fact 7 (f := .free "bool") rfl),
    He.free_ok X G (cd.fact 8 (f := .free "enumerate") rfl),
    He.free_ok X G (cd.fact 9 (f := .free "super") rfl),
    He.free_ok X G (cd.fact 10 (f := .free "set") rfl),
    He.free_ok X G (cd.fact 11 (f := .free "ValueError") rfl),
    He.glo_ok X G (cd.fact 12 (f := .glo "MeshError") rfl),
    He.glo_ok X G (cd.fact 13 (f := .glo "NotAMesh") rfl),
    He.glo_ok X G (cd.fact 14 (f := .glo "BadLine") rfl),
    He.glo_ok X G (cd.fact 15 (f := .glo "UnknownName") rfl),
    He.glo_ok X G (cd.fact 16 (f := .glo "WrongKind") rfl),
    He.glo_ok X G (cd.fact 17 (f := .glo "FactFails") rfl),
    He.glo_ok X G (cd.fact 18 (f := .glo "Broken") rfl),
    He.glo_ok X G (cd.fact 19 (f := .glo "NeverGiven") rfl),
    He.glo_ok X G (cd.fact 20 (f := .glo "Breaks") rfl),
    He.glo_ok X G (cd.fact 21 (f := .glo "UnknownDeed") rfl),
    He.glo_ok X G (cd.fact 22 (f := .glo "UnknownMark") rfl),
    He.glo_ok X G (cd.fact 23 (f := .glo "NothingToUndo") rfl),
    He.glo_ok X G (cd.fact 24 (f := .glo "Mesh") rfl),
    He.cls_ok (cd.fact 25 (f := .cls "Mesh") rfl),
    He.noat_ok (cd.fact 26 (f := .noat "Mesh" "_nexts") rfl),
    He.noat_ok (cd.fact 27 (f := .noat "Mesh" "_prevs") rfl),
    He.noat_ok (cd.fact 28 (f := .noat "Mesh" "_turns") rfl),
    He.mkr_ok (cd.fact 29 (f := .mkr "Mesh") rfl),
    fd_NotAMeshinit,
    u_NotAMesh,
    b_NotAMeshinit,
    kp_NotAMesh,
    fd_BadLineinit,
    u_BadLine,
    b_BadLineinit,
    kp_BadLine,
    kk_BadLine,
    fd_UnknownNameinit,
    u_UnknownName,
    b_UnknownNameinit,
    kp_UnknownName,
    kk_UnknownName,
    fd_WrongKindinit,
    u_WrongKind,
    b_WrongKindinit,
    kp_WrongKind,
    kk_WrongKind,
    fd_FactFailsinit,
    u_FactFails,
    b_FactFailsinit,
    kp_FactFails,
    kk_FactFails,
    fd_Brokeninit,
    u_Broken,
    b_Brokeninit,
    kp_Broken,
    kk_Broken,
    fd_NeverGiveninit,
    u_NeverGiven,
    b_NeverGiveninit,
    kp_NeverGiven,
    fd_Breaksinit,
    u_Breaks,
    b_Breaksinit,
    kp_Breaks,
    kk_Breaks,
    fd_UnknownDeedinit,
    u_UnknownDeed,
    b_UnknownDeedinit,
    kp_UnknownDeed,
    kk_UnknownDeed,
    fd_UnknownMarkinit,
    u_UnknownMark,
    b_UnknownMarkinit,
    kp_UnknownMark,
    kk_UnknownMark,
    fd_NothingToUndoinit,
    u_NothingToUndo,
    b_NothingToUndoinit,
    kp_NothingToUndo,
    fd_Meshinit,
    F_Meshinit,
    b_Meshinit,
    He.meth_ok (cd.fact 30 (f := .meth "Mesh" "__eq__") rfl),
    fd_Mesheq,
    F_Mesheq,
    b_Mesheq,
    He.glo_ok X G (cd.fact 31 (f := .glo "_is_integer") rfl),
    fd_isinteger,
    F_isinteger,
    b_isinteger,
    He.glo_ok X G (cd.fact 32 (f := .glo "are_halves") rfl),
    fd_arehalves,
    F_arehalves,
    b_arehalves,
    He.glo_ok X G (cd.fact 33 (f := .glo "_are_all_halves") rfl),
    fd_areallhalves,
    F_areallhalves,
    b_areallhalves,
    He.glo_ok X G (cd.fact 34 (f := .glo "_inverse") rfl),
    fd_inverse,
    F_inverse,
    b_inverse,
    He.glo_ok X G (cd.fact 35 (f := .glo "_law_tape") rfl),
    fd_Ltape,
    F_Ltape,
    b_Ltape,
    He.glo_ok X G (cd.fact 36 (f := .glo "_law_pick") rfl),
    fd_Lpick,
    F_Lpick,
    b_Lpick,
    He.glo_ok X G (cd.fact 37 (f := .glo "_law_kinds") rfl),
    fd_Lkinds,
    F_Lkinds,
    b_Lkinds,
    He.glo_ok X G (cd.fact 38 (f := .glo "_law_right") rfl),
    fd_Lright,
    F_Lright,
    b_Lright,
    fd_law,
    F_law,
    b_law,
    He.noat_ok (cd.fact 39 (f := .noat "BadLine" "line") rfl),
    He.noat_ok (cd.fact 40 (f := .noat "UnknownName" "line") rfl),
    He.noat_ok (cd.fact 41 (f := .noat "UnknownName" "name") rfl),
    He.noat_ok (cd.fact 42 (f := .noat "WrongKind" "line") rfl),
    He.noat_ok (cd.fact 43 (f := .noat "WrongKind" "name") rfl),
    He.noat_ok (cd.fact 44 (f := .noat "FactFails" "line") rfl),
    He.noat_ok (cd.fact 45 (f := .noat "Broken" "fault") rfl),
    He.noat_ok (cd.fact 46 (f := .noat "Broken" "line") rfl),
    He.noat_ok (cd.fact 47 (f := .noat "Breaks" "mesh") rfl),
    He.noat_ok (cd.fact 48 (f := .noat "Breaks" "halves") rfl),
    He.noat_ok (cd.fact 49 (f := .noat "UnknownDeed" "name") rfl),
    He.noat_ok (cd.fact 50 (f := .noat "UnknownMark" "name") rfl),
    exc_of (c.fact 11 (f := .exc "NotAMesh") rfl),
    exc_of (c.fact 12 (f := .exc "BadLine") rfl),
    exc_of (c.fact 13 (f := .exc "UnknownName") rfl),
    exc_of (c.fact 14 (f := .exc "WrongKind") rfl),
    exc_of (c.fact 15 (f := .exc "FactFails") rfl),
    exc_of (c.fact 16 (f := .exc "Broken") rfl),
    exc_of (c.fact 17 (f := .exc "NeverGiven") rfl),
    exc_of (c.fact 18 (f := .exc "Breaks") rfl),
    exc_of (c.fact 19 (f := .exc "UnknownDeed") rfl),
    exc_of (c.fact 20 (f := .exc "UnknownMark") rfl),
    exc_of (c.fact 21 (f := .exc "NothingToUndo") rfl),
    kits_of (c.fact 22 (f := .kits ["NotAMesh", "BadLine", "UnknownName", "WrongKind", "FactFails", "Broken", "NeverGiven", "Breaks", "UnknownDeed", "UnknownMark", "NothingToUndo"]) rfl),
    kitTo_of (c.fact 23 (f := .kitTo ["NotAMesh", "BadLine", "UnknownName", "WrongKind", "FactFails", "Broken", "NeverGiven", "Breaks", "UnknownDeed", "UnknownMark", "NothingToUndo"] (.own "MeshError")) rfl),
    kitTo_of (c.fact 24 (f := .kitTo ["NotAMesh", "BadLine", "UnknownName", "WrongKind", "FactFails", "Broken", "NeverGiven", "Breaks", "UnknownDeed", "UnknownMark", "NothingToUndo"] (.ty "ValueError")) rfl),
    ins_of (c.fact 25 (f := .ins "Mesh") rfl),
    kit_ok (c.fact 26 (f := .kit (.ty "list") (.own "Mesh") false) rfl),
    kit_ok (c.fact 27 (f := .kit (.ty "int") (.own "Mesh") false) rfl),
    sub_ok (c.fact 28 (f := .sub (.ty "list") "Mesh" false) rfl),
    sub_ok (c.fact 29 (f := .sub (.ty "int") "Mesh" false) rfl)⟩⟩
abbrev RR : PySem.W.OpenRow := PySem.W.OpenLaw.row PySem.Challenge.rw_halfmeshes_k15_error_classes
abbrev hk : PySem.W.Hook := hookS 5 fa fn fx cl fileS
def ob (s : PySem.W.SharedT) : AlS := obsSG 5 fa fn fx cl fileS (HandSHeadRun.getT s)
theorem ob_hk (s : PySem.W.SharedT) : ob s = hk.obs s.abs := obsSG_eq (HandSHeadRun.getT_eq s)
def lse : List Str := (["_wall", "MeshError", "NotAMesh", "BadLine", "UnknownName", "WrongKind", "FactFails", "Broken", "NeverGiven", "Breaks", "UnknownDeed", "UnknownMark", "NothingToUndo", "Mesh", "_is_integer", "are_halves", "_are_all_halves", "_inverse", "_rounds", "_law_tape"] : List Str) ++ (["_law_pick", "_law_kinds", "_law_right"] : List Str)
theorem top_run (w : World) : HandSHeadRun.RunEq RR (PySem.W.view RR.prog [26]) hk ob 9000 lse w := by
  intro os
  kernel_rfl
theorem ok_NotAMeshinit {P : Program} {w : World} {K : PySem.W.Frag} {mg : Str → Option Value} {base : Heap} (T : Tx P K mg) : FnOk P w K mg base (L2.CX P w) 1 (iA K "NotAMesh") T.fd_NotAMeshinit pr_NotAMeshinit (sp_NotAMeshinit K) :=
  sup_fn (N := ["self", "__class__"]) (k := 0) T.u_NotAMesh.F (NdefX.nscope_by (by decide +kernel)) rfl rfl (by decide) rfl ln_NotAMeshinit (fun F A outer s H vs Q E hq hsc hr h => by
    obtain ⟨x, rfl, hx, q⟩ := h
    exact ⟨x, _, _, rfl, hx, pa_cons pe_str pa_nil, pss_nil, ⟨by show 1 ≤ 1000; decide, hx, q⟩⟩) (fun _ => rfl) (fun _ => rfl) (fun _ => ⟨_, rfl⟩)
theorem ok_BadLineinit {P : Program} {w : World} {K : PySem.W.Frag} {mg : Str → Option Value} {base : Heap} (T : Tx P K mg) : FnOk P w K mg base (L2.CX P w) 1 (iA K "BadLine") T.fd_BadLineinit pr_BadLineinit (sp_BadLineinit K) :=
  sup_fn (N := ["self", "line", "__class__"]) (k := 0) T.u_BadLine.F (NdefX.nscope_by (by decide +kernel)) rfl rfl (by decide) rfl ln_BadLineinit (fun F A outer s H vs Q E hq hsc hr h => by
    obtain ⟨nmF, qlF, prF, bdF, scF, clF, cdF⟩ := F
    dsimp only at hq hsc
    subst hq hsc
    obtain ⟨x, h0, hx, q⟩ := rd_BadLineinit T.ke vs H Q E h
    exact ⟨x, a_BadLineinit K, t_BadLineinit K, h0, hx, pa_cons (pe_joined (.cons pe_str (.cons (pe_fmt (pv 1)) (.cons pe_str .nil)))) pa_nil, (pss_one (ps_ost (pv 0) (pv 1))), q⟩) (fun _ => rfl) (fun _ => rfl) (fun _ => ⟨_, rfl⟩)
theorem ok_UnknownNameinit {P : Program} {w : World} {K : PySem.W.Frag} {mg : Str → Option Value} {base : Heap} (T : Tx P K mg) : FnOk P w K mg base (L2.CX P w) 1 (iA K "UnknownName") T.fd_UnknownNameinit pr_UnknownNameinit (sp_UnknownNameinit K) :=
  sup_fn (N := ["self", "line", "name", "__class__"]) (k := 0) T.u_UnknownName.F (NdefX.nscope_by (by decide +kernel)) rfl rfl (by decide) rfl ln_UnknownNameinit (fun F A outer s H vs Q E hq hsc hr h => by
    obtain ⟨nmF, qlF, prF, bdF, scF, clF, cdF⟩ := F
    dsimp only at hq hsc
    subst hq hsc
    obtain ⟨x, h0, hx, q⟩ := rd_UnknownNameinit T.ke vs H Q E h
    exact ⟨x, a_UnknownNameinit K, t_UnknownNameinit K, h0, hx, pa_cons (pe_joined (.cons pe_str (.cons (pe_fmt (pv 1)) (.cons pe_str (.cons (pe_fmt (pv 2)) (.cons pe_str .nil)))))) pa_nil, (pss_cons (ps_ost (pv 0) (pv 1))
      (pss_one (ps_ost (pv 0) (pv 2)))), q⟩) (fun _ => rfl) (fun _ => rfl) (fun _ => ⟨_, rfl⟩)
theorem ok_WrongKindinit {P : Program} {w : World} {K : PySem.W.Frag} {mg : Str → Option Value} {base : Heap} (T : Tx P K mg) : FnOk P w K mg base (L2.CX P w) 1 (iA K "WrongKind") T.fd_WrongKindinit pr_WrongKindinit (sp_WrongKindinit K) :=
  sup_fn (N := ["self", "line", "name", "__class__"]) (k := 0) T.u_WrongKind.F (NdefX.nscope_by (by decide +kernel)) rfl rfl (by decide) rfl ln_WrongKindinit (fun F A outer s H vs Q E hq hsc hr h => by
    obtain ⟨nmF, qlF, prF, bdF, scF, clF, cdF⟩ := F
    dsimp only at hq hsc
    subst hq hsc
    obtain ⟨x, h0, hx, q⟩ := rd_WrongKindinit T.ke vs H Q E h
    exact ⟨x, a_WrongKindinit K, t_WrongKindinit K, h0, hx, pa_cons (pe_joined (.cons pe_str (.cons (pe_fmt (pv 1)) (.cons pe_str (.cons (pe_fmt (pv 2)) (.cons pe_str .nil)))))) pa_nil, (pss_cons (ps_ost (pv 0) (pv 1))
      (pss_one (ps_ost (pv 0) (pv 2)))), q⟩) (fun _ => rfl) (fun _ => rfl) (fun _ => ⟨_, rfl⟩)
theorem ok_FactFailsinit {P : Program} {w : World} {K : PySem.W.Frag} {mg : Str → Option Value} {base : Heap} (T : Tx P K mg) : FnOk P w K mg base (L2.CX P w) 1 (iA K "FactFails") T.fd_FactFailsinit pr_FactFailsinit (sp_FactFailsinit K) :=
  sup_fn (N := ["self", "line", "__class__"]) (k := 0) T.u_FactFails.F (NdefX.nscope_by (by decide +kernel)) rfl rfl (by decide) rfl ln_FactFailsinit (fun F A outer s H vs Q E hq hsc hr h => by
    obtain ⟨nmF, qlF, prF, bdF, scF, clF, cdF⟩ := F
    dsimp only at hq hsc
    subst hq hsc
    obtain ⟨x, h0, hx, q⟩ := rd_FactFailsinit T.ke vs H Q E h
    exact ⟨x, a_FactFailsinit K, t_FactFailsinit K, h0, hx, pa_cons (pe_joined (.cons pe_str (.cons (pe_fmt (pv 1)) (.cons pe_str .nil)))) pa_nil, (pss_one (ps_ost (pv 0) (pv 1))), q⟩) (fun _ => rfl) (fun _ => rfl) (fun _ => ⟨_, rfl⟩)
theorem ok_Brokeninit {P : Program} {w : World} {K : PySem.W.Frag} {mg : Str → Option Value} {base : Heap} (T : Tx P K mg) : FnOk P w K mg base (L2.CX P w) 1 (iA K "Broken") T.fd_Brokeninit pr_Brokeninit (sp_Brokeninit K) :=
  sup_fn (N := ["self", "fault", "line", "__class__"]) (k := 0) T.u_Broken.F (NdefX.nscope_by (by decide +kernel)) rfl rfl (by decide) rfl ln_Brokeninit (fun F A outer s H vs Q E hq hsc hr h => by
    obtain ⟨nmF, qlF, prF, bdF, scF, clF, cdF⟩ := F
    dsimp only at hq hsc
    subst hq hsc
    obtain ⟨x, h0, hx, q⟩ := rd_Brokeninit T.ke vs H Q E h
    exact ⟨x, a_Brokeninit K, t_Brokeninit K, h0, hx, pa_cons (pe_joined (.cons pe_str (.cons (pe_fmt (pv 2)) (.cons pe_str (.cons (pe_fmt (pv 1)) .nil))))) pa_nil, (pss_cons (ps_ost (pv 0) (pv 1))
      (pss_one (ps_ost (pv 0) (pv 2)))), q⟩) (fun _ => rfl) (fun _ => rfl) (fun _ => ⟨_, rfl⟩)
theorem ok_NeverGiveninit {P : Program} {w : World} {K : PySem.W.Frag} {mg : Str → Option Value} {base : Heap} (T : Tx P K mg) : FnOk P w K mg base (L2.CX P w) 1 (iA K "NeverGiven") T.fd_NeverGiveninit pr_NeverGiveninit (sp_NeverGiveninit K) :=
  sup_fn (N := ["self", "__class__"]) (k := 0) T.u_NeverGiven.F (NdefX.nscope_by (by decide +kernel)) rfl rfl (by decide) rfl ln_NeverGiveninit (fun F A outer s H vs Q E hq hsc hr h => by
    obtain ⟨x, rfl, hx, q⟩ := h
    exact ⟨x, _, _, rfl, hx, pa_cons pe_str pa_nil, pss_nil, ⟨by show 1 ≤ 1000; decide, hx, q⟩⟩) (fun _ => rfl) (fun _ => rfl) (fun _ => ⟨_, rfl⟩)
theorem ok_Breaksinit {P : Program} {w : World} {K : PySem.W.Frag} {mg : Str → Option Value} {base : Heap} (T : Tx P K mg) : FnOk P w K mg base (L2.CX P w) 1 (iA K "Breaks") T.fd_Breaksinit pr_Breaksinit (sp_Breaksinit K) :=
  sup_fn (N := ["self", "mesh", "halves", "__class__"]) (k := 0) T.u_Breaks.F (NdefX.nscope_by (by decide +kernel)) rfl rfl (by decide) rfl ln_Breaksinit (fun F A outer s H vs Q E hq hsc hr h => by
    obtain ⟨nmF, qlF, prF, bdF, scF, clF, cdF⟩ := F
    dsimp only at hq hsc
    subst hq hsc
    obtain ⟨x, h0, hx, q⟩ := rd_Breaksinit T.ke vs H Q E h
    exact ⟨x, a_Breaksinit K, t_Breaksinit K, h0, hx, pa_cons pe_str pa_nil, (pss_cons (ps_ost (pv 0) (pv 1))
      (pss_one (ps_ost (pv 0) (pe_callTy call_list_of (by rfl) T.n_list (by decide +kernel) (pa_cons (pv 2) pa_nil))))), q⟩) (fun _ => rfl) (fun _ => rfl) (fun _ => ⟨_, rfl⟩)
theorem ok_UnknownDeedinit {P : Program} {w : World} {K : PySem.W.Frag} {mg : Str → Option Value} {base : Heap} (T : Tx P K mg) : FnOk P w K mg base (L2.CX P w) 1 (iA K "UnknownDeed") T.fd_UnknownDeedinit pr_UnknownDeedinit (sp_UnknownDeedinit K) :=
  sup_fn (N := ["self", "name", "__class__"]) (k := 0) T.u_UnknownDeed.F (NdefX.nscope_by (by decide +kernel)) rfl rfl (by decide) rfl ln_UnknownDeedinit (fun F A outer s H vs Q E hq hsc hr h => by
    obtain ⟨nmF, qlF, prF, bdF, scF, clF, cdF⟩ := F
    dsimp only at hq hsc
    subst hq hsc
    obtain ⟨x, h0, hx, q⟩ := rd_UnknownDeedinit T.ke vs H Q E h
    exact ⟨x, a_UnknownDeedinit K, t_UnknownDeedinit K, h0, hx, pa_cons (pe_joined (.cons pe_str (.cons (pe_fmt (pv 1)) .nil))) pa_nil, (pss_one (ps_ost (pv 0) (pv 1))), q⟩) (fun _ => rfl) (fun _ => rfl) (fun _ => ⟨_, rfl⟩)
theorem ok_UnknownMarkinit {P : Program} {w : World} {K : PySem.W.Frag} {mg : Str → Option Value} {base : Heap} (T : Tx P K mg) : FnOk P w K mg base (L2.CX P w) 1 (iA K "UnknownMark") T.fd_UnknownMarkinit pr_UnknownMarkinit (sp_UnknownMarkinit K) :=
  sup_fn (N := ["self", "name", "__class__"]) (k := 0) T.u_UnknownMark.F (NdefX.nscope_by (by decide +kernel)) rfl rfl (by decide) rfl ln_UnknownMarkinit (fun F A outer s H vs Q E hq hsc hr h => by
    obtain ⟨nmF, qlF, prF, bdF, scF, clF, cdF⟩ := F
    dsimp only at hq hsc
    subst hq hsc
    obtain ⟨x, h0, hx, q⟩ := rd_UnknownMarkinit T.ke vs H Q E h
    exact ⟨x, a_UnknownMarkinit K, t_UnknownMarkinit K, h0, hx, pa_cons (pe_joined (.cons pe_str (.cons (pe_fmt (pv 1)) .nil))) pa_nil, (pss_one (ps_ost (pv 0) (pv 1))), q⟩) (fun _ => rfl) (fun _ => rfl) (fun _ => ⟨_, rfl⟩)
theorem ok_NothingToUndoinit {P : Program} {w : World} {K : PySem.W.Frag} {mg : Str → Option Value} {base : Heap} (T : Tx P K mg) : FnOk P w K mg base (L2.CX P w) 1 (iA K "NothingToUndo") T.fd_NothingToUndoinit pr_NothingToUndoinit (sp_NothingToUndoinit K) :=
  sup_fn (N := ["self", "__class__"]) (k := 0) T.u_NothingToUndo.F (NdefX.nscope_by (by decide +kernel)) rfl rfl (by decide) rfl ln_NothingToUndoinit (fun F A outer s H vs Q E hq hsc hr h => by
    obtain ⟨x, rfl, hx, q⟩ := h
    exact ⟨x, _, _, rfl, hx, pa_cons pe_str pa_nil, pss_nil, ⟨by show 1 ≤ 1000; decide, hx, q⟩⟩) (fun _ => rfl) (fun _ => rfl) (fun _ => ⟨_, rfl⟩)
theorem ok_isinteger {P : Program} {w : World} {K : PySem.W.Frag} {mg : Str → Option Value} {base : Heap} (T : Tx P K mg) : FnOk P w K mg base (L2.CX P w) 1 (He.ga K "_is_integer") T.fd_isinteger pr_isinteger (sp_isinteger K) := by
  refine T.F_isinteger.ok sc_isinteger ln_isinteger (fun cdv A outer s H vs Q E hr h => ⟨t_isinteger K, PSs.nox ?_, rd_isinteger T.kf vs H Q E h⟩)
  exact (pss_one (ps_ret (pe_and (pe_callB call_isi (by rfl) T.n_isinstance (by decide +kernel) (pa_cons (pv 0) (pa_cons (pe_bltn (v := .ty "int") rfl T.n_int (by decide +kernel) rfl) pa_nil))) (pe_one (pe_not (pe_callB call_isi (by rfl) T.n_isinstance (by decide +kernel) (pa_cons (pv 0) (pa_cons (pe_bltn (v := .ty "bool") rfl T.n_bool (by decide +kernel) rfl) pa_nil))))))))
theorem ok_arehalves {P : Program} {w : World} {K : PySem.W.Frag} {mg : Str → Option Value} {base : Heap} (T : Tx P K mg) : FnOk P w K mg base (L2.CX P w) 2 (He.ga K "are_halves") T.fd_arehalves pr_arehalves (sp_arehalves K) := by
  have G_isinteger := ok_isinteger (P := P) (w := w) (base := base) T
  refine T.F_arehalves.ok sc_arehalves ln_arehalves (fun cdv A outer s H vs Q E hr h => ⟨t_arehalves K, PSs.nox ?_, rd_arehalves T.kf vs H Q E h⟩)
  exact (pss_cons (ps_if (pt_not (pt_val (pe_callB (cr_all rfl) (by rfl) T.n_all (by decide +kernel) (pa_cons (pe_lc (own := [("number", 2)]) (g := gName 2) (tt := tYes) rfl sc_arehalves.nd (pi_list (pv 0)) (blkOk_by (own := [("number", 2)]) (N := nm_arehalves) (sc := defScope s_arehalves) (by decide +kernel)) (fun _ _ _ _ _ => pg_name (i := 2) sc_arehalves.nd rfl (by first | exact Or.inl rfl | exact Or.inr rfl)) (fun _ _ _ _ _ => pts_nil) (fun _ _ _ _ _ => (pe_and (pe_call G_isinteger (hr.mono (by decide)) rfl T.m_isinteger T.F_isinteger.kp T.b_isinteger .nil passL (pa_cons (pv 2) pa_nil)) (pe_one (pe_chain op_le op_lt pe_int (pv 2) (pv 1)))))) pa_nil)))) (pss_one (ps_ret pe_bl)) pss_nil)
      (pss_one (ps_ret (pe_cmpR op_eq (PSetI.pe_lenI rfl (by rfl) T.n_len (by rfl) T.n_set (pv 0)) (pe_callB call_len_seq (by rfl) T.n_len PySem.boot_len (pa_cons (pv 0) pa_nil)) (nomark _)))))
theorem ok_areallhalves {P : Program} {w : World} {K : PySem.W.Frag} {mg : Str → Option Value} {base : Heap} (T : Tx P K mg) : FnOk P w K mg base (L2.CX P w) 3 (He.ga K "_are_all_halves") T.fd_areallhalves pr_areallhalves (sp_areallhalves K) := by
  have G_arehalves := ok_arehalves (P := P) (w := w) (base := base) T
  refine T.F_areallhalves.ok sc_areallhalves ln_areallhalves (fun cdv A outer s H vs Q E hr h => ⟨t_areallhalves K, PSs.nox ?_, rd_areallhalves T.kf vs H Q E h⟩)
  exact (pss_one (ps_ret (pe_and (pe_cmpR op_eq (pe_op op_modN (pe_callB call_len_seq (by rfl) T.n_len PySem.boot_len (pa_cons (pv 0) pa_nil)) pe_int) pe_int (nomark _)) (pe_one (pe_call G_arehalves (hr.mono (by decide)) rfl T.m_arehalves T.F_arehalves.kp T.b_arehalves .nil passL (pa_cons (pv 0) (pa_cons (pe_callB call_len_seq (by rfl) T.n_len PySem.boot_len (pa_cons (pv 0) pa_nil)) pa_nil)))))))
theorem ok_inverse {P : Program} {w : World} {K : PySem.W.Frag} {mg : Str → Option Value} {base : Heap} (T : Tx P K mg) : FnOk P w K mg base (L2.CX P w) 1 (He.ga K "_inverse") T.fd_inverse pr_inverse (sp_inverse K) := by
  refine T.F_inverse.ok sc_inverse ln_inverse (fun cdv A outer s H vs Q E hr h => ⟨t_inverse K, PSs.nox ?_, rd_inverse T.kf vs H Q E h⟩)
  exact (pss_cons (ps_set (i := 1) sc_inverse.nd rfl (Or.inl rfl) (pe_op op_rep (pe_lst (pa_cons pe_int pa_nil)) (pe_callB call_len_seq (by rfl) T.n_len PySem.boot_len (pa_cons (pv 0) pa_nil))))
      (pss_cons (ps_for PassesOwn.never rfl (pi_enum (by rfl) T.n_enumerate (pa_cons (pv 0) pa_nil)) (pg_tup (by rfl) (pgs_cons (pg_name (i := 2) sc_inverse.nd rfl (Or.inl rfl)) (pgs_cons (pg_name (i := 3) sc_inverse.nd rfl (Or.inl rfl)) pgs_nil))) (pss_one (ps_asg (pv 2) (pg_sub (pv 1) (pv 3) set_list))))
      (pss_one (ps_ret (pv 1)))))
theorem ok_Meshinit {P : Program} {w : World} {K : PySem.W.Frag} {mg : Str → Option Value} {base : Heap} (T : Tx P K mg) : FnOk P w K mg base (L2.CX P w) 4 (He.ma K (He.ga K "Mesh") "__init__") T.fd_Meshinit pr_Meshinit (sp_Meshinit K) := by
  have G_NotAMeshinit := ok_NotAMeshinit (P := P) (w := w) (base := base) T
  have G_areallhalves := ok_areallhalves (P := P) (w := w) (base := base) T
  have G_inverse := ok_inverse (P := P) (w := w) (base := base) T
  refine T.F_Meshinit.ok sc_Meshinit ln_Meshinit (fun cdv A outer s H vs Q E hr h => ⟨t_Meshinit K E, ?_, rd_Meshinit T.kf vs H Q E h⟩)
  exact (pss_cons (ps_set (i := 2) sc_Meshinit.nd rfl (Or.inl rfl) (pe_callTy call_list_of (by rfl) T.n_list (by decide +kernel) (pa_cons (pv 1) pa_nil)))
      (pss_cons (ps_if (pt_not (pt_val (pe_call G_areallhalves (hr.mono (by decide)) rfl T.m_areallhalves T.F_areallhalves.kp T.b_areallhalves .nil passL (pa_cons (pv 2) pa_nil)))) (pss_one (ps_raise rfl (takes_of rfl rfl rfl rfl) (pmk_sup0 T.u_NotAMesh.F.oex T.u_NotAMesh.iC T.u_NotAMesh.tI G_NotAMeshinit (hr.mono (by decide)) T.b_NotAMeshinit passL rfl T.m_NotAMesh))) pss_nil)
      (pss_cons (ps_fld (pv 0) (pv 2) rfl)
      (pss_cons (ps_fld (pv 0) (pe_call G_inverse (hr.mono (by decide)) rfl T.m_inverse T.F_inverse.kp T.b_inverse .nil passL (pa_cons (pv 2) pa_nil)) rfl)
      (pss_one (ps_fld (pv 0) (pe_lc (own := [("half", 3)]) (g := gName 3) (tt := tYes) rfl sc_Meshinit.nd (pi_list (pe_fld (pv 0) rfl)) (blkOk_by (own := [("half", 3)]) (N := nm_Meshinit) (sc := defScope s_Meshinit) (by decide +kernel)) (fun _ _ _ _ _ => pg_name (i := 3) sc_Meshinit.nd rfl (by first | exact Or.inl rfl | exact Or.inr rfl)) (fun _ _ _ _ _ => pts_nil) (fun _ _ _ _ _ => (pe_op op_xor (pv 3) pe_int))) rfl))))))
theorem ok_Mesheq {P : Program} {w : World} {K : PySem.W.Frag} {mg : Str → Option Value} {base : Heap} (T : Tx P K mg) : FnOk P w K mg base (L2.CX P w) 1 (He.ma K (He.ga K "Mesh") "__eq__") T.fd_Mesheq pr_Mesheq (sp_Mesheq K) := by
  refine T.F_Mesheq.ok sc_Mesheq ln_Mesheq (fun cdv A outer s H vs Q E hr h => ⟨t_Mesheq K, PSs.nox ?_, rd_Mesheq T.kq vs H Q E h⟩)
  exact (pss_one (ps_ret (pe_and (pe_callB call_isi (by rfl) T.n_isinstance (by decide +kernel) (pa_cons (pv 1) (pa_cons (pe_glob rfl T.m_Mesh rfl) pa_nil))) (pe_one (pe_cmpR (op_eqD hr.units) (pe_fld (pv 0) rfl) (pe_fld (pv 1) rfl) (nomark _))))))
theorem ok_Ltape {P : Program} {w : World} {K : PySem.W.Frag} {mg : Str → Option Value} {base : Heap} (T : Tx P K mg) : FnOk P w K mg base (L2.CX P w) 1 (He.ga K "_law_tape") T.fd_Ltape pr_Ltape (sp_Ltape K) := by
  refine T.F_Ltape.ok sc_Ltape ln_Ltape (fun cdv A outer s H vs Q E hr h => ⟨t_Ltape K, PSs.nox ?_, rd_Ltape T.kf vs H Q E h⟩)
  exact (pss_cons (ps_set (i := 2) sc_Ltape.nd rfl (Or.inl rfl) (pe_ifExp (pt_cmpR op_lt (pv 1) (pe_callB call_len_seq (by rfl) T.n_len PySem.boot_len (pa_cons (pv 0) pa_nil)) (nomark _)) (pe_ix ix_list (pv 0) (pv 1) (fun _ _ => rfl)) pe_int))
      (pss_one (ps_ret (pe_lst (pa_cons (pe_callB call_abs (by rfl) T.n_abs (by decide +kernel) (pa_cons (pv 2) pa_nil)) (pa_cons (pe_op op_add (pe_op op_mul pe_int (pv 1)) pe_int) pa_nil))))))
theorem ok_Lpick {P : Program} {w : World} {K : PySem.W.Frag} {mg : Str → Option Value} {base : Heap} (T : Tx P K mg) : FnOk P w K mg base (L2.CX P w) 1 (He.ga K "_law_pick") T.fd_Lpick pr_Lpick (sp_Lpick K) := by
  refine T.F_Lpick.ok sc_Lpick ln_Lpick (fun cdv A outer s H vs Q E hr h => ⟨t_Lpick K, PSs.nox ?_, rd_Lpick T.kf vs H Q E h⟩)
  exact (pss_cons (ps_if (pt_cmpR op_ge (pe_ix ix_list (pv 0) pe_int (fun _ _ => rfl)) (pe_op op_pow pe_int pe_int) (nomark _)) (pss_cons (ps_set (i := 2) sc_Lpick.nd rfl (Or.inl rfl) (pe_op op_modN (pe_callTy call_int1 (by rfl) T.n_int (by decide +kernel) (pa_cons (pe_ix ix_list (pv 0) pe_int (fun _ _ => rfl)) pa_nil)) (pv 1)))
      (pss_cons (ps_asg (pe_op op_fdivN (pe_ix ix_list (pv 0) pe_int (fun _ _ => rfl)) (pv 1)) (pg_sub (pv 0) pe_int set_list))
      (pss_one (ps_ret (pv 2))))) pss_nil)
      (pss_cons (ps_asg (pe_op op_modN (pe_callTy call_int1 (by rfl) T.n_int (by decide +kernel) (pa_cons (pe_op op_add (pe_op op_add (pe_op op_mul (pe_ix ix_list (pv 0) pe_int (fun _ _ => rfl)) pe_int) (pe_op op_mul (pe_ix ix_list (pv 0) pe_int (fun _ _ => rfl)) pe_int)) pe_int) pa_nil)) pe_int) (pg_sub (pv 0) pe_int set_list))
      (pss_cons (ps_set (i := 3) sc_Lpick.nd rfl (Or.inl rfl) (pe_op op_modN (pe_callTy call_int1 (by rfl) T.n_int (by decide +kernel) (pa_cons (pe_op op_add (pe_op op_add (pe_op op_mul (pe_ix ix_list (pv 0) pe_int (fun _ _ => rfl)) (pe_ix ix_list (pv 0) pe_int (fun _ _ => rfl))) (pe_op op_mul (pe_ix ix_list (pv 0) pe_int (fun _ _ => rfl)) pe_int)) pe_int) pa_nil)) pe_int))
      (pss_one (ps_ret (pe_op op_modN (pe_callTy call_int1 (by rfl) T.n_int (by decide +kernel) (pa_cons (pe_op op_fdivN (pv 3) pe_int) pa_nil)) (pv 1)))))))
theorem ok_Lkinds {P : Program} {w : World} {K : PySem.W.Frag} {mg : Str → Option Value} {base : Heap} (T : Tx P K mg) : FnOk P w K mg base (L2.CX P w) 1 (He.ga K "_law_kinds") T.fd_Lkinds pr_Lkinds (sp_Lkinds K) := by
  refine T.F_Lkinds.ok sc_Lkinds ln_Lkinds (fun cdv A outer s H vs Q E hr h => ⟨t_Lkinds K, PSs.nox ?_, rd_Lkinds T.ke vs H Q E h⟩)
  exact (pss_cons (ps_set (i := 1) sc_Lkinds.nd rfl (Or.inl rfl) (pe_lst (pa_cons (pe_callB call_isErr (by rfl) T.n_isinstance (by decide +kernel) (pa_cons (pv 0) (pa_cons (pe_glob rfl T.m_NotAMesh rfl) pa_nil))) (pa_cons (pe_callB call_isErr (by rfl) T.n_isinstance (by decide +kernel) (pa_cons (pv 0) (pa_cons (pe_glob rfl T.m_BadLine rfl) pa_nil))) (pa_cons (pe_callB call_isErr (by rfl) T.n_isinstance (by decide +kernel) (pa_cons (pv 0) (pa_cons (pe_glob rfl T.m_UnknownName rfl) pa_nil))) (pa_cons (pe_callB call_isErr (by rfl) T.n_isinstance (by decide +kernel) (pa_cons (pv 0) (pa_cons (pe_glob rfl T.m_WrongKind rfl) pa_nil))) pa_nil))))))
      (pss_cons (ps_set (i := 1) sc_Lkinds.nd rfl (Or.inl rfl) (pe_op op_cat (pv 1) (pe_lst (pa_cons (pe_callB call_isErr (by rfl) T.n_isinstance (by decide +kernel) (pa_cons (pv 0) (pa_cons (pe_glob rfl T.m_FactFails rfl) pa_nil))) (pa_cons (pe_callB call_isErr (by rfl) T.n_isinstance (by decide +kernel) (pa_cons (pv 0) (pa_cons (pe_glob rfl T.m_Broken rfl) pa_nil))) (pa_cons (pe_callB call_isErr (by rfl) T.n_isinstance (by decide +kernel) (pa_cons (pv 0) (pa_cons (pe_glob rfl T.m_NeverGiven rfl) pa_nil))) (pa_cons (pe_callB call_isErr (by rfl) T.n_isinstance (by decide +kernel) (pa_cons (pv 0) (pa_cons (pe_glob rfl T.m_Breaks rfl) pa_nil))) pa_nil)))))))
      (pss_one (ps_ret (pe_op op_cat (pv 1) (pe_lst (pa_cons (pe_callB call_isErr (by rfl) T.n_isinstance (by decide +kernel) (pa_cons (pv 0) (pa_cons (pe_glob rfl T.m_UnknownDeed rfl) pa_nil))) (pa_cons (pe_callB call_isErr (by rfl) T.n_isinstance (by decide +kernel) (pa_cons (pv 0) (pa_cons (pe_glob rfl T.m_UnknownMark rfl) pa_nil))) (pa_cons (pe_callB call_isErr (by rfl) T.n_isinstance (by decide +kernel) (pa_cons (pv 0) (pa_cons (pe_glob rfl T.m_NothingToUndo rfl) pa_nil))) pa_nil)))))))))
theorem ok_Lright {P : Program} {w : World} {K : PySem.W.Frag} {mg : Str → Option Value} {base : Heap} (T : Tx P K mg) : FnOk P w K mg base (L2.CX P w) 2 (He.ga K "_law_right") T.fd_Lright pr_Lright (sp_Lright K) := by
  have G_Lkinds := ok_Lkinds (P := P) (w := w) (base := base) T
  refine T.F_Lright.ok sc_Lright ln_Lright (fun cdv A outer s H vs Q E hr h => ⟨t_Lright K, PSs.nox ?_, rd_Lright T.ke vs H Q E h⟩)
  exact (pss_cons (ps_setLc (i := 2) (own := [("_law_k", 3)]) (g := gName 3) (tt := tYes) rfl sc_Lright.nd rfl rfl (sw_true rfl rfl rfl (by decide +kernel)) (pi_range1 (by rfl) T.n_range (pa_cons pe_int pa_nil)) (blkOk_by (own := [("_law_k", 3)]) (N := nm_Lright) (sc := defScope s_Lright) (by decide +kernel)) (fun _ _ _ _ _ => pg_name (i := 3) sc_Lright.nd rfl (by first | exact Or.inl rfl | exact Or.inr rfl)) (fun _ _ _ _ _ => pts_nil) (fun _ _ _ _ _ => (pe_cmpR op_eq (pv 3) (pv 1) (nomark _))))
      (pss_one (ps_ret (pe_and (pe_cmpR (op_eqD hr.units) (pe_call G_Lkinds (hr.mono (by decide)) rfl T.m_Lkinds T.F_Lkinds.kp T.b_Lkinds .nil passL (pa_cons (pv 0) pa_nil)) (pv 2) (nomark _)) (pe_and (pe_callB call_isErr (by rfl) T.n_isinstance (by decide +kernel) (pa_cons (pv 0) (pa_cons (pe_glob rfl T.m_MeshError rfl) pa_nil))) (pe_one (pe_callB call_isErr (by rfl) T.n_isinstance (by decide +kernel) (pa_cons (pv 0) (pa_cons (pe_bltn (v := .ty "ValueError") rfl T.n_ValueError (by decide +kernel) rfl) pa_nil)))))))))
theorem ok_law {P : Program} {w : World} {K : PySem.W.Frag} {mg : Str → Option Value} {base : Heap} (T : Tx P K mg) : FnOk P w K mg base CX0 6 (He.ga K "law") T.fd_law pr_law (sp_law K) := by
  have G_BadLineinit := ok_BadLineinit (P := P) (w := w) (base := base) T
  have G_Breaksinit := ok_Breaksinit (P := P) (w := w) (base := base) T
  have G_Brokeninit := ok_Brokeninit (P := P) (w := w) (base := base) T
  have G_FactFailsinit := ok_FactFailsinit (P := P) (w := w) (base := base) T
  have G_Mesheq := ok_Mesheq (P := P) (w := w) (base := base) T
  have G_Meshinit := ok_Meshinit (P := P) (w := w) (base := base) T
  have G_NeverGiveninit := ok_NeverGiveninit (P := P) (w := w) (base := base) T
  have G_NotAMeshinit := ok_NotAMeshinit (P := P) (w := w) (base := base) T
  have G_NothingToUndoinit := ok_NothingToUndoinit (P := P) (w := w) (base := base) T
  have G_UnknownDeedinit := ok_UnknownDeedinit (P := P) (w := w) (base := base) T
  have G_UnknownMarkinit := ok_UnknownMarkinit (P := P) (w := w) (base := base) T
  have G_UnknownNameinit := ok_UnknownNameinit (P := P) (w := w) (base := base) T
  have G_WrongKindinit := ok_WrongKindinit (P := P) (w := w) (base := base) T
  have G_Lpick := ok_Lpick (P := P) (w := w) (base := base) T
  have G_Lright := ok_Lright (P := P) (w := w) (base := base) T
  have G_Ltape := ok_Ltape (P := P) (w := w) (base := base) T
  refine T.F_law.ok sc_law ln_law (fun cdv A outer s H vs Q E hr h => ⟨t_law K, PSs.nox ?_, rd_law T.ke vs H Q E h⟩)
  exact (pss_cons (ps_set (i := 1) sc_law.nd rfl (Or.inl rfl) (pe_call G_Ltape (hr.mono (by decide)) rfl T.m_Ltape T.F_Ltape.kp T.b_Ltape .nil passL (pa_cons (pv 0) (pa_cons pe_int pa_nil))))
      (pss_cons (ps_set (i := 2) sc_law.nd rfl (Or.inl rfl) (pe_call G_Lpick (hr.mono (by decide)) rfl T.m_Lpick T.F_Lpick.kp T.b_Lpick .nil passL (pa_cons (pv 1) (pa_cons (pe_op op_pow pe_int pe_int) pa_nil))))
      (pss_cons (ps_set (i := 3) sc_law.nd rfl (Or.inl rfl) (pe_slice sl_str pe_str po_none (po_some (pe_op op_add pe_int (pe_call G_Lpick (hr.mono (by decide)) rfl T.m_Lpick T.F_Lpick.kp T.b_Lpick .nil passL (pa_cons (pv 1) (pa_cons pe_int pa_nil)))))))
      (pss_cons (ps_set (i := 4) sc_law.nd rfl (Or.inl rfl) (pe_make T.mk_Mesh G_Meshinit (hr.mono (by decide)) rfl T.m_Mesh T.b_Meshinit .nil passL (pa_cons (pe_ix ix_list (pe_lst (pa_cons (pe_lst (pa_cons pe_int (pa_cons pe_int pa_nil))) (pa_cons (pe_lst (pa_cons pe_int (pa_cons pe_int pa_nil))) (pa_cons (pe_lst (pa_cons pe_int (pa_cons pe_int (pa_cons pe_int (pa_cons pe_int pa_nil))))) pa_nil)))) (pe_call G_Lpick (hr.mono (by decide)) rfl T.m_Lpick T.F_Lpick.kp T.b_Lpick .nil passL (pa_cons (pv 1) (pa_cons pe_int pa_nil))) (fun _ _ => rfl)) pa_nil)))
      (pss_cons (ps_set (i := 5) sc_law.nd rfl (Or.inl rfl) (pe_slice sl_list (pe_lst (pa_cons (pe_call G_Lpick (hr.mono (by decide)) rfl T.m_Lpick T.F_Lpick.kp T.b_Lpick .nil passL (pa_cons (pv 1) (pa_cons pe_int pa_nil))) (pa_cons (pe_call G_Lpick (hr.mono (by decide)) rfl T.m_Lpick T.F_Lpick.kp T.b_Lpick .nil passL (pa_cons (pv 1) (pa_cons pe_int pa_nil))) pa_nil))) po_none (po_some (pe_op op_add pe_int (pe_call G_Lpick (hr.mono (by decide)) rfl T.m_Lpick T.F_Lpick.kp T.b_Lpick .nil passL (pa_cons (pv 1) (pa_cons pe_int pa_nil)))))))
      (pss_cons (ps_setLc (i := 6) (own := [("_law_spot", 11)]) (g := gName 11) (tt := tYes) rfl sc_law.nd rfl rfl (sw_true rfl rfl rfl (by decide +kernel)) (pi_list (pv 5)) (blkOk_by (own := [("_law_spot", 11)]) (N := nm_law) (sc := defScope s_law) (by decide +kernel)) (fun _ _ _ _ _ => pg_name (i := 11) sc_law.nd rfl (by first | exact Or.inl rfl | exact Or.inr rfl)) (fun _ _ _ _ _ => pts_nil) (fun _ _ _ _ _ => (pv 11)))
      (pss_cons (ps_if (PW.pt (pw_or (pt_not (pt_val (pe_call G_Lright (hr.mono (by decide)) rfl T.m_Lright T.F_Lright.kp T.b_Lright .nil passL (pa_cons (pe_mkE0 T.u_NotAMesh.F.oex T.u_NotAMesh.iC T.u_NotAMesh.tI G_NotAMeshinit (hr.mono (by decide)) rfl T.m_NotAMesh T.kp_NotAMesh passL) (pa_cons pe_int pa_nil))))) (pw_or (pt_not (pt_val (pe_call G_Lright (hr.mono (by decide)) rfl T.m_Lright T.F_Lright.kp T.b_Lright .nil passL (pa_cons (pe_mkE0 T.u_NeverGiven.F.oex T.u_NeverGiven.iC T.u_NeverGiven.tI G_NeverGiveninit (hr.mono (by decide)) rfl T.m_NeverGiven T.kp_NeverGiven passL) (pa_cons pe_int pa_nil))))) (pw_or1 (pt_not (pt_val (pe_call G_Lright (hr.mono (by decide)) rfl T.m_Lright T.F_Lright.kp T.b_Lright .nil passL (pa_cons (pe_mkE0 T.u_NothingToUndo.F.oex T.u_NothingToUndo.iC T.u_NothingToUndo.tI G_NothingToUndoinit (hr.mono (by decide)) rfl T.m_NothingToUndo T.kp_NothingToUndo passL) (pa_cons pe_int pa_nil))))))))) (pss_one (ps_ret pe_bl)) pss_nil)
      (pss_cons (ps_set (i := 7) sc_law.nd rfl (Or.inl rfl) (pe_lst (pa_cons (pe_mkE (n := 1) (by decide) T.u_BadLine.F.oex T.u_BadLine.iC T.u_BadLine.tI G_BadLineinit (hr.mono (by decide)) rfl T.m_BadLine T.kp_BadLine passL (pa_cons (pv 2) pa_nil)) (pa_cons (pe_mkEK (ks := ["line"]) T.u_BadLine.F.oex T.u_BadLine.iC T.u_BadLine.tI G_BadLineinit (hr.mono (by decide)) rfl T.m_BadLine T.kk_BadLine passL (pk_cons (pv 2) pk_nil)) (pa_cons (pe_mkE (n := 2) (by decide) T.u_UnknownName.F.oex T.u_UnknownName.iC T.u_UnknownName.tI G_UnknownNameinit (hr.mono (by decide)) rfl T.m_UnknownName T.kp_UnknownName passL (pa_cons (pv 2) (pa_cons (pv 3) pa_nil))) (pa_cons (pe_mkEK (ks := ["name", "line"]) T.u_UnknownName.F.oex T.u_UnknownName.iC T.u_UnknownName.tI G_UnknownNameinit (hr.mono (by decide)) rfl T.m_UnknownName T.kk_UnknownName passL (pk_cons (pv 3) (pk_cons (pv 2) pk_nil))) pa_nil))))))
      (pss_cons (ps_set (i := 7) sc_law.nd rfl (Or.inl rfl) (pe_op op_cat (pv 7) (pe_lst (pa_cons (pe_mkE (n := 2) (by decide) T.u_WrongKind.F.oex T.u_WrongKind.iC T.u_WrongKind.tI G_WrongKindinit (hr.mono (by decide)) rfl T.m_WrongKind T.kp_WrongKind passL (pa_cons (pv 2) (pa_cons (pv 3) pa_nil))) (pa_cons (pe_mkEK (ks := ["name", "line"]) T.u_WrongKind.F.oex T.u_WrongKind.iC T.u_WrongKind.tI G_WrongKindinit (hr.mono (by decide)) rfl T.m_WrongKind T.kk_WrongKind passL (pk_cons (pv 3) (pk_cons (pv 2) pk_nil))) (pa_cons (pe_mkE (n := 1) (by decide) T.u_FactFails.F.oex T.u_FactFails.iC T.u_FactFails.tI G_FactFailsinit (hr.mono (by decide)) rfl T.m_FactFails T.kp_FactFails passL (pa_cons (pv 2) pa_nil)) pa_nil))))))
      (pss_cons (ps_set (i := 7) sc_law.nd rfl (Or.inl rfl) (pe_op op_cat (pv 7) (pe_lst (pa_cons (pe_mkEK (ks := ["line"]) T.u_FactFails.F.oex T.u_FactFails.iC T.u_FactFails.tI G_FactFailsinit (hr.mono (by decide)) rfl T.m_FactFails T.kk_FactFails passL (pk_cons (pv 2) pk_nil)) (pa_cons (pe_mkE (n := 2) (by decide) T.u_Broken.F.oex T.u_Broken.iC T.u_Broken.tI G_Brokeninit (hr.mono (by decide)) rfl T.m_Broken T.kp_Broken passL (pa_cons (pv 3) (pa_cons (pv 2) pa_nil))) (pa_cons (pe_mkEK (ks := ["line", "fault"]) T.u_Broken.F.oex T.u_Broken.iC T.u_Broken.tI G_Brokeninit (hr.mono (by decide)) rfl T.m_Broken T.kk_Broken passL (pk_cons (pv 2) (pk_cons (pv 3) pk_nil))) pa_nil))))))
      (pss_cons (ps_for PassesOwn.never rfl (pi_range1 (by rfl) T.n_range (pa_cons pe_int pa_nil)) (pg_name (i := 8) sc_law.nd rfl (Or.inl rfl)) (pss_one (ps_if (PW.pt (pw_or (pt_not (pt_val (pe_call G_Lright (hr.mono (by decide)) rfl T.m_Lright T.F_Lright.kp T.b_Lright .nil passL (pa_cons (pe_ix ix_list (pv 7) (pv 8) (fun _ _ => rfl)) (pa_cons (pe_op op_add pe_int (pe_callTy call_int1 (by rfl) T.n_int (by decide +kernel) (pa_cons (pe_op op_fdivN (pv 8) pe_int) pa_nil))) pa_nil))))) (pw_or1 (pt_cmpR op_ne (pe_erF (pe_ix ix_list (pv 7) (pv 8) (fun _ _ => rfl))) (pv 2) (nomark _))))) (pss_one (ps_ret pe_bl)) pss_nil)))
      (pss_cons (ps_for PassesOwn.never rfl (pi_range2 (by rfl) T.n_range (pa_cons pe_int (pa_cons pe_int pa_nil))) (pg_name (i := 8) sc_law.nd rfl (Or.inl rfl)) (pss_one (ps_if (pt_cmpR op_ne (pe_erF (pe_ix ix_list (pv 7) (pv 8) (fun _ _ => rfl))) (pv 3) (nomark _)) (pss_one (ps_ret pe_bl)) pss_nil)))
      (pss_cons (ps_set (i := 9) sc_law.nd rfl (Or.inl rfl) (pe_lst (pa_cons (pe_mkE (n := 1) (by decide) T.u_UnknownDeed.F.oex T.u_UnknownDeed.iC T.u_UnknownDeed.tI G_UnknownDeedinit (hr.mono (by decide)) rfl T.m_UnknownDeed T.kp_UnknownDeed passL (pa_cons (pv 3) pa_nil)) (pa_cons (pe_mkEK (ks := ["name"]) T.u_UnknownDeed.F.oex T.u_UnknownDeed.iC T.u_UnknownDeed.tI G_UnknownDeedinit (hr.mono (by decide)) rfl T.m_UnknownDeed T.kk_UnknownDeed passL (pk_cons (pv 3) pk_nil)) (pa_cons (pe_mkE (n := 1) (by decide) T.u_UnknownMark.F.oex T.u_UnknownMark.iC T.u_UnknownMark.tI G_UnknownMarkinit (hr.mono (by decide)) rfl T.m_UnknownMark T.kp_UnknownMark passL (pa_cons (pv 3) pa_nil)) (pa_cons (pe_mkEK (ks := ["name"]) T.u_UnknownMark.F.oex T.u_UnknownMark.iC T.u_UnknownMark.tI G_UnknownMarkinit (hr.mono (by decide)) rfl T.m_UnknownMark T.kk_UnknownMark passL (pk_cons (pv 3) pk_nil)) pa_nil))))))
      (pss_cons (ps_for PassesOwn.never rfl (pi_range1 (by rfl) T.n_range (pa_cons pe_int pa_nil)) (pg_name (i := 8) sc_law.nd rfl (Or.inl rfl)) (pss_one (ps_if (PW.pt (pw_or (pt_not (pt_val (pe_call G_Lright (hr.mono (by decide)) rfl T.m_Lright T.F_Lright.kp T.b_Lright .nil passL (pa_cons (pe_ix ix_list (pv 9) (pv 8) (fun _ _ => rfl)) (pa_cons (pe_op op_add pe_int (pe_callTy call_int1 (by rfl) T.n_int (by decide +kernel) (pa_cons (pe_op op_fdivN (pv 8) pe_int) pa_nil))) pa_nil))))) (pw_or1 (pt_cmpR op_ne (pe_erF (pe_ix ix_list (pv 9) (pv 8) (fun _ _ => rfl))) (pv 3) (nomark _))))) (pss_one (ps_ret pe_bl)) pss_nil)))
      (pss_cons (ps_set (i := 10) sc_law.nd rfl (Or.inl rfl) (pe_lst (pa_cons (pe_mkE (n := 2) (by decide) T.u_Breaks.F.oex T.u_Breaks.iC T.u_Breaks.tI G_Breaksinit (hr.mono (by decide)) rfl T.m_Breaks T.kp_Breaks passL (pa_cons (pv 4) (pa_cons (pv 5) pa_nil))) (pa_cons (pe_mkEK (ks := ["halves", "mesh"]) T.u_Breaks.F.oex T.u_Breaks.iC T.u_Breaks.tI G_Breaksinit (hr.mono (by decide)) rfl T.m_Breaks T.kk_Breaks passL (pk_cons (pv 5) (pk_cons (pv 4) pk_nil))) pa_nil))))
      (pss_cons (ps_expr (pe_bm PySem.F.plainAttrs_list PySem.F.slot_list_append PySem.F.type_list_append mt_append (pv 5) (pa_cons pe_int pa_nil)))
      (pss_cons (ps_for PassesOwn.never rfl (pi_range1 (by rfl) T.n_range (pa_cons pe_int pa_nil)) (pg_name (i := 8) sc_law.nd rfl (Or.inl rfl)) (pss_one (ps_if (PW.pt (pw_or (pt_not (pt_val (pe_call G_Lright (hr.mono (by decide)) rfl T.m_Lright T.F_Lright.kp T.b_Lright .nil passL (pa_cons (pe_ix ix_list (pv 10) (pv 8) (fun _ _ => rfl)) (pa_cons pe_int pa_nil))))) (pw_or (pt_not (pt_cmpR (op_own_eq (E := E0) G_Mesheq T.me_Mesheq.1 T.me_Mesheq.2 T.b_Mesheq passL (hr.mono (by decide))) (pe_erF (pe_ix ix_list (pv 10) (pv 8) (fun _ _ => rfl))) (pv 4) (nomark _))) (pw_or1 (pt_cmpR (op_neD hr.units) (pe_erF (pe_ix ix_list (pv 10) (pv 8) (fun _ _ => rfl))) (pv 6) (nomark _)))))) (pss_one (ps_ret pe_bl)) pss_nil)))
      (pss_one (ps_ret (pe_and (pe_cmpR op_eq (pe_erF (pe_ix ix_list (pv 7) pe_int (fun _ _ => rfl))) (pv 3) (nomark _)) (pe_one (pe_cmpR op_eq (pe_erF (pe_ix ix_list (pv 7) pe_int (fun _ _ => rfl))) (pv 3) (nomark _)))))))))))))))))))))))
theorem law_ok {P : Program} {w : World} {K : PySem.W.Frag} {h : Heap} {mg : Str → Option Value} {f : Addr} (X : K.In h) (G : h.Ns mainGlobals mg) (hP : PF P) (hf : mg ("law" : Str) = some (.ref f)) (c : SaysS fa fn fx cl fileS K) :
    ∃ fd : FuncData, (∀ (s : Shared) (v : Value), BindsTo s fd ⟨[v], []⟩ [("_law_script", v)]) ∧ ∀ base : Heap, K.In base → base.Ns mainGlobals mg → FnOk P w K mg base CX0 6 f fd ["_law_script"] (sp_law K) := by
  obtain ⟨T⟩ := tx_of hP X G c
  have e : f = He.ga K "law" := by
    have q := hf.symm.trans (He.glo_ok X G (c.d.fact 51 (f := .glo "law") rfl))
    cases q
    rfl
  subst e
  have b := FunD.bindsA (ps := ["_law_script"]) T.F_law fun _ _ _ _ _ _ us hl => match us, hl with | [_], _ => rfl
  exact ⟨T.fd_law, fun s v => b s [v] rfl, fun base _ _ => ok_law T⟩
end K15
open PySem PySem.W PySem.Calls PyProof.Rows
set_option maxRecDepth 100000 in
set_option maxHeartbeats 0 in
theorem PySem.Challenge.cw_halfmeshes_k15_error_classes_holds : PySem.Challenge.rw_halfmeshes_k15_error_classes.Holds := by
  w_on; o_law
  refine HandSHeadRun.head_any (r := OpenLaw.row PySem.Challenge.rw_halfmeshes_k15_error_classes) (q := view (OpenLaw.row PySem.Challenge.rw_halfmeshes_k15_error_classes).prog [26]) (H := K15.hk) (ob := K15.ob) (M := 9000) (loose := K15.lse) (d := HandSHeadRun.topDef (OpenLaw.row PySem.Challenge.rw_halfmeshes_k15_error_classes).prog 26) (kwd := []) K15.ob_hk
    (by kernel_rfl) (fun s => by kernel_rfl) K15.top_run (by kernel_rfl) (by kernel_rfl) (by kernel_rfl) (by rfl) (by first | assumption | decide +kernel) (by decide +kernel) ⟨rfl, rfl, rfl, rfl, rfl, by decide +kernel⟩ ?witness ?theCall
  case witness => w_witness2
  case theCall =>
    refine L2.walk_ofE (l := PySem.Challenge.rw_halfmeshes_k15_error_classes) (n := 63) (k := 6) (x := "_law_script") (CX := L2.CX0) rfl (by decide) (by kernel_rfl) ⟨rfl, by decide, by decide⟩ ?promise (fun _ _ _ _ z => z)
    intro w mg ad hp says G named
    obtain ⟨K, inK, facts⟩ := says
    have named2 : mg ("law" : PySem.Str) = some (.ref ad) := by
      have e : (HandSHeadRun.topDef (OpenLaw.row PySem.Challenge.rw_halfmeshes_k15_error_classes).prog 26).name = ("law" : PySem.Str) := by kernel_rfl
      exact e ▸ named
    obtain ⟨fd, binds, keeps⟩ := K15.law_ok (P := (PySem.Challenge.rw_halfmeshes_k15_error_classes).prog) (w := w) inK G ⟨rfl, by decide +kernel⟩ named2 facts
    exact ⟨K, fd, K15.sp_law K, inK, binds, fun H a zs hl _ hS => ⟨a, zs, rfl, hS, fun _ => rfl⟩, keeps⟩
#print axioms PySem.Challenge.cw_halfmeshes_k15_error_classes_holds
