import PyProof.Rows.All
import Wide.All
import OpenK.AllK
import Wide.FinOn
import KE.KStateDown
import HandS.ForMost
import HandS.More
import HandS.WordsExc
import HandS.Defaults
import HandS.IsInst
import HandS.Sort
import HandS.SortInts
import HandS.Conv
import HandS.Evl
import HandS.HeadHook1
import HandS.HeadHook2
import HandS.Zip
import HandS.Walk
import KE.KExcSuper
import HandS.Exc
import HandS.ExcInit
import HandS.Nested
import HandS.TryOnly
import HandS.ExcOwn
import HandS.ExcIs
import HandS.Dict
import PyProof.DictUpdate
import HandS.DictComp
import HandS.Property
import HandS.Steps
import HandS.Flt
import PyProof.MeetsDict
import PyProof.DictValues
import KE.KDictList
import HandS.WordsDict
import HandS.Deep
import HandS.Head0
import HandS.Head1
import HandS.Head2
import HandS.HeadEnd
import PySem.Challenge.RW_halfmeshes_k22_renamings
set_option Elab.async false
set_option linter.all false
set_option maxRecDepth 100000
set_option maxHeartbeats 0
/-! Mathematics of permutations of the numbers below N, their rounds. Own work of the verifier. -/
namespace Hm

/-- f maps the numbers below N to such, different ones to different ones -/
structure Pf (f : Nat → Nat) (N : Nat) : Prop where
  lt : ∀ x, x < N → f x < N
  inj : ∀ x y, x < N → y < N → f x = f y → x = y

def itr (f : Nat → Nat) : Nat → Nat → Nat
  | 0, x => x
  | k + 1, x => f (itr f k x)

theorem itr_succ' (f : Nat → Nat) (k x : Nat) : itr f (k + 1) x = itr f k (f x) := by
  induction k with
  | zero => rfl
  | succ k ih => show f (itr f (k + 1) x) = f (itr f k (f x)); rw [ih]
theorem itr_add (f : Nat → Nat) (a b x : Nat) : itr f (a + b) x = itr f a (itr f b x) := by
  induction a with
  | zero => rw [Nat.zero_add]; rfl
  | succ a ih => rw [Nat.succ_add]; show f (itr f (a + b) x) = f (itr f a (itr f b x)); rw [ih]
theorem itr_lt {f : Nat → Nat} {N : Nat} (P : Pf f N) {x : Nat} (h : x < N) (k : Nat) : itr f k x < N := by
  induction k with
  | zero => exact h
  | succ k ih => exact P.lt _ ih
theorem itr_inj {f : Nat → Nat} {N : Nat} (P : Pf f N) {x y : Nat} (hx : x < N) (hy : y < N) (k : Nat) (e : itr f k x = itr f k y) : x = y := by
  induction k with
  | zero => exact e
  | succ k ih => exact ih (P.inj _ _ (itr_lt P hx k) (itr_lt P hy k) e)

/-- a list without repetition of numbers below N is not longer than N -/
theorem nodup_le : ∀ (N : Nat) (l : List Nat), l.Nodup → (∀ x ∈ l, x < N) → l.length ≤ N
  | 0, l, _, h => by
    cases l with
    | nil => exact Nat.le_refl _
    | cons a r => exact absurd (h a (List.mem_cons_self ..)) (Nat.not_lt_zero _)
  | N + 1, l, hn, h => by
    have h1 := nodup_le N (l.erase N) (hn.erase N) (fun x hx => by
      have h2 := h x (List.mem_of_mem_erase hx)
      have h3 : x ≠ N := fun e => by
        subst e
        exact (hn.not_mem_erase) hx
      omega)
    have h4 : l.length ≤ (l.erase N).length + 1 := by
      rw [List.length_erase]
      split <;> omega
    omega

theorem itr_back {f : Nat → Nat} {N : Nat} (P : Pf f N) {x : Nat} (hx : x < N) {i j : Nat} (hij : i < j) (e : itr f i x = itr f j x) : itr f (j - i) x = x := by
  have h : j = i + (j - i) := by omega
  rw [h, itr_add] at e
  exact (itr_inj P hx (itr_lt P hx _) i e).symm

theorem ret_ex {f : Nat → Nat} {N : Nat} (P : Pf f N) {x : Nat} (hx : x < N) : ∃ k, k < N ∧ itr f (k + 1) x = x := by
  refine Classical.byContradiction fun hno => ?_
  have hno' : ∀ k, k < N → itr f (k + 1) x ≠ x := fun k hk e => hno ⟨k, hk, e⟩
  have hnd : ((List.range (N + 1)).map fun k => itr f k x).Nodup := by
    rw [List.nodup_iff_pairwise_ne, List.pairwise_map]
    refine List.Pairwise.imp_of_mem ?_ List.pairwise_lt_range
    intro a b ha hb hab e
    have hb' := List.mem_range.mp hb
    have e2 := itr_back P hx hab e
    have e3 : b - a = (b - a - 1) + 1 := by omega
    rw [e3] at e2
    exact hno' _ (by omega) e2
  have := nodup_le N _ hnd (fun y hy => by
    obtain ⟨k, _, rfl⟩ := List.mem_map.mp hy
    exact itr_lt P hx k)
  rw [List.length_map, List.length_range] at this
  omega

/-- the number of steps after which x is met again -/
def per (f : Nat → Nat) (N x : Nat) : Nat := ((List.range N).find? fun k => itr f (k + 1) x == x).getD 0 + 1
theorem per_pos (f : Nat → Nat) (N x : Nat) : 0 < per f N x := Nat.succ_pos _
theorem per_spec {f : Nat → Nat} {N : Nat} (P : Pf f N) {x : Nat} (hx : x < N) : itr f (per f N x) x = x ∧ per f N x ≤ N ∧ ∀ k, 0 < k → k < per f N x → itr f k x ≠ x := by
  unfold per
  cases e : (List.range N).find? (fun k => itr f (k + 1) x == x) with
  | none =>
    obtain ⟨k, hk, e2⟩ := ret_ex P hx
    have := List.find?_eq_none.mp e k (List.mem_range.mpr hk)
    rw [e2] at this
    exact absurd (beq_self_eq_true x) this
  | some k =>
    have h1 := List.find?_range_eq_some.mp e
    obtain ⟨h1, h2, h3⟩ := h1
    have h2 := List.mem_range.mp h2
    refine ⟨eq_of_beq h1, h2, fun j hj hjk e2 => ?_⟩
    have hjk : j < k + 1 := hjk
    have := h3 (j - 1) (by omega)
    rw [show j - 1 + 1 = j by omega, e2] at this
    simp at this

/-- the round of x: x, f x, .. -/
def rnd (f : Nat → Nat) (N x : Nat) : List Nat := (List.range (per f N x)).map fun k => itr f k x
theorem mem_rnd {f : Nat → Nat} {N : Nat} (P : Pf f N) {x : Nat} (hx : x < N) {y : Nat} : y ∈ rnd f N x ↔ ∃ k, itr f k x = y := by
  obtain ⟨s1, s2, s3⟩ := per_spec P hx
  constructor
  · intro h
    obtain ⟨k, _, e⟩ := List.mem_map.mp h
    exact ⟨k, e⟩
  · rintro ⟨k, rfl⟩
    have key : ∀ n k, k ≤ n → itr f k x ∈ rnd f N x := by
      intro n
      induction n with
      | zero =>
        intro k hk
        have : k = 0 := by omega
        subst this
        exact List.mem_map.mpr ⟨0, List.mem_range.mpr (per_pos _ _ _), rfl⟩
      | succ n ih =>
        intro k hk
        by_cases h : k < per f N x
        · exact List.mem_map.mpr ⟨k, List.mem_range.mpr h, rfl⟩
        · have e : itr f k x = itr f (k - per f N x) x := by
            have e2 : k = (k - per f N x) + per f N x := by omega
            rw [e2, itr_add, s1, ← e2]
          rw [e]
          have := per_pos f N x
          exact ih _ (by omega)
    exact key k k (Nat.le_refl _)
theorem rnd_lt {f : Nat → Nat} {N : Nat} (P : Pf f N) {x : Nat} (hx : x < N) {y : Nat} (h : y ∈ rnd f N x) : y < N := by
  obtain ⟨k, rfl⟩ := (mem_rnd P hx).mp h
  exact itr_lt P hx k
theorem rnd_symm {f : Nat → Nat} {N : Nat} (P : Pf f N) {x y : Nat} (hx : x < N) (h : y ∈ rnd f N x) : x ∈ rnd f N y := by
  have hy := rnd_lt P hx h
  obtain ⟨k, hk, rfl⟩ := List.mem_map.mp h
  have hk := List.mem_range.mp hk
  refine (mem_rnd P hy).mpr ⟨per f N x - k, ?_⟩
  rw [← itr_add, show per f N x - k + k = per f N x by omega]
  exact (per_spec P hx).1
theorem rnd_trans {f : Nat → Nat} {N : Nat} (P : Pf f N) {x y z : Nat} (hx : x < N) (h : y ∈ rnd f N x) (h2 : z ∈ rnd f N y) : z ∈ rnd f N x := by
  have hy := rnd_lt P hx h
  obtain ⟨k, rfl⟩ := (mem_rnd P hx).mp h
  obtain ⟨j, rfl⟩ := (mem_rnd P hy).mp h2
  exact (mem_rnd P hx).mpr ⟨j + k, itr_add f j k x⟩
theorem rnd_self {f : Nat → Nat} {N : Nat} (P : Pf f N) {x : Nat} (hx : x < N) : x ∈ rnd f N x := (mem_rnd P hx).mpr ⟨0, rfl⟩
theorem rnd_step {f : Nat → Nat} {N : Nat} (P : Pf f N) {x y : Nat} (hx : x < N) (h : y ∈ rnd f N x) : f y ∈ rnd f N x := by
  obtain ⟨k, rfl⟩ := (mem_rnd P hx).mp h
  exact (mem_rnd P hx).mpr ⟨k + 1, rfl⟩
theorem rnd_length (f : Nat → Nat) (N x : Nat) : (rnd f N x).length = per f N x := by
  unfold rnd; rw [List.length_map, List.length_range]
theorem rnd_take_nodup {f : Nat → Nat} {N : Nat} (P : Pf f N) {x : Nat} (hx : x < N) {k : Nat} (hk : k < per f N x) : itr f k x ∉ (List.range k).map fun j => itr f j x := by
  intro h
  obtain ⟨j, hj, e⟩ := List.mem_map.mp h
  have hj := List.mem_range.mp hj
  have e2 := itr_back P hx hj e
  exact (per_spec P hx).2.2 (k - j) (by omega) (by omega) e2
theorem rnd_nodup {f : Nat → Nat} {N : Nat} (P : Pf f N) {x : Nat} (hx : x < N) : (rnd f N x).Nodup := by
  unfold rnd
  rw [List.nodup_iff_pairwise_ne, List.pairwise_map]
  refine List.Pairwise.imp_of_mem ?_ List.pairwise_lt_range
  intro a b ha hb hab e
  have hb' := List.mem_range.mp hb
  have e2 := itr_back P hx hab e
  exact (per_spec P hx).2.2 (b - a) (by omega) (by omega) e2

/-- x is the least of its round -/
def isMin (f : Nat → Nat) (N x : Nat) : Bool := (rnd f N x).all fun y => decide (x ≤ y)
theorem isMin_iff {f : Nat → Nat} {N x : Nat} : isMin f N x = true ↔ ∀ y ∈ rnd f N x, x ≤ y := by
  unfold isMin
  rw [List.all_eq_true]
  exact ⟨fun h y hy => of_decide_eq_true (h y hy), fun h y hy => decide_eq_true (h y hy)⟩
/-- all rounds, by their least members, of the numbers below n -/
def cycs (f : Nat → Nat) (N n : Nat) : List (List Nat) := ((List.range n).filter (isMin f N)).map (rnd f N)
theorem cycs_yes {f : Nat → Nat} {N n : Nat} (h : isMin f N n = true) : cycs f N (n + 1) = cycs f N n ++ [rnd f N n] := by
  unfold cycs
  rw [List.range_succ, List.filter_append, List.map_append, List.filter_cons, if_pos h]
  rfl
theorem cycs_no {f : Nat → Nat} {N n : Nat} (h : ¬ isMin f N n = true) : cycs f N (n + 1) = cycs f N n := by
  unfold cycs
  rw [List.range_succ, List.filter_append, List.map_append, List.filter_cons, if_neg h]
  show _ ++ [] = _
  rw [List.append_nil]
theorem cycs_len (f : Nat → Nat) (N n : Nat) : (cycs f N n).length ≤ n := by
  unfold cycs
  rw [List.length_map]
  have := List.length_filter_le (isMin f N) (List.range n)
  rw [List.length_range] at this
  exact this
/-- y lies in the round of a number below n -/
def Sn (f : Nat → Nat) (N n y : Nat) : Prop := ∃ s, s < n ∧ s < N ∧ y ∈ rnd f N s
theorem sn_iff_notMin {f : Nat → Nat} {N : Nat} (P : Pf f N) {n : Nat} (hn : n < N) : Sn f N n n ↔ ¬ isMin f N n = true := by
  constructor
  · rintro ⟨s, h1, h2, h3⟩ h
    have := isMin_iff.mp h s (rnd_symm P h2 h3)
    omega
  · intro h
    rw [isMin_iff] at h
    refine Classical.byContradiction fun hno => h fun y hy => ?_
    refine Nat.le_of_not_lt fun hlt => hno ⟨y, hlt, rnd_lt P hn hy, rnd_symm P hn hy⟩
theorem sn_back {f : Nat → Nat} {N : Nat} (P : Pf f N) {n y : Nat} (hy : y < N) (h : Sn f N n (f y)) : Sn f N n y := by
  obtain ⟨s, h1, h2, h3⟩ := h
  refine ⟨s, h1, h2, rnd_trans P h2 h3 (rnd_symm P hy ?_)⟩
  exact (mem_rnd P hy).mpr ⟨1, rfl⟩
theorem sn_itr {f : Nat → Nat} {N : Nat} (P : Pf f N) {n x : Nat} (hx : x < N) (h : ¬ Sn f N n x) (k : Nat) : ¬ Sn f N n (itr f k x) := by
  induction k with
  | zero => exact h
  | succ k ih => exact fun q => ih (sn_back P (itr_lt P hx k) q)
theorem sn_succ {f : Nat → Nat} {N n y : Nat} (hn : n < N) : Sn f N (n + 1) y ↔ Sn f N n y ∨ y ∈ rnd f N n := by
  constructor
  · rintro ⟨s, h1, h2, h3⟩
    by_cases e : s = n
    · subst e; exact .inr h3
    · exact .inl ⟨s, by omega, h2, h3⟩
  · rintro (⟨s, h1, h2, h3⟩ | h)
    · exact ⟨s, by omega, h2, h3⟩
    · exact ⟨n, by omega, hn, h⟩

/-! ### lists as maps -/
/-- a list of the numbers below its length, each once -/
structure IsP (ns : List Nat) : Prop where
  perm : ns.Perm (List.range ns.length)
theorem IsP.nodup {ns : List Nat} (h : IsP ns) : ns.Nodup := h.perm.symm.nodup List.nodup_range
theorem IsP.mem {ns : List Nat} (h : IsP ns) {x : Nat} : x ∈ ns ↔ x < ns.length := by
  rw [h.perm.mem_iff, List.mem_range]
def fn (ns : List Nat) (x : Nat) : Nat := ns.getD x 0
theorem fn_get {ns : List Nat} {x : Nat} (h : x < ns.length) : ns[x]? = some (fn ns x) := by
  unfold fn
  rw [List.getD_eq_getElem?_getD, List.getElem?_eq_getElem h]
  rfl
theorem fn_at {ns : List Nat} {x y : Nat} (h : ns[x]? = some y) : fn ns x = y := by
  unfold fn
  rw [List.getD_eq_getElem?_getD, h]
  rfl
theorem fn_mem {ns : List Nat} {x : Nat} (h : x < ns.length) : fn ns x ∈ ns := List.mem_of_getElem? (fn_get h)
theorem pf_fn {ns : List Nat} (h : IsP ns) : Pf (fn ns) ns.length where
  lt := fun x hx => h.mem.mp (fn_mem hx)
  inj := fun x y hx hy e => by
    have h1 := fn_get hx
    have h2 := fn_get hy
    rw [e] at h1
    have hn := h.nodup
    obtain ⟨a1, b1⟩ := List.getElem?_eq_some_iff.mp h1
    obtain ⟨a2, b2⟩ := List.getElem?_eq_some_iff.mp h2
    exact (List.getElem_inj hn).mp (b1.trans b2.symm)
/-- the number whose next is x -/
def bk (ns : List Nat) (x : Nat) : Nat := ns.idxOf x
theorem bk_lt {ns : List Nat} (h : IsP ns) {x : Nat} (hx : x < ns.length) : bk ns x < ns.length := List.idxOf_lt_length_iff.mpr (h.mem.mpr hx)
theorem fn_bk {ns : List Nat} (h : IsP ns) {x : Nat} (hx : x < ns.length) : fn ns (bk ns x) = x := by
  have h1 := fn_get (bk_lt h hx)
  have h2 : ns[bk ns x]'(bk_lt h hx) = x := List.getElem_idxOf (bk_lt h hx)
  rw [List.getElem?_eq_getElem (bk_lt h hx), h2] at h1
  exact (Option.some.inj h1).symm
theorem bk_fn {ns : List Nat} (h : IsP ns) {x : Nat} (hx : x < ns.length) : bk ns (fn ns x) = x :=
  (pf_fn h).inj _ _ (bk_lt h ((pf_fn h).lt x hx)) hx (fn_bk h ((pf_fn h).lt x hx))
def tw (x : Nat) : Nat := if x % 2 = 0 then x + 1 else x - 1
theorem tw_tw (x : Nat) : tw (tw x) = x := by unfold tw; split <;> split <;> omega
theorem tw_lt {x N : Nat} (hN : N % 2 = 0) (h : x < N) : tw x < N := by unfold tw; split <;> omega
theorem tw_inj {x y : Nat} (h : tw x = tw y) : x = y := by rw [← tw_tw x, h, tw_tw]
def prevs (ns : List Nat) : List Nat := (List.range ns.length).map (bk ns)
def turns (ns : List Nat) : List Nat := (prevs ns).map tw
theorem prevs_len (ns : List Nat) : (prevs ns).length = ns.length := by unfold prevs; rw [List.length_map, List.length_range]
theorem turns_len (ns : List Nat) : (turns ns).length = ns.length := by unfold turns; rw [List.length_map, prevs_len]
theorem fn_prevs {ns : List Nat} {x : Nat} (h : x < ns.length) : fn (prevs ns) x = bk ns x := by
  apply fn_at
  unfold prevs
  rw [List.getElem?_map, List.getElem?_range h]
  rfl
theorem fn_turns {ns : List Nat} {x : Nat} (h : x < ns.length) : fn (turns ns) x = tw (bk ns x) := by
  apply fn_at
  unfold turns
  rw [List.getElem?_map, fn_get (by rw [prevs_len]; exact h), fn_prevs h]
  rfl
/-- from a map to its list -/
theorem isP_of {f : Nat → Nat} {N : Nat} (P : Pf f N) : IsP ((List.range N).map f) where
  perm := by
    rw [List.length_map, List.length_range]
    have hnd : ((List.range N).map f).Nodup := by
      rw [List.nodup_iff_pairwise_ne, List.pairwise_map]
      refine List.Pairwise.imp_of_mem ?_ List.pairwise_lt_range
      intro a b ha hb hab e
      have := P.inj _ _ (List.mem_range.mp ha) (List.mem_range.mp hb) e
      omega
    refine (List.perm_ext_iff_of_nodup hnd List.nodup_range).mpr fun x => ?_
    constructor
    · intro h
      obtain ⟨y, hy, rfl⟩ := List.mem_map.mp h
      exact List.mem_range.mpr (P.lt _ (List.mem_range.mp hy))
    · intro h
      have hx := List.mem_range.mp h
      have P' := P
      refine List.mem_map.mpr ⟨itr f (per f N x - 1) x, List.mem_range.mpr (itr_lt P hx _), ?_⟩
      have e := (per_spec P hx).1
      have hp := per_pos f N x
      rw [show per f N x = (per f N x - 1) + 1 by omega] at e
      exact e
theorem isP_prevs {ns : List Nat} (h : IsP ns) : IsP (prevs ns) := isP_of ⟨fun x hx => bk_lt h hx, fun x y hx hy e => by
  rw [← fn_bk h hx, e, fn_bk h hy]⟩
theorem pf_turn {ns : List Nat} (h : IsP ns) (hN : ns.length % 2 = 0) : Pf (fun x => tw (bk ns x)) ns.length where
  lt := fun x hx => tw_lt hN (bk_lt h hx)
  inj := fun x y hx hy e => by
    have e := tw_inj e
    rw [← fn_bk h hx, e, fn_bk h hy]
theorem isP_turns {ns : List Nat} (h : IsP ns) (hN : ns.length % 2 = 0) : IsP (turns ns) := by
  have e : turns ns = (List.range ns.length).map (fun x => tw (bk ns x)) := by
    unfold turns prevs
    rw [List.map_map]
    rfl
  rw [e]
  exact isP_of (pf_turn h hN)
end Hm
namespace Hm
open PySem PySem.Spec PyProof.Rows L2 Evl
/-! ### short names of what operators ask -/
abbrev iI (g : Int → Int → Int) : R2 := rI0 fun i j => .int (g i j)
abbrev iB (g : Int → Int → Bool) : R2 := rI0 fun i j => .bl (g i j)
abbrev zAdd : R2 := iI fun i j => i + j
abbrev zSub : R2 := iI fun i j => i - j
abbrev zMul : R2 := rI CMul fun i j => .int (i * j)
abbrev zDiv : R2 := rI CDivN fun i j => .int (i.fdiv j)
abbrev zMod : R2 := rI (fun _ j => j ≠ 0) fun i j => .int (i.fmod j)
abbrev zPow : R2 := rI CPow fun i j => .int (i ^ j.toNat)
abbrev zXor : R2 := iI fun i j => Builtin.bitXor i j
abbrev zLt : R2 := iB fun i j => decide (i < j)
abbrev zLe : R2 := iB fun i j => decide (i ≤ j)
abbrev zGt : R2 := iB fun i j => decide (j < i)
abbrev zGe : R2 := iB fun i j => decide (j ≤ i)
abbrev zNeg : V → Hp → VK → Prop := rU fun i => .int (-i)
abbrev CR1 := List V → Hp → VK → Prop
abbrev cInt : CR1 := fun vs H K => (∃ i : Int, vs = [V.int i] ∧ K (V.int i) H) ∨ (∃ b : Bool, vs = [V.bl b] ∧ K (V.int (if b then 1 else 0)) H)
abbrev cAbs : CR1 := fun vs H K => ∃ i : Int, vs = [V.int i] ∧ K (V.int (if i < 0 then -i else i)) H
abbrev cLen (F : PySem.W.Frag) : CR1 := fun vs H K => ∃ (p : Addr) (ys : List V), vs = [V.ref p] ∧ (SqL F H p ys ∨ SqT F H p ys) ∧ K (V.int ys.length) H
abbrev cList (F : PySem.W.Frag) : CR1 := fun vs H K => ∃ (p : Addr) (ys : List V), vs = [V.ref p] ∧ (SqL F H p ys ∨ SqT F H p ys) ∧ ∀ l, H l = none → K (V.ref l) (upd H l (.lst ys))
/-- what the written part says of the class Mesh -/
structure KF (K : PySem.W.Frag) : Prop where
  cl : Cls K (He.ga K "Mesh")
  n1 : NoAttr K (He.ga K "Mesh") "_nexts"
  n2 : NoAttr K (He.ga K "Mesh") "_prevs"
  n3 : NoAttr K (He.ga K "Mesh") "_turns"
end Hm
namespace Hm
open PySem PySem.Spec PyProof.Rows L2 Evl
/-! ### lists of numbers as values and as data -/
abbrev vi (n : Nat) : V := .int (n : Int)
def L (ns : List Nat) : List V := ns.map vi
theorem L_len (ns : List Nat) : (L ns).length = ns.length := by unfold L; rw [List.length_map]
theorem L_get {ns : List Nat} {i : Nat} (h : i < ns.length) : (L ns)[i]? = some (vi (fn ns i)) := by
  unfold L
  rw [List.getElem?_map, fn_get h]
  rfl
theorem L_at {ns : List Nat} {i : Nat} (h : i < ns.length) : atI (L ns) ((i : Nat) : Int) = some (vi (fn ns i)) := atI_nat (L_get h)
theorem L_app (a b : List Nat) : L (a ++ b) = L a ++ L b := by unfold L; rw [List.map_append]
theorem L_int (ns : List Nat) : L ns = (ns.map fun n : Nat => (n : Int)).map V.int := by unfold L; rw [List.map_map]; rfl
theorem L_item {ns : List Nat} {i : Nat} {v : V} (h : (L ns)[i]? = some v) : i < ns.length ∧ v = vi (fn ns i) := by
  have h1 : i < ns.length := by
    have := (List.getElem?_eq_some_iff.mp h).1
    rwa [L_len] at this
  rw [L_get h1] at h
  exact ⟨h1, (Option.some.inj h).symm⟩
def dN (ns : List Nat) : PyData := .list (ns.map fun n : Nat => PyData.int (n : Int))
def dNN (xss : List (List Nat)) : PyData := .list (xss.map dN)
theorem dpAll_L {K : PySem.W.Frag} {H : Hp} : ∀ ns : List Nat, DpAll K H (L ns) (ns.map fun n : Nat => PyData.int (n : Int))
  | [] => .nil
  | n :: r => .cons (.int _) (dpAll_L r)
theorem dp_L {K : PySem.W.Frag} {H : Hp} {p : Addr} {ns : List Nat} (h : SqL K H p (L ns)) : Dp K H (.ref p) (dN ns) := Dp.lst h (dpAll_L ns)
theorem lay_ints : ∀ ns : List Nat, PyData.canLayAll0 (ns.map fun n : Nat => PyData.int (n : Int)) = true ∧ PyData.depthAll (ns.map fun n : Nat => PyData.int (n : Int)) = 0
  | [] => ⟨by simp [PyData.canLayAll0], by simp [PyData.depthAll]⟩
  | n :: r => by
    obtain ⟨h1, h2⟩ := lay_ints r
    exact ⟨by simp [PyData.canLayAll0, PyData.canLay0, h1], by simp [PyData.depthAll, PyData.depth, h2]⟩
theorem lay_dN (ns : List Nat) : PyData.canLay0 (dN ns) = true ∧ PyData.depth (dN ns) = 1 := by
  obtain ⟨h1, h2⟩ := lay_ints ns
  unfold dN
  exact ⟨by simp [PyData.canLay0, h1], by simp [PyData.depth, h2]⟩
theorem lay_dNs : ∀ xss : List (List Nat), PyData.canLayAll0 (xss.map dN) = true ∧ PyData.depthAll (xss.map dN) ≤ 1
  | [] => ⟨by simp [PyData.canLayAll0], by simp [PyData.depthAll]⟩
  | n :: r => by
    obtain ⟨h1, h2⟩ := lay_dNs r
    obtain ⟨h3, h4⟩ := lay_dN n
    exact ⟨by simp [PyData.canLayAll0, h1, h3], by simp [PyData.depthAll, h4]; omega⟩
theorem shaped_dN (ns : List Nat) : SeqAt.shaped (dN ns) = true := by
  obtain ⟨h3, h4⟩ := lay_dN ns
  unfold SeqAt.shaped
  rw [h3, h4]
  rfl
theorem shaped_dNN (xss : List (List Nat)) : SeqAt.shaped (dNN xss) = true := by
  obtain ⟨h3, h4⟩ := lay_dNs xss
  unfold SeqAt.shaped dNN
  have e1 : PyData.canLay0 (.list (xss.map dN)) = true := by simp [PyData.canLay0, h3]
  have e2 : PyData.depth (.list (xss.map dN)) ≤ 64 := by simp [PyData.depth]; omega
  rw [e1, decide_eq_true e2]
  rfl
theorem eqv_ints : ∀ ns ms : List Nat, PyData.eqvAll (ns.map fun n : Nat => PyData.int (n : Int)) (ms.map fun n : Nat => PyData.int (n : Int)) = decide (ns = ms)
  | [], [] => by simp [PyData.eqvAll]
  | [], _ :: _ => by simp [PyData.eqvAll]
  | _ :: _, [] => by simp [PyData.eqvAll]
  | n :: r, m :: s => by
    have h := eqv_ints r s
    simp only [List.map_cons, PyData.eqvAll, PyData.eqv, h]
    by_cases e : n = m
    · subst e
      simp
    · have e2 : ((n : Int) == (m : Int)) = false := by
        rw [beq_eq_false_iff_ne]
        omega
      rw [e2]
      simp [e]
theorem eqv_dN (ns ms : List Nat) : PyData.eqv (dN ns) (dN ms) = decide (ns = ms) := by
  unfold dN
  simp only [PyData.eqv]
  exact eqv_ints ns ms
theorem eqv_dNs : ∀ xss yss : List (List Nat), PyData.eqvAll (xss.map dN) (yss.map dN) = decide (xss = yss)
  | [], [] => by simp [PyData.eqvAll]
  | [], _ :: _ => by simp [PyData.eqvAll]
  | _ :: _, [] => by simp [PyData.eqvAll]
  | n :: r, m :: s => by
    have h := eqv_dNs r s
    simp only [List.map_cons, PyData.eqvAll, eqv_dN, h]
    by_cases e : n = m <;> simp [e]
theorem eqv_dNN (xss yss : List (List Nat)) : PyData.eqv (dNN xss) (dNN yss) = decide (xss = yss) := by
  unfold dNN
  simp only [PyData.eqv]
  exact eqv_dNs xss yss
/-! ### new lists of lists -/
theorem paired_imp {α β : Type} {R R' : α → β → Prop} : ∀ {as : List α} {xs : List β}, Paired R as xs → (∀ a x, a ∈ as → R a x → R' a x) → Paired R' as xs
  | _, _, .nil, _ => .nil
  | _, _, .cons r t, f => .cons (f _ _ (List.mem_cons_self ..) r) (paired_imp t fun a x m => f a x (List.mem_cons_of_mem _ m))
theorem paired_snoc {α β : Type} {R : α → β → Prop} : ∀ {as : List α} {xs : List β} {a : α} {x : β}, Paired R as xs → R a x → Paired R (as ++ [a]) (xs ++ [x])
  | _, _, _, _, .nil, h => .cons h .nil
  | _, _, _, _, .cons r t, h => .cons r (paired_snoc t h)
abbrev LA (H : Hp) (as : List Addr) (xss : List (List Nat)) : Prop := Paired (fun a xs => H a = some (.lst (L xs))) as xss
def LL (H : Hp) (p : Addr) (xss : List (List Nat)) : Prop := ∃ as : List Addr, H p = some (.lst (as.map V.ref)) ∧ LA H as xss
def LLn (H0 H : Hp) (p : Addr) (xss : List (List Nat)) : Prop := ∃ as : List Addr, H p = some (.lst (as.map V.ref)) ∧ LA H as xss ∧ ∀ a ∈ as, H0 a = none ∧ a ≠ p
theorem LLn.ll {H0 H : Hp} {p : Addr} {xss : List (List Nat)} (h : LLn H0 H p xss) : LL H p xss := by
  obtain ⟨as, h1, h2, _⟩ := h
  exact ⟨as, h1, h2⟩
theorem LA.ex {H H' : Hp} {as : List Addr} {xss : List (List Nat)} (h : LA H as xss) (e : Ex H H') : LA H' as xss := paired_imp h fun a x _ q => e a _ q
theorem LA.upd {H : Hp} {as : List Addr} {xss : List (List Nat)} {p : Addr} {o : HO} (h : LA H as xss) (e : ∀ a ∈ as, a ≠ p) : LA (upd H p o) as xss := paired_imp h fun a x m q => by
  rw [upd_ne (e a m)]
  exact q
theorem LL.ex {H H' : Hp} {p : Addr} {xss : List (List Nat)} (h : LL H p xss) (e : Ex H H') : LL H' p xss := by
  obtain ⟨as, h1, h2⟩ := h
  exact ⟨as, e _ _ h1, LA.ex h2 e⟩
theorem dpAll_LA {K : PySem.W.Frag} {H : Hp} : ∀ {as : List Addr} {xss : List (List Nat)}, LA H as xss → DpAll K H (as.map V.ref) (xss.map dN)
  | _, _, .nil => .nil
  | _, _, .cons r t => .cons (dp_L (sq_of r)) (dpAll_LA t)
theorem dp_LL {K : PySem.W.Frag} {H : Hp} {p : Addr} {xss : List (List Nat)} (h : LL H p xss) : Dp K H (.ref p) (dNN xss) := by
  obtain ⟨as, h1, h2⟩ := h
  exact Dp.lst (sq_of h1) (dpAll_LA h2)
theorem LA.fresh {H : Hp} {as : List Addr} {xss : List (List Nat)} {p : Addr} (h : LA H as xss) (hp : H p = none) : ∀ a ∈ as, a ≠ p := by
  intro a ha
  have key : ∀ {as : List Addr} {xss : List (List Nat)}, LA H as xss → ∀ a ∈ as, ∃ xs, H a = some (.lst (L xs)) := by
    intro as xss h
    induction h with
    | nil => intro a ha; cases ha
    | cons r t ih =>
      intro a ha
      rcases List.mem_cons.mp ha with rfl | ha
      · exact ⟨_, r⟩
      · exact ih a ha
  obtain ⟨xs, q⟩ := key h a ha
  exact ne_of_none q hp
/-! ### further evaluations -/
section
variable {K : PySem.W.Frag} {σ : L2.St} {H H' : Hp} {ta tb te tx : TE} {t u : TT} {x y z v : V} {r : R2}
theorem et_yes : EvT tYes σ H true := fun H1 _ _ q => q H1 (Ex.refl H1)
theorem ev_cbN {r : CR1} {xs : List V} (h : EvL te σ H xs) (hr : ∀ p H1, H1 p = some (.lst xs) → Ex H H1 → RC r [.ref p] H1 z) : Ev (tCB r (tCons te tNil)) σ H z := fun H1 e Q q =>
  h H1 e _ fun p H2 _ e2 hp => hr p H2 hp (e.trans e2) H2 (Ex.refl H2) Q fun H3 e3 => q H3 (e2.trans e3)
theorem rc_isi {b : Bool} {x c : V} {t u : Value} (hc : ClsV c u) (ht : ∀ H1, Ex H H1 → TyX K H1 x t) (hk : PySem.W.kitOne K t u = some b) : RC (rIsi K) [x, c] H (.bl b) := fun H1 e Q q =>
  ⟨x, c, t, u, b, rfl, hc, ht H1 e, hk, q H1 (Ex.refl H1)⟩
theorem rc_int {i : Int} : RC cInt [.int i] H (.int i) := fun H1 _ _ q => Or.inl ⟨i, rfl, q H1 (Ex.refl H1)⟩
theorem rc_abs {i : Int} : RC cAbs [.int i] H (.int (if i < 0 then -i else i)) := fun H1 _ _ q => ⟨i, rfl, q H1 (Ex.refl H1)⟩
theorem rc_len {p : Addr} {xs : List V} (h : SqL K H p xs) : RC (cLen K) [.ref p] H (.int (xs.length : Int)) := fun H1 e _ q => ⟨p, xs, rfl, Or.inl (ex_l e h), q H1 (Ex.refl H1)⟩
theorem rcl_list {p : Addr} {xs : List V} (h : SqL K H p xs) : RCL (cList K) [.ref p] H xs := fun H1 e _ q => ⟨p, xs, rfl, Or.inl (ex_l e h), fun l hl => q l _ hl (Ex.new hl) upd_same⟩
theorem rc_all {p : Addr} {bs : List Bool} (h : SqL K H p (bs.map V.bl)) : RC (rAll K) [.ref p] H (.bl (bs.all id)) := fun H1 e _ q => ⟨p, bs, rfl, ex_l e h, q H1 (Ex.refl H1)⟩
theorem rc_min {p : Addr} {ns : List Int} {m : Int} (h : SqL K H p (ns.map V.int)) (hn : 0 < ns.length) (hm : ∀ m', m' ∈ ns → (∀ y, y ∈ ns → m' ≤ y) → m' = m) : RC (rMin K) [.ref p] H (.int m) := fun H1 e _ q => ⟨p, ns, rfl, ex_l e h, hn, fun m' a b => by
  rw [hm m' a b]
  exact q H1 (Ex.refl H1)⟩
theorem ea_1 (h : Ev ta σ H x) : EvA (tCons ta tNil) σ H [x] := ea_cons h ea_nil
theorem ea_2 (h : Ev ta σ H x) (h2 : Ev tb σ H y) : EvA (tCons ta (tCons tb tNil)) σ H [x, y] := ea_cons h (ea_cons h2 ea_nil)
theorem rv_eqD {d e : PyData} (hx : Dp K H x d) (hy : Dp K H y e) (h1 : SeqAt.shaped d = true) (h2 : SeqAt.shaped e = true) (mx : ∀ H1, Ex H H1 → Dp K H x d → Dp K H1 x d) (my : ∀ H1, Ex H H1 → Dp K H y e → Dp K H1 y e) : RV (rEqD K) x y H (.bl (PyData.eqv d e)) := fun H1 ex _ q =>
  ⟨d, e, mx H1 ex hx, my H1 ex hy, h1, h2, q H1 (Ex.refl H1)⟩
mutual
theorem dp_ex {H H1 : Hp} (e : Ex H H1) : ∀ {v : V} {d : PyData}, Dp K H v d → Dp K H1 v d
  | _, _, .non => .non
  | _, _, .bl b => .bl b
  | _, _, .int i => .int i
  | _, _, .str x => .str x
  | _, _, .lst h a => .lst (ex_l e h) (dpAll_ex e a)
  | _, _, .tup h a => .tup (ex_t e h) (dpAll_ex e a)
theorem dpAll_ex {H H1 : Hp} (e : Ex H H1) : ∀ {v : List V} {d : List PyData}, DpAll K H v d → DpAll K H1 v d
  | _, _, .nil => .nil
  | _, _, .cons h a => .cons (dp_ex e h) (dpAll_ex e a)
end
theorem rv_eqD' {d e : PyData} (hx : Dp K H x d) (hy : Dp K H y e) (h1 : SeqAt.shaped d = true) (h2 : SeqAt.shaped e = true) : RV (rEqD K) x y H (.bl (PyData.eqv d e)) := fun H1 ex _ q =>
  ⟨d, e, dp_ex ex hx, dp_ex ex hy, h1, h2, q H1 (Ex.refl H1)⟩
theorem rv_neD' {d e : PyData} (hx : Dp K H x d) (hy : Dp K H y e) (h1 : SeqAt.shaped d = true) (h2 : SeqAt.shaped e = true) : RV (rNeD K) x y H (.bl (!PyData.eqv d e)) := fun H1 ex _ q =>
  ⟨d, e, dp_ex ex hx, dp_ex ex hy, h1, h2, q H1 (Ex.refl H1)⟩
theorem rv_eqN {a b : Addr} {ns ms : List Nat} (h1 : SqL K H a (L ns)) (h2 : SqL K H b (L ms)) : RV (rEqD K) (.ref a) (.ref b) H (.bl (decide (ns = ms))) := by
  rw [← eqv_dN]
  exact rv_eqD' (dp_L h1) (dp_L h2) (shaped_dN _) (shaped_dN _)
theorem rv_neN {a b : Addr} {ns ms : List Nat} (h1 : SqL K H a (L ns)) (h2 : SqL K H b (L ms)) : RV (rNeD K) (.ref a) (.ref b) H (.bl (!decide (ns = ms))) := by
  rw [← eqv_dN]
  exact rv_neD' (dp_L h1) (dp_L h2) (shaped_dN _) (shaped_dN _)
theorem rv_eqNN {a b : Addr} {ns ms : List (List Nat)} (h1 : LL H a ns) (h2 : LL H b ms) : RV (rEqD K) (.ref a) (.ref b) H (.bl (decide (ns = ms))) := by
  rw [← eqv_dNN]
  exact rv_eqD' (dp_LL h1) (dp_LL h2) (shaped_dNN _) (shaped_dNN _)
theorem rv_neNN {a b : Addr} {ns ms : List (List Nat)} (h1 : LL H a ns) (h2 : LL H b ms) : RV (rNeD K) (.ref a) (.ref b) H (.bl (!decide (ns = ms))) := by
  rw [← eqv_dNN]
  exact rv_neD' (dp_LL h1) (dp_LL h2) (shaped_dNN _) (shaped_dNN _)
theorem ev_fld {a C dx : Addr} {fs : List (Str × V)} {f : Str} (h : Ev ta σ H (.ref a)) (ho : H a = some (.ins C dx fs)) (hc : Cls K C) (hn : NoAttr K C f) (hl : fs.lookup f = some v) : Ev (tFld K ta f) σ H v := fun H1 e Q q =>
  h H1 e _ fun H2 e2 => ⟨a, C, dx, fs, v, rfl, e2 _ _ (e _ _ ho), hc, hn, hl, q H2 e2⟩
/-- a call of a method that gives a value, a new list -/
theorem ev_meth {a C dx : Addr} {fs : List (Str × V)} {m : Str} {sp : Sp} {ta : TE} {tb : TA} {vs : List V} {E : XK} (h : Ev ta σ H (.ref a)) (ho : H a = some (.ins C dx fs)) (hl : fs.lookup m = none) (ha : EvA tb σ H vs) (hs : SpV sp (.ref a :: vs) H v) : Ev (tMeth C m sp [] E ta tb) σ H v := fun H1 e Q q =>
  h H1 e _ fun H2 e2 => ⟨a, dx, fs, rfl, e2 _ _ (e _ _ ho), hl, ha H2 (e.trans e2) _ fun H3 e3 => by
    have e4 := (e.trans e2).trans e3
    have q2 := hs H3 e4 Q (fun H4 e5 => q H4 ((e2.trans e3).trans e5)) E
    simpa using q2⟩
theorem el_meth {a C dx : Addr} {fs : List (Str × V)} {m : Str} {sp : Sp} {ta : TE} {tb : TA} {vs xs : List V} {E : XK} (h : Ev ta σ H (.ref a)) (ho : H a = some (.ins C dx fs)) (hl : fs.lookup m = none) (ha : EvA tb σ H vs) (hs : SpL sp (.ref a :: vs) H xs) : EvL (tMeth C m sp [] E ta tb) σ H xs := fun H1 e Q q =>
  h H1 e _ fun H2 e2 => ⟨a, dx, fs, rfl, e2 _ _ (e _ _ ho), hl, ha H2 (e.trans e2) _ fun H3 e3 => by
    have e4 := (e.trans e2).trans e3
    have q2 := hs H3 e4 Q (fun p H4 hp e5 h5 => q p H4 (fresh_back (e2.trans e3) hp) ((e2.trans e3).trans e5) h5) E
    simpa using q2⟩
end
/-- all but the object at t is kept -/
def ExO (t : Addr) (H H' : Hp) : Prop := ∀ a o, a ≠ t → H a = some o → H' a = some o
theorem ExO.of {t : Addr} {H H' : Hp} (e : Ex H H') : ExO t H H' := fun a o _ h => e a o h
theorem ExO.refl {t : Addr} {H : Hp} : ExO t H H := fun _ _ _ h => h
theorem ExO.trans {t : Addr} {H H1 H2 : Hp} (a : ExO t H H1) (b : ExO t H1 H2) : ExO t H H2 := fun x o n h => b x o n (a x o n h)
theorem ExO.upd {t : Addr} {H H' : Hp} {o : HO} (a : ExO t H H') : ExO t H (upd H' t o) := fun x o n h => by
  rw [upd_ne n]
  exact a x o n h
theorem ExO.mut {t p : Addr} {H H' : Hp} {o : HO} (a : ExO t H H') (h : H p = none) : ExO t H (L2.upd H' p o) := fun x u n hx => by
  rw [upd_ne (ne_of_none hx h)]
  exact a x u n hx
theorem ExO.mono {t : Addr} {H H' : Hp} (a : ExO t H H') (h : H t = none) : Ex H H' := fun x o hx => a x o (ne_of_none hx h) hx
theorem ExO.sq {K : PySem.W.Frag} {t : Addr} {H H' : Hp} {p : Addr} {xs : List V} (e : ExO t H H') (n : p ≠ t) (h : SqL K H p xs) : SqL K H' p xs := by
  rcases h with h | h
  · rcases h with h | ⟨o, h⟩
    · exact Or.inl (Or.inl (e p _ n h))
    · exact Or.inl (Or.inr ⟨o, e p _ n h⟩)
  · exact Or.inr h
/-- a tape: two numbers, the second one below 2147483647 -/
def Tp (o : Option HO) : Prop := ∃ x y : Int, o = some (.lst [.int x, .int y]) ∧ 0 ≤ x ∧ 0 ≤ y ∧ y < 2147483647
end Hm
namespace Hm
open PySem PySem.Spec PyProof.Rows L2 Evl
/-! ### the law's draws -/
def sp_Lpick (K : PySem.W.Frag) : Sp := fun vs H Q _ => ∃ (t : Addr) (m : Int), vs = [.ref t, .int m] ∧ Tp (H t) ∧ 1 ≤ m ∧ m ≤ 1000000 ∧
  ∀ (d : Int) H', 0 ≤ d → d < m → Tp (H' t) → ExO t H H' → Q (.int d) H'
abbrev nm_Lpick : List Str := ["_law_tape_here", "_law_many", "_law_digit", "_law_mixed"]
abbrev pr_Lpick : List Str := ["_law_tape_here", "_law_many"]
def t_Lpick (K : PySem.W.Frag) : TS :=
  (tSeq (tIfS (tTest (tOp zGe (tOp (rIxL K) (tVar 0) (tC (.int 0))) (tOp zPow (tC (.int 10)) (tC (.int 18))))) (tSeq (tAsg (tOp zMod (tCB cInt (tCons (tOp (rIxL K) (tVar 0) (tC (.int 0))) tNil)) (tVar 1)) (gName 2))
      (tSeq (tAsg (tOp zDiv (tOp (rIxL K) (tVar 0) (tC (.int 0))) (tVar 1)) (gSub (tVar 0) (tC (.int 0)) rSetL))
      (tRet (tVar 2)))) tNext)
  (tSeq (tAsg (tOp zMod (tCB cInt (tCons (tOp zAdd (tOp zAdd (tOp zMul (tOp (rIxL K) (tVar 0) (tC (.int 1))) (tC (.int 48271))) (tOp zMul (tOp (rIxL K) (tVar 0) (tC (.int 0))) (tC (.int 69621)))) (tC (.int 11))) tNil)) (tC (.int 2147483647))) (gSub (tVar 0) (tC (.int 1)) rSetL))
  (tSeq (tAsg (tOp zMod (tCB cInt (tCons (tOp zAdd (tOp zAdd (tOp zMul (tOp (rIxL K) (tVar 0) (tC (.int 1))) (tOp (rIxL K) (tVar 0) (tC (.int 1)))) (tOp zMul (tOp (rIxL K) (tVar 0) (tC (.int 1))) (tC (.int 40692)))) (tC (.int 7))) tNil)) (tC (.int 2147483399))) (gName 3))
  (tRet (tOp zMod (tCB cInt (tCons (tOp zDiv (tVar 3) (tC (.int 64))) tNil)) (tVar 1))))))
abbrev Wt_Lpick (K : PySem.W.Frag) (vs : List V) (H : Hp) (Q : VK) : Prop := t_Lpick K { nx := fun _ H' => Q .non H', rt := Q } (start nm_Lpick vs) H
theorem ln_Lpick {K : PySem.W.Frag} (vs : List V) (H : Hp) (Q : VK) (E : XK) (h : sp_Lpick K vs H Q E) : vs.length = pr_Lpick.length := by
  obtain ⟨_, _, rfl, _⟩ := h
  rfl
theorem ev_ix0 {K : PySem.W.Frag} {σ : L2.St} {H : Hp} {t : Addr} {x y : Int} {i : Nat} (hs : σ[i]? = some (some (.ref t))) (h : H t = some (.lst [.int x, .int y])) : Ev (tOp (rIxL K) (tVar i) (tC (.int 0))) σ H (.int x) :=
  ev_op (ev_var hs) ev_c (rv_ixL (sq_of h) rfl)
theorem ev_ix1 {K : PySem.W.Frag} {σ : L2.St} {H : Hp} {t : Addr} {x y : Int} {i : Nat} (hs : σ[i]? = some (some (.ref t))) (h : H t = some (.lst [.int x, .int y])) : Ev (tOp (rIxL K) (tVar i) (tC (.int 1))) σ H (.int y) :=
  ev_op (ev_var hs) ev_c (rv_ixL (sq_of h) rfl)
theorem fmod_pos {a b : Int} (h : 0 < b) : 0 ≤ a.fmod b ∧ a.fmod b < b := ⟨Int.fmod_nonneg_of_pos a h, Int.fmod_lt_of_pos a h⟩
theorem fdiv_nn {a b : Int} (ha : 0 ≤ a) (hb : 0 < b) : 0 ≤ a.fdiv b := Int.fdiv_nonneg ha (Int.le_of_lt hb)
theorem rd_Lpick0 {K : PySem.W.Frag} (vs : List V) (H : Hp) (Q : VK) (E : XK) (h : sp_Lpick K vs H Q E) : Wt_Lpick K vs H Q := by
  obtain ⟨t, m, rfl, ⟨x, y, ht, hx, hy, hy2⟩, hm, hm2, k⟩ := h
  show t_Lpick K _ [some (.ref t), some (.int m), none, none] H
  have hm0 : m ≠ 0 := by omega
  refine q_when (b := decide ((10 : Int) ^ (18 : Int).toNat ≤ x)) (et_test (ev_op (ev_ix0 rfl ht) (ev_op ev_c ev_c (rv_I ⟨by decide, by decide, by decide⟩)) rv_I0)) (fun hb H1 e1 => ?_) (fun hb H1 e1 => ?_)
  · have ht1 := e1 _ _ ht
    refine q_asg (ev_op (ev_cb (ea_1 (ev_ix0 rfl ht1)) rc_int) (ev_var rfl) (rv_I hm0)) (fun H2 e2 => ?_)
    have ht2 := e2 _ _ ht1
    refine q_setL (j := 0) ht2 (ev_op (ev_ix0 rfl ht2) (ev_var rfl) (rv_I ⟨hm0, by omega⟩)) (ev_var rfl) ev_c (by show 0 < 2; decide) (fun H3 e3 => ?_)
    refine s_ret (ev_var rfl) (fun H4 e4 => ?_)
    obtain ⟨d1, d2⟩ := fmod_pos (a := x) (b := m) (by omega)
    refine k _ _ d1 d2 ⟨_, _, e4 _ _ upd_same, fdiv_nn hx (by omega), hy, hy2⟩ ?_
    exact ((ExO.of (e1.trans (e2.trans e3))).upd).trans (ExO.of e4)
  · have hb := of_decide_eq_false hb
    have hx2 : x < 1000000000000000000 := by
      have : (10 : Int) ^ (18 : Int).toNat = 1000000000000000000 := by decide
      omega
    have ht1 := e1 _ _ ht
    refine q_setL (j := 1) ht1 (ev_op (ev_cb (ea_1 (ev_op (ev_op (ev_op (ev_ix1 rfl ht1) ev_c (rv_I (Or.inr ⟨by decide, by decide⟩))) (ev_op (ev_ix0 rfl ht1) ev_c (rv_I (Or.inr ⟨by decide, by decide⟩))) rv_I0) ev_c rv_I0)) rc_int) ev_c (rv_I (by decide))) (ev_var rfl) ev_c (by show 1 < 2; decide) (fun H2 e2 => ?_)
    obtain ⟨z1, z2⟩ := fmod_pos (a := y * 48271 + x * 69621 + 11) (b := 2147483647) (by decide)
    have ht2 : (upd H2 t (.lst ([V.int x, V.int y].set 1 (V.int ((y * 48271 + x * 69621 + 11).fmod 2147483647))))) t = some (.lst [.int x, .int ((y * 48271 + x * 69621 + 11).fmod 2147483647)]) := upd_same
    have hz : ∀ z : Int, z = (y * 48271 + x * 69621 + 11).fmod 2147483647 → 0 ≤ z ∧ z < 2147483647 := fun z e => by rw [e]; exact ⟨z1, z2⟩
    revert ht2
    generalize (y * 48271 + x * 69621 + 11).fmod 2147483647 = z at *
    intro ht2
    have hz := hz z rfl
    refine q_asg (ev_op (ev_cb (ea_1 (ev_op (ev_op (ev_op (ev_ix1 rfl ht2) (ev_ix1 rfl ht2) (rv_I (Or.inr ⟨by omega, by omega⟩))) (ev_op (ev_ix1 rfl ht2) ev_c (rv_I (Or.inr ⟨by decide, by decide⟩))) rv_I0) ev_c rv_I0)) rc_int) ev_c (rv_I (by decide))) (fun H3 e3 => ?_)
    refine s_ret (ev_op (ev_cb (ea_1 (ev_op (ev_var rfl) ev_c (rv_I ⟨by decide, by decide⟩))) rc_int) (ev_var rfl) (rv_I hm0)) (fun H4 e4 => ?_)
    obtain ⟨d1, d2⟩ := fmod_pos (a := ((z * z + z * 40692 + 7).fmod 2147483399).fdiv 64) (b := m) (by omega)
    refine k _ _ d1 d2 ⟨x, z, e4 _ _ (e3 _ _ ht2), hx, hz.1, hz.2⟩ ?_
    exact ((ExO.of (e1.trans e2)).upd).trans (ExO.of (e3.trans e4))
theorem rd_Lpick {K : PySem.W.Frag} (F : KF K) (vs : List V) (H : Hp) (Q : VK) (E : XK) (h : sp_Lpick K vs H Q E) : Wt_Lpick K vs H Q := rd_Lpick0 vs H Q E h
def sp_Ltape (K : PySem.W.Frag) : Sp := fun vs H Q _ => ∃ (a : Addr) (zs : List Int) (k : Int), vs = [.ref a, .int k] ∧ SqL K H a (zs.map V.int) ∧ 0 ≤ k ∧ k ≤ 100 ∧
  ∀ p H', H p = none → Tp (H' p) → Ex H H' → Q (.ref p) H'
abbrev nm_Ltape : List Str := ["_law_script", "_law_k", "_law_cell"]
abbrev pr_Ltape : List Str := ["_law_script", "_law_k"]
def t_Ltape (K : PySem.W.Frag) : TS :=
  (tSeq (tAsg (tC (.int 0)) (gName 2))
  (tSeq (tIfS (tTest (tOp (rNeD K) (tVar 0) (tLst tNil))) (tAsg (tOp (rIxL K) (tVar 0) (tOp zMod (tCB cInt (tCons (tVar 1) tNil)) (tCB (cLen K) (tCons (tVar 0) tNil)))) (gName 2)) tNext)
  (tRet (tLst (tCons (tCB cAbs (tCons (tVar 2) tNil)) (tCons (tOp zAdd (tOp zMul (tC (.int 7919)) (tVar 1)) (tC (.int 104729))) tNil))))))
abbrev Wt_Ltape (K : PySem.W.Frag) (vs : List V) (H : Hp) (Q : VK) : Prop := t_Ltape K { nx := fun _ H' => Q .non H', rt := Q } (start nm_Ltape vs) H
theorem ln_Ltape {K : PySem.W.Frag} (vs : List V) (H : Hp) (Q : VK) (E : XK) (h : sp_Ltape K vs H Q E) : vs.length = pr_Ltape.length := by
  obtain ⟨_, _, _, rfl, _⟩ := h
  rfl
theorem dpAll_ints {K : PySem.W.Frag} {H : Hp} : ∀ zs : List Int, DpAll K H (zs.map V.int) (zs.map PyData.int)
  | [] => .nil
  | z :: r => .cons (.int z) (dpAll_ints r)
theorem shaped_ints (zs : List Int) : SeqAt.shaped (.list (zs.map PyData.int)) = true := by
  have h : ∀ zs : List Int, PyData.canLayAll0 (zs.map PyData.int) = true ∧ PyData.depthAll (zs.map PyData.int) = 0 := by
    intro zs
    induction zs with
    | nil => exact ⟨by simp [PyData.canLayAll0], by simp [PyData.depthAll]⟩
    | cons n r ih => exact ⟨by simp [PyData.canLayAll0, PyData.canLay0, ih.1], by simp [PyData.depthAll, PyData.depth, ih.2]⟩
  obtain ⟨h1, h2⟩ := h zs
  have e1 : PyData.canLay0 (.list (zs.map PyData.int)) = true := by simp [PyData.canLay0, h1]
  have e2 : PyData.depth (.list (zs.map PyData.int)) ≤ 64 := by simp [PyData.depth, h2]
  unfold SeqAt.shaped
  rw [e1, decide_eq_true e2]
  rfl
theorem eqv_nil (zs : List Int) : PyData.eqv (.list (zs.map PyData.int)) (.list []) = zs.isEmpty := by
  cases zs <;> simp [PyData.eqv, PyData.eqvAll]
theorem rd_Ltape0 {K : PySem.W.Frag} (vs : List V) (H : Hp) (Q : VK) (E : XK) (h : sp_Ltape K vs H Q E) : Wt_Ltape K vs H Q := by
  obtain ⟨a, zs, k, rfl, hS, k0, k1, q⟩ := h
  show t_Ltape K _ [some (.ref a), some (.int k), none] H
  refine q_asg ev_c (fun H1 e1 => ?_)
  have hS1 := ex_l e1 hS
  have fin : ∀ (c : Int) (H2 : Hp), Ex H H2 → tRet (tLst (tCons (tCB cAbs (tCons (tVar 2) tNil)) (tCons (tOp zAdd (tOp zMul (tC (.int 7919)) (tVar 1)) (tC (.int 104729))) tNil))) { nx := fun _ H' => Q .non H', rt := Q } [some (.ref a), some (.int k), some (.int c)] H2 := by
    intro c H2 e2
    refine s_retL (el_lst (ea_2 (ev_cb (ea_1 (ev_var rfl)) rc_abs) (ev_op (ev_op ev_c (ev_var rfl) (rv_I (Or.inl ⟨by decide, by decide⟩))) ev_c rv_I0)) (by show 2 ≤ 100000; decide)) (fun p H3 hp e3 h3 => ?_)
    refine q p H3 (fresh_back e2 hp) ⟨_, _, h3, ?_, by dsimp only; omega, by dsimp only; omega⟩ (e2.trans e3)
    split <;> omega
  refine q_when (b := !zs.isEmpty) (et_test (ev_opL (xs := []) (ev_var rfl) (el_lst ea_nil (Nat.zero_le _)) (fun p H2 hp e2 => ?_))) (fun hb H2 e2 => ?_) (fun hb H2 e2 => ?_)
  · rw [← eqv_nil]
    exact rv_neD' (Dp.lst (ex_l e2 hS1) (dpAll_ints zs)) (Dp.lst (sq_of hp) .nil) (shaped_ints zs) (by decide)
  · have hS2 := ex_l e2 hS1
    have hl : 0 < zs.length := by
      cases zs with
      | nil => cases hb
      | cons z r => exact Nat.succ_pos _
    have hl2 : (zs.map V.int).length = zs.length := List.length_map ..
    obtain ⟨m1, m2⟩ := fmod_pos (a := k) (b := ((zs.map V.int).length : Int)) (by omega)
    have hj : (k.fmod ((zs.map V.int).length : Int)).toNat < zs.length := by omega
    have hat : atI (zs.map V.int) (k.fmod ((zs.map V.int).length : Int)) = some (.int (zs[(k.fmod ((zs.map V.int).length : Int)).toNat]'hj)) := by
      refine at_of (j := (k.fmod ((zs.map V.int).length : Int)).toNat) (by omega) ?_
      rw [List.getElem?_map, List.getElem?_eq_getElem hj]
      rfl
    refine s_asg (ev_op (ev_var rfl) (ev_op (ev_cb (ea_1 (ev_var rfl)) rc_int) (ev_cb (ea_1 (ev_var rfl)) (rc_len hS2)) (rv_I (by omega))) (rv_ixL hS2 hat)) (fun H3 e3 => ?_)
    exact fin _ H3 (e1.trans (e2.trans e3))
  · exact fin 0 H2 (e1.trans e2)
theorem rd_Ltape {K : PySem.W.Frag} (F : KF K) (vs : List V) (H : Hp) (Q : VK) (E : XK) (h : sp_Ltape K vs H Q E) : Wt_Ltape K vs H Q := rd_Ltape0 vs H Q E h
end Hm
namespace Hm
open PySem PySem.Spec PyProof.Rows L2 Evl
section
variable {K : PySem.W.Frag} {σ : L2.St} {H : Hp} {ta tb te : TE} {D : Ends} {tz : TS}
theorem q_asgC {sp : Sp} {E : XK} {ta : TA} {vs : List V} {i : Nat} (h : EvA ta σ H vs) (k : ∀ H1, Ex H H1 → sp vs H1 (fun v H2 => tz D (σ.set i (some v)) H2) E) : tSeq (tAsg (tCall sp [] E ta) (gName i)) tz D σ H :=
  h H (Ex.refl H) _ fun H1 e => by
    show sp (vs ++ []) H1 _ E
    rw [List.append_nil]
    exact k H1 e
theorem s_asgC {sp : Sp} {E : XK} {ta : TA} {vs : List V} {i : Nat} (h : EvA ta σ H vs) (k : ∀ H1, Ex H H1 → sp vs H1 (fun v H2 => D.nx (σ.set i (some v)) H2) E) : tAsg (tCall sp [] E ta) (gName i) D σ H :=
  h H (Ex.refl H) _ fun H1 e => by
    show sp (vs ++ []) H1 _ E
    rw [List.append_nil]
    exact k H1 e
theorem s_retC {sp : Sp} {E : XK} {ta : TA} {vs : List V} (h : EvA ta σ H vs) (k : ∀ H1, Ex H H1 → sp vs H1 D.rt E) : tRet (tCall sp [] E ta) D σ H :=
  h H (Ex.refl H) _ fun H1 e => by
    show sp (vs ++ []) H1 _ E
    rw [List.append_nil]
    exact k H1 e
theorem el_cat {xs ys : List V} (ha : EvL ta σ H xs) (hb : EvL tb σ H ys) (hz : xs.length + ys.length ≤ 100000) : EvL (tOp rCat ta tb) σ H (xs ++ ys) := fun H1 e Q q =>
  ha H1 e _ fun p H2 _ e2 h2 => hb H2 (e.trans e2) _ fun p' H3 _ e3 h3 => ⟨p, p', xs, ys, rfl, rfl, e3 _ _ h2, h3, sz_of hz, fun r hr => q r _ (fresh_back (e2.trans e3) hr) ((e2.trans e3).trans (Ex.new hr)) upd_same⟩
end
theorem given_all (n : Nat) (v : Nat → V) : given n (fun _ => true) v = (List.range n).map v := by
  show ((List.range n).filter fun _ => true).map v = _
  rw [List.filter_eq_self.mpr fun _ _ => rfl]
theorem cut_to {xs : List V} {j : Nat} (h : j ≤ xs.length) : cutV xs none (some (j : Int)) = xs.take j := by
  unfold cutV
  rw [HT.sIx_none, HT.sIx_nat, Nat.min_eq_left h]
  rfl
theorem cut_from {xs : List V} {j : Nat} (h : j ≤ xs.length) : cutV xs (some (j : Int)) none = xs.drop j := by
  unfold cutV
  rw [HT.sIx_none, HT.sIx_nat, Nat.min_eq_left h]
  rw [List.take_of_length_le (by rw [List.length_drop]; exact Nat.le_refl _)]
theorem L_take (ns : List Nat) (j : Nat) : (L ns).take j = L (ns.take j) := by unfold L; rw [List.map_take]
theorem L_drop (ns : List Nat) (j : Nat) : (L ns).drop j = L (ns.drop j) := by unfold L; rw [List.map_drop]
theorem perm_out {l : List Nat} {j : Nat} (h : j < l.length) : (fn l j :: (l.take j ++ l.drop (j + 1))).Perm l := by
  have e : l = l.take j ++ fn l j :: l.drop (j + 1) := by
    have h2 : l.drop j = fn l j :: l.drop (j + 1) := by
      rw [List.drop_eq_getElem_cons h]
      have h3 := fn_get h
      rw [List.getElem?_eq_getElem h] at h3
      rw [Option.some.inj h3]
    rw [← h2, List.take_append_drop]
  have h4 : (l.take j ++ fn l j :: l.drop (j + 1)).Perm (fn l j :: (l.take j ++ l.drop (j + 1))) := List.perm_middle
  rw [← e] at h4
  exact h4.symm

def sp_Lnexts (K : PySem.W.Frag) : Sp := fun vs H Q _ => ∃ (t : Addr) (e : Nat), vs = [.ref t, .int (e : Int)] ∧ Tp (H t) ∧ e ≤ 60 ∧
  ∀ p H' ns, H p = none → H' p = some (.lst (L ns)) → IsP ns → ns.length = 2 * e → Tp (H' t) → ExO t H H' → Q (.ref p) H'
abbrev nm_Lnexts : List Str := ["_law_tape_here", "_law_edges", "_law_k", "_law_left", "_law_nexts_here", "_law_at"]
abbrev pr_Lnexts : List Str := ["_law_tape_here", "_law_edges"]
def t_Lnexts (K : PySem.W.Frag) : TS :=
  (tSeq (tAsg (tLc (iRng1 (tCons (tOp zMul (tC (.int 2)) (tVar 1)) tNil)) (gName 2) tYes (tVar 2) [2]) (gName 3))
  (tSeq (tAsg (tLst tNil) (gName 4))
  (tSeq (tFor (iRng1 (tCons (tOp zMul (tC (.int 2)) (tVar 1)) tNil)) (gName 2) (tSeq (tAsg (tCall (sp_Lpick K) [] E0 (tCons (tVar 0) (tCons (tCB (cLen K) (tCons (tVar 3) tNil)) tNil))) (gName 5))
      (tSeq (tDrop (tBM K "list" rAppend (tVar 4) (tCons (tOp (rIxL K) (tVar 3) (tVar 5)) tNil)))
      (tAsg (tOp rCat (tSl (rSlL K) (tVar 3) tNoPart (tPart (tVar 5))) (tSl (rSlL K) (tVar 3) (tPart (tOp zAdd (tVar 5) (tC (.int 1)))) tNoPart)) (gName 3)))))
  (tRet (tVar 4)))))
abbrev Wt_Lnexts (K : PySem.W.Frag) (vs : List V) (H : Hp) (Q : VK) : Prop := t_Lnexts K { nx := fun _ H' => Q .non H', rt := Q } (start nm_Lnexts vs) H
theorem ln_Lnexts {K : PySem.W.Frag} (vs : List V) (H : Hp) (Q : VK) (E : XK) (h : sp_Lnexts K vs H Q E) : vs.length = pr_Lnexts.length := by
  obtain ⟨_, _, rfl, _⟩ := h
  rfl
theorem tp_ne {H : Hp} {t p : Addr} (h : Tp (H t)) (hp : H p = none) : p ≠ t := by
  obtain ⟨_, _, h, _⟩ := h
  exact (ne_of_none h hp).symm
theorem tp_ex {H H' : Hp} {t : Addr} (h : Tp (H t)) (e : Ex H H') : Tp (H' t) := by
  obtain ⟨x, y, h, r⟩ := h
  exact ⟨x, y, e _ _ h, r⟩
theorem rd_Lnexts0 {K : PySem.W.Frag} (vs : List V) (H : Hp) (Q : VK) (E : XK) (h : sp_Lnexts K vs H Q E) : Wt_Lnexts K vs H Q := by
  obtain ⟨t, e, rfl, ht, he, k⟩ := h
  show t_Lnexts K _ [some (.ref t), some (.int (e : Int)), none, none, none, none] H
  have hn : ∀ σ H1, σ[1]? = some (some (V.int (e : Int))) → EvA (tCons (tOp zMul (tC (.int 2)) (tVar 1)) tNil) σ H1 [.int (2 * (e : Int))] := fun σ H1 hs => ea_1 (ev_op ev_c (ev_var hs) (rv_I (Or.inl ⟨by decide, by decide⟩)))
  have h2 : ((2 * (e : Int)).toNat) = 2 * e := by omega
  refine q_asgL (xs := L (List.range (2 * e))) ?_ (fun pl H1 hpl e1 h1 => ?_)
  · have := el_lcR1 (σ := [some (.ref t), some (.int (e : Int)), none, none, none, none]) (H := H) (j := 2) (vs := [2]) (t := tYes) (te := tVar 2) (fun _ => true) (fun i => vi i) (hn _ H rfl) (by omega) (fun _ => rfl) (fun i H1 _ _ => et_yes) (fun i H1 _ _ _ => ev_var rfl)
    rw [given_all, h2] at this
    exact this
  refine q_asgL (el_lst ea_nil (Nat.zero_le _)) (fun pn H2 hpn e2 hp2 => ?_)
  have hpn0 : H pn = none := fresh_back e1 hpn
  have hpt : pn ≠ t := tp_ne ht hpn0
  refine q_forR1 (hn _ _ rfl) (by omega) (fun i σ' H' => ∃ (left done : List Nat) (pl : Addr) (v2 v5 : Option V), σ' = [some (.ref t), some (.int (e : Int)), v2, some (.ref pl), some (.ref pn), v5] ∧
      H' pl = some (.lst (L left)) ∧ H' pn = some (.lst (L done)) ∧ pl ≠ pn ∧ pl ≠ t ∧ Tp (H' t) ∧ ExO t H H' ∧ (done ++ left).Perm (List.range (2 * e)) ∧ done.length = i) ?_ ?_ ?_
  · intro H3 e3
    refine ⟨List.range (2 * e), [], pl, _, _, rfl, e3 _ _ (e2 _ _ h1), e3 _ _ hp2, ne_of_none h1 hpn, tp_ne ht hpl, tp_ex (tp_ex (tp_ex ht e1) e2) e3, ExO.of (e1.trans (e2.trans e3)), ?_, rfl⟩
    exact List.Perm.refl _
  · rintro i σ' H' hi ⟨left, done, pl, v2, v5, rfl, a1, a2, a3, a4, a5, a6, a7, a8⟩
    have hlen : done.length + left.length = 2 * e := by
      have := a7.length_eq
      rw [List.length_append, List.length_range] at this
      exact this
    have hleft : 0 < left.length := by omega
    refine q_asgC (ea_2 (ev_var rfl) (ev_cb (ea_1 (ev_var rfl)) (rc_len (sq_of a1)))) (fun H1 e1 => ?_)
    refine ⟨t, _, rfl, tp_ex a5 e1, by rw [L_len]; omega, by rw [L_len]; omega, fun d H2 d0 d1 t2 x2 => ?_⟩
    have b1 : H2 pl = some (.lst (L left)) := x2 _ _ a4 (e1 _ _ a1)
    have b2 : H2 pn = some (.lst (L done)) := x2 _ _ hpt (e1 _ _ a2)
    rw [L_len] at d1
    obtain ⟨j, rfl⟩ : ∃ j : Nat, d = (j : Int) := ⟨d.toNat, by omega⟩
    have hj : j < left.length := by omega
    have hx2 : ExO t H H2 := a6.trans ((ExO.of e1).trans x2)
    refine q_app b2 (ev_var rfl) (ev_op (ev_var rfl) (ev_var rfl) (rv_ixL (sq_of b1) (L_at hj))) (by rw [L_len]; omega) (fun H3 e3 => ?_)
    have c1 : (upd H3 pn (.lst (L done ++ [vi (fn left j)]))) pl = some (.lst (L left)) := by
      rw [upd_ne a3]
      exact e3 _ _ b1
    have el1 := el_sl (K := K) (te := tVar 3) (tl := tNoPart) (th := tPart (tVar 5)) (σ := [some (.ref t), some (.int (e : Int)), some (vi i), some (.ref pl), some (.ref pn), some (vi j)]) (ev_var rfl) eo_none (eo_some (ev_var rfl)) (sq_of c1)
    have el2 := el_sl (K := K) (te := tVar 3) (tl := tPart (tOp zAdd (tVar 5) (tC (.int 1)))) (th := tNoPart) (σ := [some (.ref t), some (.int (e : Int)), some (vi i), some (.ref pl), some (.ref pn), some (vi j)]) (ev_var rfl) (eo_some (ev_op (ev_var rfl) ev_c rv_I0)) eo_none (sq_of c1)
    have ej : ((j : Int) + 1) = ((j + 1 : Nat) : Int) := by omega
    rw [cut_to (by rw [L_len]; omega), L_take] at el1
    simp only [ej] at el2
    rw [cut_from (by rw [L_len]; omega), L_drop] at el2
    refine s_asgL (el_cat el1 el2 (by rw [L_len, L_len, List.length_take, List.length_drop]; omega)) (fun pq H4 hpq e4 h4 => ?_)
    have hq1 : pq ≠ pn := (ne_of_none upd_same hpq).symm
    have t3 : Tp ((upd H3 pn (.lst (L done ++ [vi (fn left j)]))) t) := by
      rw [upd_ne hpt.symm]
      exact tp_ex t2 e3
    have hq2 : pq ≠ t := tp_ne t3 hpq
    refine ⟨left.take j ++ left.drop (j + 1), done ++ [fn left j], pq, _, _, rfl, by rw [h4, L_app], by rw [e4 _ _ upd_same, L_app]; rfl, hq1, hq2, tp_ex t3 e4, ((hx2.trans (ExO.of e3)).mut hpn0).trans (ExO.of e4), ?_, by rw [List.length_append]; show done.length + 1 = i + 1; omega⟩
    refine List.Perm.trans ?_ a7
    rw [List.append_assoc]
    exact List.Perm.append_left _ (perm_out hj)
  · rintro σ' H' ⟨left, done, pl, v2, v5, rfl, a1, a2, a3, a4, a5, a6, a7, a8⟩
    rw [h2] at a8
    have hlen : done.length + left.length = 2 * e := by
      have := a7.length_eq
      rw [List.length_append, List.length_range] at this
      exact this
    have hl0 : left = [] := List.eq_nil_of_length_eq_zero (by omega)
    subst hl0
    rw [List.append_nil] at a7
    refine s_ret (ev_var rfl) (fun H1 e1 => ?_)
    exact k pn H1 done hpn0 (e1 _ _ a2) ⟨by rw [a8]; exact a7⟩ a8 (tp_ex a5 e1) (a6.trans (ExO.of e1))

theorem rd_Lnexts {K : PySem.W.Frag} (F : KF K) (vs : List V) (H : Hp) (Q : VK) (E : XK) (h : sp_Lnexts K vs H Q E) : Wt_Lnexts K vs H Q := rd_Lnexts0 vs H Q E h
def sp_Lsize (K : PySem.W.Frag) : Sp := fun vs H Q _ => ∃ t : Addr, vs = [.ref t] ∧ Tp (H t) ∧ ∀ (e : Nat) H', e ≤ 30 → Tp (H' t) → ExO t H H' → Q (.int (e : Int)) H'
abbrev nm_Lsize : List Str := ["_law_tape_here", "_law_choice"]
abbrev pr_Lsize : List Str := ["_law_tape_here"]
def t_Lsize (K : PySem.W.Frag) : TS :=
  (tSeq (tAsg (tCall (sp_Lpick K) [] E0 (tCons (tVar 0) (tCons (tC (.int 32)) tNil))) (gName 1))
  (tSeq (tIfS (tTest (tOp rEq (tVar 1) (tC (.int 0)))) (tRet (tC (.int 30))) tNext)
  (tSeq (tIfS (tTest (tOp zLt (tVar 1) (tC (.int 5)))) (tRet (tCall (sp_Lpick K) [] E0 (tCons (tVar 0) (tCons (tC (.int 13)) tNil)))) tNext)
  (tRet (tCall (sp_Lpick K) [] E0 (tCons (tVar 0) (tCons (tC (.int 8)) tNil)))))))
abbrev Wt_Lsize (K : PySem.W.Frag) (vs : List V) (H : Hp) (Q : VK) : Prop := t_Lsize K { nx := fun _ H' => Q .non H', rt := Q } (start nm_Lsize vs) H
theorem ln_Lsize {K : PySem.W.Frag} (vs : List V) (H : Hp) (Q : VK) (E : XK) (h : sp_Lsize K vs H Q E) : vs.length = pr_Lsize.length := by
  obtain ⟨_, rfl, _⟩ := h
  rfl
theorem rd_Lsize {K : PySem.W.Frag} (F : KF K) (vs : List V) (H : Hp) (Q : VK) (E : XK) (h : sp_Lsize K vs H Q E) : Wt_Lsize K vs H Q := by
  obtain ⟨t, rfl, ht, k⟩ := h
  show t_Lsize K _ [some (.ref t), none] H
  have dr : ∀ (m : Int) σ H2, σ[0]? = some (some (V.ref t)) → 1 ≤ m → m ≤ 30 → Tp (H2 t) → ExO t H H2 → tRet (tCall (sp_Lpick K) [] E0 (tCons (tVar 0) (tCons (tC (.int m)) tNil))) { nx := fun _ H' => Q .non H', rt := Q } σ H2 := by
    intro m σ H2 hs m1 m2 t2 x2
    refine s_retC (ea_2 (ev_var hs) ev_c) (fun H3 e3 => ?_)
    refine ⟨t, m, rfl, tp_ex t2 e3, m1, by omega, fun d H4 d0 d1 t4 x4 => ?_⟩
    obtain ⟨j, rfl⟩ : ∃ j : Nat, d = (j : Int) := ⟨d.toNat, by omega⟩
    exact k j H4 (by omega) t4 (x2.trans ((ExO.of e3).trans x4))
  refine q_asgC (ea_2 (ev_var rfl) ev_c) (fun H1 e1 => ?_)
  refine ⟨t, 32, rfl, tp_ex ht e1, by decide, by decide, fun d H2 d0 d1 t2 x2 => ?_⟩
  have hx2 : ExO t H H2 := (ExO.of e1).trans x2
  refine q_when (b := decide (V.int d = V.int 0)) (et_test (ev_op (ev_var rfl) ev_c (rv_eq rfl))) (fun _ H3 e3 => ?_) (fun _ H3 e3 => ?_)
  · refine s_ret ev_c (fun H4 e4 => ?_)
    exact k 30 H4 (by omega) (tp_ex t2 (e3.trans e4)) (hx2.trans (ExO.of (e3.trans e4)))
  · refine q_when (b := decide (d < 5)) (et_test (ev_op (ev_var rfl) ev_c rv_I0)) (fun _ H4 e4 => ?_) (fun _ H4 e4 => ?_)
    · exact dr 13 _ H4 rfl (by decide) (by decide) (tp_ex t2 (e3.trans e4)) (hx2.trans (ExO.of (e3.trans e4)))
    · exact dr 8 _ H4 rfl (by decide) (by decide) (tp_ex t2 (e3.trans e4)) (hx2.trans (ExO.of (e3.trans e4)))

/-! ### the law's rounds -/
def sp_Ltwin (K : PySem.W.Frag) : Sp := fun vs H Q _ => ∃ h : Nat, vs = [vi h] ∧ ∀ H', Ex H H' → Q (vi (tw h)) H'
abbrev nm_Ltwin : List Str := ["_law_half"]
abbrev pr_Ltwin : List Str := ["_law_half"]
def t_Ltwin (K : PySem.W.Frag) : TS :=
  (tRet (tOp zSub (tOp zAdd (tVar 0) (tC (.int 1))) (tOp zMul (tC (.int 2)) (tOp zMod (tCB cInt (tCons (tVar 0) tNil)) (tC (.int 2))))))
abbrev Wt_Ltwin (K : PySem.W.Frag) (vs : List V) (H : Hp) (Q : VK) : Prop := t_Ltwin K { nx := fun _ H' => Q .non H', rt := Q } (start nm_Ltwin vs) H
theorem ln_Ltwin {K : PySem.W.Frag} (vs : List V) (H : Hp) (Q : VK) (E : XK) (h : sp_Ltwin K vs H Q E) : vs.length = pr_Ltwin.length := by
  obtain ⟨_, rfl, _⟩ := h
  rfl
theorem tw_int (h : Nat) : (h : Int) + 1 - 2 * (h : Int).fmod 2 = ((tw h : Nat) : Int) := by
  rw [Int.fmod_eq_emod_of_nonneg _ (by decide)]
  unfold tw
  split <;> omega
theorem rd_Ltwin {K : PySem.W.Frag} (F : KF K) (vs : List V) (H : Hp) (Q : VK) (E : XK) (h : sp_Ltwin K vs H Q E) : Wt_Ltwin K vs H Q := by
  obtain ⟨h, rfl, k⟩ := h
  show t_Ltwin K _ [some (vi h)] H
  refine s_ret (v := vi (tw h)) (ev_is (ev_op (ev_op (ev_var rfl) ev_c rv_I0) (ev_op ev_c (ev_op (ev_cb (ea_1 (ev_var rfl)) rc_int) ev_c (rv_I (by decide))) (rv_I (Or.inl ⟨by decide, by decide⟩))) rv_I0) (by show V.int ((h : Int) + 1 - 2 * (h : Int).fmod 2) = V.int _; rw [tw_int])) (fun H1 e1 => k H1 e1)
theorem spv_Ltwin {K : PySem.W.Frag} {H : Hp} (h : Nat) : SpV (sp_Ltwin K) [vi h] H (vi (tw h)) := fun H1 _ Q q E => ⟨h, rfl, q⟩

def sp_Lturned (K : PySem.W.Frag) : Sp := fun vs H Q _ => ∃ (a : Addr) (ns : List Nat) (h : Nat), vs = [.ref a, vi h] ∧ SqL K H a (L ns) ∧ IsP ns ∧ ns.length ≤ 1000 ∧ h < ns.length ∧
  ∀ H', Ex H H' → Q (vi (tw (bk ns h))) H'
abbrev nm_Lturned : List Str := ["_law_nexts_here", "_law_half", "_law_k"]
abbrev pr_Lturned : List Str := ["_law_nexts_here", "_law_half"]
def t_Lturned (K : PySem.W.Frag) : TS :=
  (tSeq (tFor (iRng1 (tCons (tCB (cLen K) (tCons (tVar 0) tNil)) tNil)) (gName 2) (tIfS (tTest (tOp rEq (tOp (rIxL K) (tVar 0) (tVar 2)) (tVar 1))) (tRet (tCall (sp_Ltwin K) [] E0 (tCons (tVar 2) tNil))) tNext))
  (tRet (tUn zNeg (tC (.int 1)))))
abbrev Wt_Lturned (K : PySem.W.Frag) (vs : List V) (H : Hp) (Q : VK) : Prop := t_Lturned K { nx := fun _ H' => Q .non H', rt := Q } (start nm_Lturned vs) H
theorem ln_Lturned {K : PySem.W.Frag} (vs : List V) (H : Hp) (Q : VK) (E : XK) (h : sp_Lturned K vs H Q E) : vs.length = pr_Lturned.length := by
  obtain ⟨_, _, _, rfl, _⟩ := h
  rfl
theorem rd_Lturned {K : PySem.W.Frag} (F : KF K) (vs : List V) (H : Hp) (Q : VK) (E : XK) (h : sp_Lturned K vs H Q E) : Wt_Lturned K vs H Q := by
  obtain ⟨a, ns, h, rfl, hS, hP, hl, hh, k⟩ := h
  show t_Lturned K _ [some (.ref a), some (vi h), none] H
  refine q_forR1 (n := (ns.length : Int)) (ea_1 (ev_is (ev_cb (ea_1 (ev_var rfl)) (rc_len hS)) (by rw [L_len]))) (by omega) (fun i σ' H' => ∃ v, σ' = [some (.ref a), some (vi h), v] ∧ Ex H H' ∧ i ≤ bk ns h) ?_ ?_ ?_
  · intro H1 e1
    exact ⟨none, rfl, e1, Nat.zero_le _⟩
  · rintro i σ' H' hi ⟨v, rfl, ex, hb⟩
    have hi' : i < ns.length := by omega
    refine s_when (b := decide (vi (fn ns i) = vi h)) (et_test (ev_op (ev_op (ev_var rfl) (ev_var rfl) (rv_ixL (ex_l ex hS) (L_at hi'))) (ev_var rfl) (rv_eq rfl))) (fun ht H1 e1 => ?_) (fun hf H1 e1 => ?_)
    · have e0 : fn ns i = h := by
        have := of_decide_eq_true ht
        injection this with this
        omega
      have e2 : i = bk ns h := by rw [← e0, bk_fn hP hi']
      refine s_retC (ea_1 (ev_var rfl)) (fun H2 e2' => ?_)
      refine ⟨i, rfl, fun H3 e3 => ?_⟩
      show Q (vi (tw i)) H3
      rw [e2]
      exact k H3 (ex.trans (e1.trans (e2'.trans e3)))
    · refine ⟨_, rfl, ex.trans e1, ?_⟩
      have e0 : i ≠ bk ns h := fun e => by
        refine (of_decide_eq_false hf) ?_
        rw [e, fn_bk hP hh]
      omega
  · rintro σ' H' ⟨v, rfl, ex, hb⟩
    have := bk_lt hP hh
    rw [Int.toNat_natCast] at hb
    omega
theorem spv_Lturned {K : PySem.W.Frag} {H : Hp} {a : Addr} {ns : List Nat} {h : Nat} (hS : SqL K H a (L ns)) (hP : IsP ns) (hl : ns.length ≤ 1000) (hh : h < ns.length) : SpV (sp_Lturned K) [.ref a, vi h] H (vi (tw (bk ns h))) :=
  fun H1 e Q q E => ⟨a, ns, h, rfl, ex_l e hS, hP, hl, hh, q⟩

/-- one step of a face, of a corner -/
def stp (ns : List Nat) (b : Bool) (x : Nat) : Nat := if b then fn ns x else tw (bk ns x)
theorem pf_stp {ns : List Nat} (h : IsP ns) (h2 : ns.length % 2 = 0) (b : Bool) : Pf (stp ns b) ns.length := by
  cases b with
  | true => exact pf_fn h
  | false => exact pf_turn h h2
def sp_Lround (K : PySem.W.Frag) : Sp := fun vs H Q _ => ∃ (a : Addr) (ns : List Nat) (h : Nat) (b : Bool), vs = [.ref a, vi h, .bl b] ∧ SqL K H a (L ns) ∧ IsP ns ∧ ns.length % 2 = 0 ∧ ns.length ≤ 1000 ∧ h < ns.length ∧
  ∀ p H', H p = none → Ex H H' → H' p = some (.lst (L (rnd (stp ns b) ns.length h))) → Q (.ref p) H'
abbrev nm_Lround : List Str := ["_law_nexts_here", "_law_half", "_law_by_face", "_law_found", "_law_after"]
abbrev pr_Lround : List Str := ["_law_nexts_here", "_law_half", "_law_by_face"]
def t_Lround (K : PySem.W.Frag) : TS :=
  (tSeq (tAsg (tLst (tCons (tVar 1) tNil)) (gName 3))
  (tSeq (tAsg (tIf (tB (tVar 2)) (tOp (rIxL K) (tVar 0) (tVar 1)) (tCall (sp_Lturned K) [] E0 (tCons (tVar 0) (tCons (tVar 1) tNil)))) (gName 4))
  (tSeq (tWhile (tAnd (tTest (tOp rNe (tVar 4) (tVar 1))) (tTest (tOp zLe (tCB (cLen K) (tCons (tVar 3) tNil)) (tCB (cLen K) (tCons (tVar 0) tNil))))) (tSeq (tDrop (tBM K "list" rAppend (tVar 3) (tCons (tVar 4) tNil)))
      (tAsg (tIf (tB (tVar 2)) (tOp (rIxL K) (tVar 0) (tVar 4)) (tCall (sp_Lturned K) [] E0 (tCons (tVar 0) (tCons (tVar 4) tNil)))) (gName 4))))
  (tRet (tVar 3)))))
abbrev Wt_Lround (K : PySem.W.Frag) (vs : List V) (H : Hp) (Q : VK) : Prop := t_Lround K { nx := fun _ H' => Q .non H', rt := Q } (start nm_Lround vs) H
theorem ln_Lround {K : PySem.W.Frag} (vs : List V) (H : Hp) (Q : VK) (E : XK) (h : sp_Lround K vs H Q E) : vs.length = pr_Lround.length := by
  obtain ⟨_, _, _, _, rfl, _⟩ := h
  rfl
theorem ev_stp {K : PySem.W.Frag} {σ : L2.St} {H : Hp} {a : Addr} {ns : List Nat} {b : Bool} {i x : Nat} (hS : SqL K H a (L ns)) (hP : IsP ns) (hl : ns.length ≤ 1000) (s0 : σ[0]? = some (some (.ref a))) (s2 : σ[2]? = some (some (.bl b))) (si : σ[i]? = some (some (vi x))) (hx : x < ns.length) :
    Ev (tIf (tB (tVar 2)) (tOp (rIxL K) (tVar 0) (tVar i)) (tCall (sp_Lturned K) [] E0 (tCons (tVar 0) (tCons (tVar i) tNil)))) σ H (vi (stp ns b x)) := by
  refine ev_if (b := b) (et_B (ev_var s2)) (fun hb => ?_) (fun hb => ?_)
  · subst hb
    exact ev_op (ev_var s0) (ev_var si) (rv_ixL hS (L_at hx))
  · subst hb
    exact ev_call (ea_2 (ev_var s0) (ev_var si)) (spv_Lturned hS hP hl hx)
theorem range_map_snoc {α : Type} (f : Nat → α) (k : Nat) : (List.range (k + 1)).map f = (List.range k).map f ++ [f k] := by
  rw [List.range_succ, List.map_append]
  rfl
theorem rd_Lround {K : PySem.W.Frag} (F : KF K) (vs : List V) (H : Hp) (Q : VK) (E : XK) (h : sp_Lround K vs H Q E) : Wt_Lround K vs H Q := by
  obtain ⟨a, ns, h, b, rfl, hS, hP, h2, hl, hh, kk⟩ := h
  show t_Lround K _ [some (.ref a), some (vi h), some (.bl b), none, none] H
  have PF := pf_stp hP h2 b
  obtain ⟨p1, p2, p3⟩ := per_spec PF hh
  have p0 := per_pos (stp ns b) ns.length h
  refine q_asgL (el_lst (ea_1 (ev_var rfl)) (by show 1 ≤ 100000; decide)) (fun p H1 hp e1 h1 => ?_)
  refine q_asg (ev_stp (i := 1) (x := h) (ex_l e1 hS) hP hl rfl rfl rfl hh) (fun H2 e2 => ?_)
  refine q_while (fun m σ' H' => ∃ k, 1 ≤ k ∧ k ≤ per (stp ns b) ns.length h ∧ m = per (stp ns b) ns.length h - k ∧ σ' = [some (.ref a), some (vi h), some (.bl b), some (.ref p), some (vi (itr (stp ns b) k h))] ∧
      H' p = some (.lst (L ((List.range k).map fun j => itr (stp ns b) j h))) ∧ Ex H H') (per (stp ns b) ns.length h - 1) ?_ ?_
  · exact ⟨1, Nat.le_refl _, p0, rfl, rfl, e2 _ _ h1, e1.trans e2⟩
  · rintro m σ' H' ⟨k, k1, k2, rfl, rfl, a1, ex⟩
    refine ⟨_, et_and (et_test (ev_op (ev_var rfl) (ev_var rfl) (rv_ne rfl))) (fun _ => et_test (ev_op (ev_cb (ea_1 (ev_var rfl)) (rc_len (sq_of a1))) (ev_cb (ea_1 (ev_var rfl)) (rc_len (ex_l ex hS))) rv_I0)), fun hb H1 e1 => ?_, fun hb H1 e1 => ?_⟩
    · obtain ⟨b1, b2⟩ := Bool.and_eq_true_iff.mp hb
      have hne : itr (stp ns b) k h ≠ h := fun e => by
        rw [e] at b1
        simp at b1
      have hk : k < per (stp ns b) ns.length h := by
        refine Nat.lt_of_le_of_ne k2 fun e => hne ?_
        rw [e]
        exact p1
      refine ⟨_, fun σ2 H2 hN => ⟨per (stp ns b) ns.length h - (k + 1), by omega, hN⟩, ?_⟩
      refine q_app (e1 _ _ a1) (ev_var rfl) (ev_var rfl) (by rw [L_len, List.length_map, List.length_range]; omega) (fun H2 e2 => ?_)
      have ex2 : Ex H (upd H2 p (.lst (L ((List.range k).map fun j => itr (stp ns b) j h) ++ [vi (itr (stp ns b) k h)]))) := Ex.mut (ex.trans (e1.trans e2)) hp
      refine s_asg (ev_stp (i := 4) (ex_l ex2 hS) hP hl rfl rfl rfl (itr_lt PF hh k)) (fun H3 e3 => ?_)
      refine ⟨k + 1, by omega, by omega, rfl, rfl, ?_, ex2.trans e3⟩
      rw [e3 _ _ upd_same, range_map_snoc, L_app]
      rfl
    · have hk : k = per (stp ns b) ns.length h := by
        refine Classical.byContradiction fun hne => ?_
        have h3 := p3 k (by omega) (by omega)
        have c1 : (!decide (vi (itr (stp ns b) k h) = vi h)) = true := by
          rw [decide_eq_false (fun e => h3 (by injection e with e; omega))]
          rfl
        have c2 : decide (((L ((List.range k).map fun j => itr (stp ns b) j h)).length : Int) ≤ ((L ns).length : Int)) = true := by
          rw [L_len, L_len, List.length_map, List.length_range]
          exact decide_eq_true (by omega)
        have c3 : ((!decide (vi (itr (stp ns b) k h) = vi h)) && decide (((L ((List.range k).map fun j => itr (stp ns b) j h)).length : Int) ≤ ((L ns).length : Int))) = true := by
          rw [c1, c2]
          rfl
        exact Bool.false_ne_true (hb.symm.trans c3)
      refine s_ret (ev_var rfl) (fun H2 e2 => ?_)
      refine kk p H2 hp (ex.trans (e1.trans e2)) ?_
      rw [e2 _ _ (e1 _ _ a1), hk]
      rfl
theorem spl_Lround {K : PySem.W.Frag} {H : Hp} {a : Addr} {ns : List Nat} {h : Nat} {b : Bool} (hS : SqL K H a (L ns)) (hP : IsP ns) (h2 : ns.length % 2 = 0) (hl : ns.length ≤ 1000) (hh : h < ns.length) : SpL (sp_Lround K) [.ref a, vi h, .bl b] H (L (rnd (stp ns b) ns.length h)) :=
  fun H1 e Q q E => ⟨a, ns, h, b, rfl, ex_l e hS, hP, h2, hl, hh, fun p H' hp ex hq => q p H' hp ex hq⟩

def sp_Lrounds (K : PySem.W.Frag) : Sp := fun vs H Q _ => ∃ (a : Addr) (ns : List Nat) (b : Bool), vs = [.ref a, .bl b] ∧ SqL K H a (L ns) ∧ IsP ns ∧ ns.length % 2 = 0 ∧ ns.length ≤ 1000 ∧
  ∀ p H', H p = none → Ex H H' → LLn H H' p (cycs (stp ns b) ns.length ns.length) → Q (.ref p) H'
abbrev nm_Lrounds : List Str := ["_law_nexts_here", "_law_by_face", "_law_found", "_law_half", "_law_members"]
abbrev pr_Lrounds : List Str := ["_law_nexts_here", "_law_by_face"]
def t_Lrounds (K : PySem.W.Frag) : TS :=
  (tSeq (tAsg (tLst tNil) (gName 2))
  (tSeq (tFor (iRng1 (tCons (tCB (cLen K) (tCons (tVar 0) tNil)) tNil)) (gName 3) (tSeq (tAsg (tCall (sp_Lround K) [] E0 (tCons (tVar 0) (tCons (tVar 3) (tCons (tVar 1) tNil)))) (gName 4))
      (tIfS (tTest (tOp rEq (tCB (rMin K) (tCons (tVar 4) tNil)) (tVar 3))) (tDrop (tBM K "list" rAppend (tVar 2) (tCons (tVar 4) tNil))) tNext)))
  (tRet (tVar 2))))
abbrev Wt_Lrounds (K : PySem.W.Frag) (vs : List V) (H : Hp) (Q : VK) : Prop := t_Lrounds K { nx := fun _ H' => Q .non H', rt := Q } (start nm_Lrounds vs) H
theorem ln_Lrounds {K : PySem.W.Frag} (vs : List V) (H : Hp) (Q : VK) (E : XK) (h : sp_Lrounds K vs H Q E) : vs.length = pr_Lrounds.length := by
  obtain ⟨_, _, _, rfl, _⟩ := h
  rfl
theorem rd_Lrounds {K : PySem.W.Frag} (F : KF K) (vs : List V) (H : Hp) (Q : VK) (E : XK) (h : sp_Lrounds K vs H Q E) : Wt_Lrounds K vs H Q := by
  obtain ⟨a, ns, b, rfl, hS, hP, h2, hl, kk⟩ := h
  show t_Lrounds K _ [some (.ref a), some (.bl b), none, none, none] H
  have PF := pf_stp hP h2 b
  refine q_asgL (el_lst ea_nil (Nat.zero_le _)) (fun p H1 hp e1 h1 => ?_)
  refine q_forR1 (n := (ns.length : Int)) (ea_1 (ev_is (ev_cb (ea_1 (ev_var rfl)) (rc_len (ex_l e1 hS))) (by rw [L_len]))) (by omega)
    (fun i σ' H' => ∃ v3 v4 as, σ' = [some (.ref a), some (.bl b), some (.ref p), v3, v4] ∧ Ex H H' ∧ H' p = some (.lst (as.map V.ref)) ∧ LA H' as (cycs (stp ns b) ns.length i) ∧ (∀ x ∈ as, H x = none ∧ x ≠ p) ∧ as.length ≤ i) ?_ ?_ ?_
  · intro H2 e2
    exact ⟨_, _, [], rfl, e1.trans e2, e2 _ _ h1, .nil, fun x hx => (nomatch hx), Nat.le_refl _⟩
  · rintro i σ' H' hi ⟨v3, v4, as, rfl, ex, a1, a2, a3, a4⟩
    have hi' : i < ns.length := by omega
    refine q_asgL (el_call (ea_cons (ev_var rfl) (ea_2 (ev_var rfl) (ev_var rfl))) (spl_Lround (ex_l ex hS) hP h2 hl hi')) (fun pm H2 hpm e2 h2' => ?_)
    have hr0 := per_pos (stp ns b) ns.length i
    have hself := rnd_self PF hi'
    have hne : 0 < (rnd (stp ns b) ns.length i).length := by rw [rnd_length]; exact hr0
    -- the least of the round
    obtain ⟨mm, hm1, hm2⟩ : ∃ mm, mm ∈ rnd (stp ns b) ns.length i ∧ ∀ y ∈ rnd (stp ns b) ns.length i, mm ≤ y := by
      have key : ∀ l : List Nat, l ≠ [] → ∃ mm, mm ∈ l ∧ ∀ y ∈ l, mm ≤ y := by
        intro l
        induction l with
        | nil => intro h; exact absurd rfl h
        | cons x r ih =>
          intro _
          by_cases hr : r = []
          · subst hr
            exact ⟨x, List.mem_cons_self .., fun y hy => by rcases List.mem_cons.mp hy with rfl | hy; exact Nat.le_refl _; cases hy⟩
          · obtain ⟨mm, q1, q2⟩ := ih hr
            by_cases hx : x ≤ mm
            · exact ⟨x, List.mem_cons_self .., fun y hy => by
                rcases List.mem_cons.mp hy with rfl | hy
                · exact Nat.le_refl _
                · exact Nat.le_trans hx (q2 y hy)⟩
            · exact ⟨mm, List.mem_cons_of_mem _ q1, fun y hy => by
                rcases List.mem_cons.mp hy with rfl | hy
                · omega
                · exact q2 y hy⟩
      exact key _ fun e => by rw [e] at hself; cases hself
    have hmin : Ev (tCB (rMin K) (tCons (tVar 4) tNil)) [some (.ref a), some (.bl b), some (.ref p), some (vi i), some (.ref pm)] H2 (vi mm) := by
      refine ev_cb (ea_1 (ev_var rfl)) (rc_min (ns := (rnd (stp ns b) ns.length i).map fun n : Nat => (n : Int)) (by rw [← L_int]; exact sq_of h2') (by rw [List.length_map]; exact hne) fun m' q1 q2 => ?_)
      obtain ⟨z, z1, rfl⟩ := List.mem_map.mp q1
      have := hm2 z z1
      have := q2 (mm : Int) (List.mem_map.mpr ⟨mm, hm1, rfl⟩)
      omega
    refine s_when (b := decide (vi mm = vi i)) (et_test (ev_op hmin (ev_var rfl) (rv_eq rfl))) (fun hb H3 e3 => ?_) (fun hb H3 e3 => ?_)
    · have e0 : mm = i := by
        have := of_decide_eq_true hb
        injection this with this
        omega
      have hmn : isMin (stp ns b) ns.length i = true := isMin_iff.mpr fun y hy => by
        have := hm2 y hy
        omega
      have ex3 := ex.trans (e2.trans e3)
      refine s_app (e3 _ _ (e2 _ _ a1)) (ev_var rfl) (ev_var rfl) (by rw [List.length_map]; omega) (fun H4 e4 => ?_)
      have hpp : pm ≠ p := (ne_of_none a1 hpm).symm
      refine ⟨_, _, as ++ [pm], rfl, Ex.mut (ex3.trans e4) hp, ?_, ?_, fun x hx => ?_, by rw [List.length_append]; show as.length + 1 ≤ i + 1; omega⟩
      · rw [upd_same, List.map_append]
        rfl
      · rw [cycs_yes hmn]
        refine paired_snoc (LA.upd (LA.ex a2 (e2.trans (e3.trans e4))) fun x hx => (a3 x hx).2) ?_
        show upd H4 p _ pm = _
        rw [upd_ne hpp]
        exact e4 _ _ (e3 _ _ h2')
      · rcases List.mem_append.mp hx with hx | hx
        · exact a3 x hx
        · rw [List.mem_singleton.mp hx]
          exact ⟨fresh_back ex hpm, hpp⟩
    · have hmn : ¬ isMin (stp ns b) ns.length i = true := fun hm => by
        refine (of_decide_eq_false hb) ?_
        have h5 := isMin_iff.mp hm mm hm1
        have h6 := hm2 i hself
        have : mm = i := by omega
        rw [this]
      refine ⟨_, _, as, rfl, ex.trans (e2.trans e3), e3 _ _ (e2 _ _ a1), ?_, a3, by omega⟩
      rw [cycs_no hmn]
      exact LA.ex a2 (e2.trans e3)
  · rintro σ' H' ⟨v3, v4, as, rfl, ex, a1, a2, a3, a4⟩
    rw [Int.toNat_natCast] at a2
    refine s_ret (ev_var rfl) (fun H2 e2 => ?_)
    exact kk p H2 hp (ex.trans e2) ⟨as, e2 _ _ a1, LA.ex a2 e2, a3⟩
end Hm
/-! len(set(xs)), xs ints of any number -/
namespace Hm
open PySem PySem.Spec PyProof.Rows
def fmI (ns : List Int) (i : Nat) : List Int := PyProof.Rows.firstMet (fun i => ns.getD i 0) i
def cntI (ns : List Int) : Nat := (fmI ns ns.length).length
theorem fmI_succ (ns : List Int) (i : Nat) : fmI ns (i + 1) = if (fmI ns i).any (· == ns.getD i 0) then fmI ns i else fmI ns i ++ [ns.getD i 0] := PyProof.Rows.firstMet_succ _ _
theorem fmI_len (ns : List Int) : ∀ i, (fmI ns i).length ≤ i
  | 0 => Nat.le_refl _
  | i + 1 => by
    have h := fmI_len ns i
    rw [fmI_succ]
    split
    · omega
    · rw [List.length_append]
      show _ + 1 ≤ _
      omega
theorem fmI_full (ns : List Int) : ∀ i, i ≤ ns.length → (fmI ns i).length = i → fmI ns i = ns.take i ∧ (ns.take i).Nodup
  | 0, _, _ => ⟨rfl, List.nodup_nil⟩
  | i + 1, hi, h => by
    rw [fmI_succ] at h ⊢
    have hlt : i < ns.length := hi
    have e1 : ns.getD i 0 = ns[i] := by
      rw [List.getD_eq_getElem?_getD, List.getElem?_eq_getElem hlt] <;> rfl
    have e2 : ns.take (i + 1) = ns.take i ++ [ns[i]] := by
      rw [List.take_add_one, List.getElem?_eq_getElem hlt] <;> rfl
    by_cases hb : (fmI ns i).any (· == ns.getD i 0) = true
    · rw [if_pos hb] at h
      have := fmI_len ns i
      omega
    · rw [if_neg hb] at h ⊢
      rw [List.length_append] at h
      have h2 : [ns.getD i 0].length = 1 := rfl
      obtain ⟨q1, q2⟩ := fmI_full ns i (by omega) (by omega)
      rw [q1, e1, e2]
      refine ⟨rfl, ?_⟩
      refine List.nodup_append.mpr ⟨q2, by simp, fun x hx y hy e => ?_⟩
      have hy := List.mem_singleton.mp hy
      refine hb (List.any_eq_true.mpr ⟨x, by rw [q1]; exact hx, ?_⟩)
      rw [e1, e, hy]
      exact beq_self_eq_true _
theorem cntI_iff (ns : List Int) : cntI ns = ns.length ↔ ns.Nodup := by
  constructor
  · intro h
    have := (fmI_full ns ns.length (Nat.le_refl _) h).2
    rwa [List.take_length] at this
  · intro h
    unfold cntI fmI
    rw [RZ.firstMet_nodup h ns.length (Nat.le_refl _), List.take_length]
namespace PSetI
open PySem PySem.Spec PyProof.Rows L2
def tLenI (K : PySem.W.Frag) (ta : TE) : TE := fun σ H Q => ta σ H fun x H1 => ∃ (l : Addr) (ns : List Int), x = .ref l ∧ SqL K H1 l (ns.map V.int) ∧ ns.length ≤ 4000 ∧ Q (.int (cntI ns : Nat)) H1
theorem pe_lenI {X : Cx} {a : Expr} {ta : TE} {p p2 q pos : Pos} (hc : X.calm = true) (hg : Gl X "len") (hm : X.mg "len" = none) (hg2 : Gl X "set") (hm2 : X.mg "set" = none) (ha : PE X a ta)
    (na : starEach [a] X.env = (false, eval a X.env) :: starEach [] X.env := by rfl) : PE X (.Call (.Name "len" p) [.Call (.Name "set" p2) [a] [] q] [] pos) (tLenI X.K ta) := by
  refine ⟨fun pins s σ H Q I h => ?_⟩
  refine Call_ (ld_blt I hg hm PySem.boot_len ?_)
  refine PyProof.Rows.callWith_builtin1 (PyProof.Rows.args_cons ?_ rfl) rfl rfl
  refine Call_ (ld_blt I hg2 hm2 PyProof.Rows.boot_set ?_)
  refine PyProof.Rows.callWith_type1 (PyProof.Rows.args_cons (thn (ha.run pins s σ H _ I h) fun v s1 ⟨x, H1, I1, r1, q1⟩ => PyProof.Rows.args_nil ?_) na) na rfl
  obtain ⟨l, ns, rfl, hq, hl, q1⟩ := q1
  cases r1
  obtain ⟨its, r, pl, hz⟩ := I1.list hq
  have hlen : its.toArray.size = ns.length := by rw [List.size_toArray, ← r.length, List.length_map]
  refine call_set_list (I1.ok.hd hc) pl.isList (by simpa using RZ.intsAre_vals r) (by rw [hlen]; unfold scanBound; omega) fun h' tk hS hk => ?_
  refine PyProof.Rows.args_nil ?_
  rw [hlen] at hS
  obtain ⟨o, es, ep, t, ho, hex, hd, _, _, _, hf, hn⟩ := hS
  have I2 : Inv X pins σ H1 { s1 with heap := h', toks := tk } := I1.kept fun b o e => hk b o (Heap.lt_size e) e
  have hb := fmI_len ns ns.length
  exact call_len_set ho hex hd hf (by rw [hn]; unfold fmI at hb; omega) ⟨.int (cntI ns : Nat), H1, I2.tok _, ⟨_, by rw [hn]; rfl⟩, q1⟩
end PSetI
end Hm
namespace Hm
open PySem PySem.Spec PyProof.Rows L2 Evl
/-! ### the program: what is a mesh -/
def isI : V → Bool
  | .int _ => true
  | _ => false
/-- an int or a bool -/
def IB (v : V) : Prop := (∃ i, v = .int i) ∨ (∃ b, v = .bl b)
def sp_isinteger (K : PySem.W.Frag) : Sp := fun vs H Q _ => ∃ v : V, vs = [v] ∧ IB v ∧ ∀ H', Ex H H' → Q (.bl (isI v)) H'
abbrev nm_isinteger : List Str := ["value"]
abbrev pr_isinteger : List Str := ["value"]
def t_isinteger (K : PySem.W.Frag) : TS :=
  (tRet (tAndV (tCB (rIsi K) (tCons (tVar 0) (tCons (tC (.ty "int")) tNil))) (tNotV (tCB (rIsi K) (tCons (tVar 0) (tCons (tC (.ty "bool")) tNil))))))
abbrev Wt_isinteger (K : PySem.W.Frag) (vs : List V) (H : Hp) (Q : VK) : Prop := t_isinteger K { nx := fun _ H' => Q .non H', rt := Q } (start nm_isinteger vs) H
theorem ln_isinteger {K : PySem.W.Frag} (vs : List V) (H : Hp) (Q : VK) (E : XK) (h : sp_isinteger K vs H Q E) : vs.length = pr_isinteger.length := by
  obtain ⟨_, rfl, _⟩ := h
  rfl
theorem rd_isinteger0 {K : PySem.W.Frag} (vs : List V) (H : Hp) (Q : VK) (E : XK) (h : sp_isinteger K vs H Q E) : Wt_isinteger K vs H Q := by
  obtain ⟨v, rfl, hv, k⟩ := h
  show t_isinteger K _ [some v] H
  rcases hv with ⟨i, rfl⟩ | ⟨b, rfl⟩
  · refine s_ret (v := .bl (true && !false)) (ev_andV (ev_cb (ea_2 (ev_var rfl) ev_c) (rc_isi (.ty "int") (fun H1 _ => .base (.int i)) (kit_ty (by decide +kernel)))) (fun _ => ev_notV (ev_cb (ea_2 (ev_var rfl) ev_c) (rc_isi (.ty "bool") (fun H1 _ => .base (.int i)) (kit_ty (by decide +kernel)))))) (fun H1 e1 => k H1 e1)
  · refine s_ret (v := .bl (true && !true)) (ev_andV (ev_cb (ea_2 (ev_var rfl) ev_c) (rc_isi (.ty "int") (fun H1 _ => .base (.bl b)) (kit_ty (by decide +kernel)))) (fun _ => ev_notV (ev_cb (ea_2 (ev_var rfl) ev_c) (rc_isi (.ty "bool") (fun H1 _ => .base (.bl b)) (kit_ty (by decide +kernel)))))) (fun H1 e1 => k H1 e1)
theorem rd_isinteger {K : PySem.W.Frag} (F : KF K) (vs : List V) (H : Hp) (Q : VK) (E : XK) (h : sp_isinteger K vs H Q E) : Wt_isinteger K vs H Q := rd_isinteger0 vs H Q E h
theorem spv_isinteger {K : PySem.W.Frag} {H : Hp} {v : V} (h : IB v) : SpV (sp_isinteger K) [v] H (.bl (isI v)) := fun H1 _ Q q E => ⟨v, rfl, h, q⟩

def dZ (zs : List Int) : PyData := .list (zs.map PyData.int)
theorem eqv_Zs : ∀ zs ys : List Int, PyData.eqvAll (zs.map PyData.int) (ys.map PyData.int) = decide (zs = ys)
  | [], [] => by simp [PyData.eqvAll]
  | [], _ :: _ => by simp [PyData.eqvAll]
  | _ :: _, [] => by simp [PyData.eqvAll]
  | n :: r, m :: s => by
    have h := eqv_Zs r s
    simp only [List.map_cons, PyData.eqvAll, PyData.eqv, h]
    by_cases e : n = m <;> simp [e]
theorem eqv_dZ (zs ys : List Int) : PyData.eqv (dZ zs) (dZ ys) = decide (zs = ys) := by
  unfold dZ
  simp only [PyData.eqv]
  exact eqv_Zs zs ys
theorem rv_eqZ {K : PySem.W.Frag} {H : Hp} {a b : Addr} {ns ms : List Int} (h1 : SqL K H a (ns.map V.int)) (h2 : SqL K H b (ms.map V.int)) : RV (rEqD K) (.ref a) (.ref b) H (.bl (decide (ns = ms))) := by
  rw [← eqv_dZ]
  exact rv_eqD' (Dp.lst h1 (dpAll_ints _)) (Dp.lst h2 (dpAll_ints _)) (shaped_ints _) (shaped_ints _)
theorem el_rg1 {K : PySem.W.Frag} {σ : L2.St} {H : Hp} {te : TE} {n : Nat} (h : Ev te σ H (.int (n : Int))) (hn : n ≤ 100000) : EvL (tLstRg (tRg1 te)) σ H (((List.range n).map fun i : Nat => (i : Int)).map V.int) := fun H1 e Q q =>
  h H1 e _ fun H2 e2 => ⟨(n : Int), rfl, RgOk.of_le (by omega) (by omega) (by omega) (by omega), fun p hp => by
    have e3 : rgV 0 (n : Int) = ((List.range n).map fun i : Nat => (i : Int)).map V.int := by
      unfold rgV
      rw [List.map_map, Int.sub_zero, Int.toNat_natCast]
      refine List.map_congr_left fun i _ => ?_
      show V.int (0 + (i : Int)) = V.int (i : Int)
      rw [Int.zero_add]
    rw [e3]
    exact q p _ (fresh_back e2 hp) (e2.trans (Ex.new hp)) upd_same⟩
section
variable {K : PySem.W.Frag} {σ : L2.St} {H H' : Hp} {ta tb tc te tx : TE} {x y z v : V} {r r' : R2}
theorem ev_chain {a b : Bool} (ha : Ev ta σ H x) (hb : Ev tb σ H y) (hr : RV r x y H (.bl a)) (hc : a = true → Ev tc σ H z) (hr2 : a = true → RV r' y z H (.bl b)) : Ev (tChain r r' ta tb tc) σ H (.bl (a && b)) := fun H1 e Q q =>
  ha H1 e _ fun H2 e2 => hb H2 (e.trans e2) _ fun H3 e3 => hr H3 ((e.trans e2).trans e3) _ fun H4 e4 => ⟨a, rfl, by
    have e5 := ((e.trans e2).trans e3).trans e4
    cases a with
    | false => exact q H4 ((e2.trans e3).trans e4)
    | true => exact hc rfl H4 e5 _ fun H5 e6 => hr2 rfl H5 (e5.trans e6) _ fun H6 e7 => q H6 (((e2.trans e3).trans e4).trans (e6.trans e7))⟩
theorem ev_lenSI {p : Addr} {ns : List Int} (h : Ev ta σ H (.ref p)) (hS : SqL K H p (ns.map V.int)) (hl : ns.length ≤ 4000) : Ev (PSetI.tLenI K ta) σ H (.int (cntI ns : Nat)) := fun H1 e Q q =>
  h H1 e _ fun H2 e2 => ⟨p, ns, rfl, ex_l (e.trans e2) hS, hl, q H2 e2⟩
end
/-- numbers below n, each once -/
def Below (xs : List V) (n : Nat) : Prop := ∃ ns, xs = L ns ∧ ns.Nodup ∧ ∀ x ∈ ns, x < n
def okN (n : Nat) : V → Bool
  | .int i => decide (0 ≤ i) && decide (i < (n : Int))
  | _ => false
theorem okN_ints {n : Nat} : ∀ {xs : List V}, (∀ x ∈ xs, okN n x = true) → ∃ ns : List Nat, xs = L ns ∧ ∀ x ∈ ns, x < n
  | [], _ => ⟨[], rfl, fun _ h => nomatch h⟩
  | x :: r, h => by
    obtain ⟨ns, e, b⟩ := okN_ints (xs := r) fun y hy => h y (List.mem_cons_of_mem _ hy)
    have hx := h x (List.mem_cons_self ..)
    cases x with
    | int i =>
      have hx : (decide (0 ≤ i) && decide (i < (n : Int))) = true := hx
      rw [Bool.and_eq_true] at hx
      have h0 := of_decide_eq_true hx.1
      have h1 := of_decide_eq_true hx.2
      refine ⟨i.toNat :: ns, ?_, fun y hy => ?_⟩
      · rw [e]
        show V.int i :: L ns = V.int ((i.toNat : Nat) : Int) :: L ns
        have e3 : ((i.toNat : Nat) : Int) = i := by omega
        rw [e3]
      · rcases List.mem_cons.mp hy with rfl | hy
        · omega
        · exact b y hy
    | _ => cases hx
theorem okN_L {n : Nat} {ns : List Nat} (h : ∀ x ∈ ns, x < n) : ∀ x ∈ L ns, okN n x = true := by
  intro x hx
  obtain ⟨m, hm, rfl⟩ := List.mem_map.mp hx
  have := h m hm
  show (decide ((0 : Int) ≤ (m : Int)) && decide ((m : Int) < (n : Int))) = true
  rw [decide_eq_true (by omega), decide_eq_true (by omega)]
  rfl
theorem L_inj {a b : List Nat} (h : L a = L b) : a = b := by
  induction a generalizing b with
  | nil => cases b with
    | nil => rfl
    | cons _ _ => cases h
  | cons x r ih => cases b with
    | nil => cases h
    | cons y s =>
      injection h with h1 h2
      injection h1 with h1
      rw [ih h2, show x = y by omega]
theorem nodup_cast {ns : List Nat} : (ns.map fun n : Nat => (n : Int)).Nodup ↔ ns.Nodup := by
  rw [List.nodup_iff_pairwise_ne, List.nodup_iff_pairwise_ne, List.pairwise_map]
  exact ⟨fun h => h.imp fun e q => e (by rw [q]), fun h => h.imp fun e q => e (by omega)⟩
def sp_arehalves (K : PySem.W.Frag) : Sp := fun vs H Q _ => ∃ (a : Addr) (xs : List V) (n : Nat), vs = [.ref a, vi n] ∧ SqL K H a xs ∧ xs.length ≤ 4000 ∧ (∀ x ∈ xs, IB x) ∧
  ∀ b H', (b = true ↔ Below xs n) → Ex H H' → Q (.bl b) H'
abbrev nm_arehalves : List Str := ["numbers", "count", "number"]
abbrev pr_arehalves : List Str := ["numbers", "count"]
def t_arehalves (K : PySem.W.Frag) : TS :=
  (tSeq (tIfS (tNot (tB (tCB (rAll K) (tCons (tLc (iList K (tVar 0)) (gName 2) tYes (tAndV (tCall (sp_isinteger K) [] E0 (tCons (tVar 2) tNil)) (tChain zLe zLt (tC (.int 0)) (tVar 2) (tVar 1))) [2]) tNil)))) (tRet (tC (.bl false))) tNext)
  (tRet (tOp rEq (PSetI.tLenI K (tVar 0)) (tCB (cLen K) (tCons (tVar 0) tNil)))))
abbrev Wt_arehalves (K : PySem.W.Frag) (vs : List V) (H : Hp) (Q : VK) : Prop := t_arehalves K { nx := fun _ H' => Q .non H', rt := Q } (start nm_arehalves vs) H
theorem ln_arehalves {K : PySem.W.Frag} (vs : List V) (H : Hp) (Q : VK) (E : XK) (h : sp_arehalves K vs H Q E) : vs.length = pr_arehalves.length := by
  obtain ⟨_, _, _, rfl, _⟩ := h
  rfl
theorem rd_arehalves0 {K : PySem.W.Frag} (vs : List V) (H : Hp) (Q : VK) (E : XK) (h : sp_arehalves K vs H Q E) : Wt_arehalves K vs H Q := by
  obtain ⟨a, xs, n, rfl, hS, hz, hI, k⟩ := h
  show t_arehalves K _ [some (.ref a), some (vi n), none] H
  have hb : ((List.range xs.length).map fun i => okN n (xs.getD i .non)).all id = true ↔ ∀ x ∈ xs, okN n x = true := by
    rw [List.all_eq_true]
    constructor
    · intro h x hx
      obtain ⟨i, hi, e⟩ := List.mem_iff_getElem.mp hx
      have := h (okN n (xs.getD i .non)) (List.mem_map.mpr ⟨i, List.mem_range.mpr hi, rfl⟩)
      rw [List.getD_eq_getElem?_getD, List.getElem?_eq_getElem hi] at this
      rw [← e]
      exact this
    · intro h y hy
      obtain ⟨i, hi, rfl⟩ := List.mem_map.mp hy
      have hi := List.mem_range.mp hi
      show okN n (xs.getD i .non) = true
      rw [List.getD_eq_getElem?_getD, List.getElem?_eq_getElem hi]
      exact h _ (List.getElem_mem hi)
  have hcomp : EvL (tLc (iList K (tVar 0)) (gName 2) tYes (tAndV (tCall (sp_isinteger K) [] E0 (tCons (tVar 2) tNil)) (tChain zLe zLt (tC (.int 0)) (tVar 2) (tVar 1))) [2]) [some (.ref a), some (vi n), none] H (((List.range xs.length).map fun i => okN n (xs.getD i .non)).map V.bl) := by
    have := el_lcL (K := K) (σ := [some (.ref a), some (vi n), none]) (H := H) (j := 2) (vs := [2]) (t := tYes) (tl := tVar 0) (te := tAndV (tCall (sp_isinteger K) [] E0 (tCons (tVar 2) tNil)) (tChain zLe zLt (tC (.int 0)) (tVar 2) (tVar 1))) (fun _ => true) (fun i => .bl (okN n (xs.getD i .non))) (ev_var rfl) hS (by omega) (fun _ => rfl) (fun i x H1 _ _ => et_yes) (fun i x H1 _ hx _ => by
      have e : xs.getD i .non = x := by rw [List.getD_eq_getElem?_getD, hx]; rfl
      rw [e]
      have hib := hI x (List.mem_of_getElem? hx)
      rcases id hib with ⟨z, rfl⟩ | ⟨b, rfl⟩
      · exact ev_is (v := .bl (true && (decide (0 ≤ z) && decide (z < (n : Int))))) (ev_andV (ev_call (ea_1 (ev_var rfl)) (spv_isinteger hib)) (fun _ => ev_chain ev_c (ev_var rfl) rv_I0 (fun _ => ev_var rfl) (fun _ => rv_I0))) (by rw [Bool.true_and]; rfl)
      · exact ev_is (v := .bl (false && false)) (ev_andV (ev_call (ea_1 (ev_var rfl)) (spv_isinteger hib)) (fun hb => nomatch hb)) rfl)
    rw [given_all] at this
    rw [List.map_map]
    exact this
  refine q_when (et_not (et_B (ev_cbN hcomp (fun p H1 hp _ => rc_all (sq_of hp))))) (fun hb1 H1 e1 => ?_) (fun hb1 H1 e1 => ?_)
  · refine s_ret ev_c (fun H2 e2 => k false H2 ⟨fun h => (nomatch h), fun hg => ?_⟩ (e1.trans e2))
    obtain ⟨ns, rfl, _, h2⟩ := hg
    rw [hb.mpr (okN_L h2)] at hb1
    cases hb1
  · have hall : ∀ x ∈ xs, okN n x = true := hb.mp (by
      cases q : ((List.range xs.length).map fun i => okN n (xs.getD i .non)).all id with
      | true => rfl
      | false => rw [q] at hb1; cases hb1)
    obtain ⟨ns, rfl, hlt⟩ := okN_ints hall
    have hS1 := ex_l e1 hS
    have hS2 := hS1
    rw [L_int] at hS2
    rw [L_len] at hz
    refine s_ret (v := .bl (decide (V.int (cntI (ns.map fun n : Nat => (n : Int)) : Nat) = V.int ((L ns).length : Int)))) (ev_op (ev_lenSI (ev_var rfl) hS2 (by rw [List.length_map]; exact hz)) (ev_cb (ea_1 (ev_var rfl)) (rc_len hS1)) (rv_eq rfl)) (fun H2 e2 => ?_)
    refine k _ H2 ?_ (e1.trans e2)
    have hc := cntI_iff (ns.map fun n : Nat => (n : Int))
    rw [List.length_map, nodup_cast] at hc
    rw [decide_eq_true_iff, L_len]
    constructor
    · intro h
      injection h with h
      exact ⟨ns, rfl, hc.mp (by omega), hlt⟩
    · rintro ⟨ms, e, hn, _⟩
      have e := L_inj e
      subst e
      rw [hc.mpr hn]
theorem rd_arehalves {K : PySem.W.Frag} (F : KF K) (vs : List V) (H : Hp) (Q : VK) (E : XK) (h : sp_arehalves K vs H Q E) : Wt_arehalves K vs H Q := rd_arehalves0 vs H Q E h
theorem spv_hT {K : PySem.W.Frag} {H : Hp} {a : Addr} {xs : List V} {n : Nat} (hS : SqL K H a xs) (hl : xs.length ≤ 4000) (hI : ∀ v ∈ xs, IB v) {b : Bool} (h : b = true ↔ Below xs n) : SpV (sp_arehalves K) [.ref a, vi n] H (.bl b) := fun H1 e Q q E =>
  ⟨a, xs, n, rfl, ex_l e hS, hl, hI, fun b' H' hb ex => by
    rw [Bool.eq_iff_iff.mpr (hb.trans h.symm)]
    exact q H' ex⟩
theorem isP_below {ns : List Nat} (hn : ns.Nodup) (h : ∀ x ∈ ns, x < ns.length) : IsP ns := ⟨(List.perm_ext_iff_of_nodup hn List.nodup_range).mpr fun x => by
  rw [List.mem_range]
  refine ⟨h x, fun hx => Classical.byContradiction fun hno => ?_⟩
  have := nodup_le ns.length (x :: ns) (List.nodup_cons.mpr ⟨hno, hn⟩) (fun y hy => by
    rcases List.mem_cons.mp hy with rfl | hy
    · exact hx
    · exact h y hy)
  rw [List.length_cons] at this
  omega⟩
/-- a list of numbers that are the halves of a mesh, each once -/
def Good (xs : List V) : Prop := ∃ ns, xs = L ns ∧ IsP ns ∧ ns.length % 2 = 0
def sp_areallhalves (K : PySem.W.Frag) : Sp := fun vs H Q _ => ∃ (a : Addr) (xs : List V), vs = [.ref a] ∧ SqL K H a xs ∧ xs.length ≤ 4000 ∧ (∀ x ∈ xs, IB x) ∧
  ∀ b H', (b = true ↔ Good xs) → Ex H H' → Q (.bl b) H'
abbrev nm_areallhalves : List Str := ["numbers"]
abbrev pr_areallhalves : List Str := ["numbers"]
def t_areallhalves (K : PySem.W.Frag) : TS :=
  (tRet (tAndV (tOp rEq (tOp zMod (tCB (cLen K) (tCons (tVar 0) tNil)) (tC (.int 2))) (tC (.int 0))) (tCall (sp_arehalves K) [] E0 (tCons (tVar 0) (tCons (tCB (cLen K) (tCons (tVar 0) tNil)) tNil)))))
abbrev Wt_areallhalves (K : PySem.W.Frag) (vs : List V) (H : Hp) (Q : VK) : Prop := t_areallhalves K { nx := fun _ H' => Q .non H', rt := Q } (start nm_areallhalves vs) H
theorem ln_areallhalves {K : PySem.W.Frag} (vs : List V) (H : Hp) (Q : VK) (E : XK) (h : sp_areallhalves K vs H Q E) : vs.length = pr_areallhalves.length := by
  obtain ⟨_, _, rfl, _⟩ := h
  rfl
theorem good_below {xs : List V} : Good xs ↔ xs.length % 2 = 0 ∧ Below xs xs.length := by
  constructor
  · rintro ⟨ns, rfl, hP, h2⟩
    rw [L_len]
    exact ⟨h2, ns, rfl, hP.nodup, fun x hx => hP.mem.mp hx⟩
  · rintro ⟨h2, ns, rfl, hn, h⟩
    rw [L_len] at h2 h
    exact ⟨ns, rfl, isP_below hn h, h2⟩
theorem isI_L (ns : List Nat) : ∀ x ∈ L ns, isI x = true := by
  intro x hx
  obtain ⟨n, _, rfl⟩ := List.mem_map.mp hx
  rfl
theorem ints_of : ∀ {xs : List V}, (∀ x ∈ xs, isI x = true) → ∃ zs : List Int, xs = zs.map V.int
  | [], _ => ⟨[], rfl⟩
  | x :: r, h => by
    obtain ⟨zs, e⟩ := ints_of (xs := r) fun y hy => h y (List.mem_cons_of_mem _ hy)
    have hx := h x (List.mem_cons_self ..)
    cases x with
    | int i => exact ⟨i :: zs, by rw [e]; rfl⟩
    | _ => cases hx
theorem map_int_inj {a b : List Int} (h : a.map V.int = b.map V.int) : a = b := by
  induction a generalizing b with
  | nil => cases b with
    | nil => rfl
    | cons _ _ => cases h
  | cons x r ih => cases b with
    | nil => cases h
    | cons y s =>
      injection h with h1 h2
      injection h1 with h1
      rw [h1, ih h2]
theorem good_ints {zs ns' : List Int} (hp : ns'.Perm zs) (hs : ns'.Pairwise (· ≤ ·)) (h2 : zs.length % 2 = 0) : ns' = (List.range zs.length).map (fun i : Nat => (i : Int)) ↔ Good (zs.map V.int) := by
  constructor
  · intro e
    subst e
    have hz : ∀ z ∈ zs, 0 ≤ z := fun z hz => by
      obtain ⟨i, _, rfl⟩ := List.mem_map.mp (hp.mem_iff.mpr hz)
      omega
    have key : ∀ zs : List Int, (∀ z ∈ zs, 0 ≤ z) → zs = (zs.map Int.toNat).map fun i : Nat => (i : Int) := by
      intro zs
      induction zs with
      | nil => intro _; rfl
      | cons z r ih =>
        intro h
        rw [List.map_cons, List.map_cons, ← ih fun y hy => h y (List.mem_cons_of_mem _ hy)]
        have := h z (List.mem_cons_self ..)
        rw [show (((z.toNat : Nat)) : Int) = z by omega]
    have e := key zs hz
    refine ⟨zs.map Int.toNat, ?_, ⟨?_⟩, by rw [List.length_map]; exact h2⟩
    · rw [L_int, ← e]
    · rw [List.length_map]
      have hq := hp.map Int.toNat
      rw [List.map_map] at hq
      have e3 : (List.range zs.length).map (Int.toNat ∘ fun i : Nat => (i : Int)) = List.range zs.length := by
        rw [List.map_congr_left (g := id) (fun i _ => by show ((i : Nat) : Int).toNat = i; omega), List.map_id]
      rw [e3] at hq
      exact hq.symm
  · rintro ⟨ns, e, hP, _⟩
    rw [L_int] at e
    have e := map_int_inj e
    subst e
    refine List.Perm.eq_of_pairwise (le := (· ≤ ·)) (fun a b _ _ h1 h2 => Int.le_antisymm h1 h2) hs ?_ ?_
    · rw [List.pairwise_map]
      exact List.Pairwise.imp (fun h => by omega) List.pairwise_lt_range
    · rw [List.length_map]
      exact hp.trans (hP.perm.map _)
theorem rcl_sorted {K : PySem.W.Frag} {H : Hp} {a : Addr} {zs : List Int} {r : List Int} (hS : SqL K H a (zs.map V.int)) (hu : ∀ ns' : List Int, ns'.Perm zs → ns'.Pairwise (· ≤ ·) → ns' = r) : RCL (rSortedI K) [.ref a] H (r.map V.int) := fun H1 e Q q =>
  ⟨a, zs, rfl, ex_l e hS, fun ns' p h1 h2 hp => by
    rw [hu ns' h1 h2]
    exact q p _ hp (Ex.new hp) upd_same⟩
theorem sort_ex (zs : List Int) : ∃ r : List Int, r.Perm zs ∧ r.Pairwise (· ≤ ·) ∧ ∀ ns' : List Int, ns'.Perm zs → ns'.Pairwise (· ≤ ·) → ns' = r := by
  refine ⟨zs.mergeSort (fun a b => decide (a ≤ b)), List.mergeSort_perm _ _, ?_, fun ns' h1 h2 => ?_⟩
  · refine List.Pairwise.imp (fun h => of_decide_eq_true h) (List.pairwise_mergeSort (le := fun a b => decide (a ≤ b)) (fun a b c h1 h2 => ?_) (fun a b => ?_) zs)
    · have h1 := of_decide_eq_true h1
      have h2 := of_decide_eq_true h2
      exact decide_eq_true (Int.le_trans h1 h2)
    · rw [Bool.or_eq_true]
      rcases Int.le_total a b with h | h
      · exact .inl (decide_eq_true h)
      · exact .inr (decide_eq_true h)
  · refine List.Perm.eq_of_pairwise (le := (· ≤ ·)) (fun a b _ _ h1 h2 => Int.le_antisymm h1 h2) h2 ?_ (h1.trans (List.mergeSort_perm _ _).symm)
    refine List.Pairwise.imp (fun h => of_decide_eq_true h) (List.pairwise_mergeSort (le := fun a b => decide (a ≤ b)) (fun a b c h1 h2 => ?_) (fun a b => ?_) zs)
    · have h1 := of_decide_eq_true h1
      have h2 := of_decide_eq_true h2
      exact decide_eq_true (Int.le_trans h1 h2)
    · rw [Bool.or_eq_true]
      rcases Int.le_total a b with h | h
      · exact .inl (decide_eq_true h)
      · exact .inr (decide_eq_true h)
theorem rd_areallhalves {K : PySem.W.Frag} (F : KF K) (vs : List V) (H : Hp) (Q : VK) (E : XK) (h : sp_areallhalves K vs H Q E) : Wt_areallhalves K vs H Q := by
  obtain ⟨a, xs, rfl, hS, hz, hI, k⟩ := h
  show t_areallhalves K _ [some (.ref a)] H
  obtain ⟨b, hb⟩ : ∃ b : Bool, b = true ↔ Below xs xs.length := by
    by_cases h : Below xs xs.length
    · exact ⟨true, fun _ => h, fun _ => rfl⟩
    · exact ⟨false, (fun q => nomatch q), fun q => absurd q h⟩
  refine s_ret (v := .bl (decide (V.int ((xs.length : Int).fmod 2) = V.int 0) && b)) (ev_andV (ev_op (ev_op (ev_cb (ea_1 (ev_var rfl)) (rc_len hS)) ev_c (rv_I (by decide))) ev_c (rv_eq rfl)) (fun _ => ev_call (ea_2 (ev_var rfl) (ev_cb (ea_1 (ev_var rfl)) (rc_len hS))) (spv_hT hS hz hI hb))) (fun H1 e1 => k _ H1 ?_ e1)
  rw [good_below, Bool.and_eq_true, hb, decide_eq_true_iff]
  have e : V.int ((xs.length : Int).fmod 2) = V.int 0 ↔ xs.length % 2 = 0 := by
    rw [Int.fmod_eq_emod_of_nonneg _ (by decide)]
    constructor
    · intro h
      injection h with h
      omega
    · intro h
      congr 1
      omega
  rw [e]
end Hm
namespace Hm
open PySem PySem.Spec PyProof.Rows L2 Evl
/-! ### the program: links back, rounds -/
section
variable {K : PySem.W.Frag} {σ : L2.St} {H : Hp} {ta tb te tv tn : TE} {D : Ends} {tz : TS} {y v : V}
theorem replicate_flatten {v : V} : ∀ n : Nat, (List.replicate n [v]).flatten = List.replicate n v
  | 0 => rfl
  | n + 1 => by
    rw [List.replicate_succ, List.flatten_cons, replicate_flatten n, List.replicate_succ]
    rfl
theorem el_rep1 {n : Nat} (hv : Ev tv σ H v) (hn : Ev tn σ H (.int (n : Int))) (hz : n ≤ 100000) : EvL (tOp rRep (tLst (tCons tv tNil)) tn) σ H (List.replicate n v) := fun H1 e Q q =>
  el_lst (ea_1 hv) (by show 1 ≤ 100000; decide) H1 e _ fun p H2 _ e2 h2 => hn H2 (e.trans e2) _ fun H3 e3 => ⟨p, (n : Int), [v], rfl, rfl, e3 _ _ h2, by omega, by omega, sz_of (by show 1 * (n : Int).toNat ≤ 100000; omega), fun r hr => by
    have e4 : (List.replicate ((n : Int).toNat) [v]).flatten = List.replicate n v := by rw [Int.toNat_natCast, replicate_flatten]
    rw [e4]
    exact q r _ (fresh_back (e2.trans e3) hr) ((e2.trans e3).trans (Ex.new hr)) upd_same⟩
theorem q_fld {a C dx : Addr} {fs : List (Str × V)} {f : Str} (hv : Ev tv σ H y) (ha : Ev ta σ H (.ref a)) (ho : H a = some (.ins C dx fs)) (hc : Cls K C) (hn : NoAttr K C f) (hl : fs.length < 1000) (k : ∀ H1, Ex H H1 → tz D σ (upd H1 a (.ins C dx (putF f y fs)))) : tSeq (sFld K ta tv f) tz D σ H :=
  hv H (Ex.refl H) _ fun H1 e1 => ha H1 e1 _ fun H2 e2 => ⟨a, C, dx, fs, rfl, e2 _ _ (e1 _ _ ho), hc, hn, hl, k H2 (e1.trans e2)⟩
theorem q_fldL {a C dx : Addr} {fs : List (Str × V)} {f : Str} {xs : List V} (hv : EvL tv σ H xs) (ha : Ev ta σ H (.ref a)) (ho : H a = some (.ins C dx fs)) (hc : Cls K C) (hn : NoAttr K C f) (hl : fs.length < 1000) (k : ∀ p H1, H p = none → Ex H H1 → H1 p = some (.lst xs) → tz D σ (upd H1 a (.ins C dx (putF f (.ref p) fs)))) : tSeq (sFld K ta tv f) tz D σ H :=
  hv H (Ex.refl H) _ fun p H1 hp e1 h1 => ha H1 e1 _ fun H2 e2 => ⟨a, C, dx, fs, rfl, e2 _ _ (e1 _ _ ho), hc, hn, hl, k p H2 hp (e1.trans e2) (e2 _ _ h1)⟩
theorem s_fldL {a C dx : Addr} {fs : List (Str × V)} {f : Str} {xs : List V} (hv : EvL tv σ H xs) (ha : Ev ta σ H (.ref a)) (ho : H a = some (.ins C dx fs)) (hc : Cls K C) (hn : NoAttr K C f) (hl : fs.length < 1000) (k : ∀ p H1, H p = none → Ex H H1 → H1 p = some (.lst xs) → D.nx σ (upd H1 a (.ins C dx (putF f (.ref p) fs)))) : sFld K ta tv f D σ H :=
  hv H (Ex.refl H) _ fun p H1 hp e1 h1 => ha H1 e1 _ fun H2 e2 => ⟨a, C, dx, fs, rfl, e2 _ _ (e1 _ _ ho), hc, hn, hl, k p H2 hp (e1.trans e2) (e2 _ _ h1)⟩
end
def bkUp (ns : List Nat) (i : Nat) : List Nat := (List.range ns.length).map fun h => if bk ns h < i then bk ns h else 0
theorem bkUp_zero (ns : List Nat) : L (bkUp ns 0) = List.replicate ns.length (.int 0) := by
  unfold L bkUp
  rw [List.map_map]
  refine List.eq_replicate_iff.mpr ⟨by rw [List.length_map, List.length_range], fun b hb => ?_⟩
  obtain ⟨i, _, rfl⟩ := List.mem_map.mp hb
  rfl
theorem bkUp_all {ns : List Nat} (h : IsP ns) : bkUp ns ns.length = prevs ns := by
  unfold bkUp prevs
  refine List.map_congr_left fun x hx => ?_
  rw [if_pos (bk_lt h (List.mem_range.mp hx))]
theorem bkUp_succ {ns : List Nat} (h : IsP ns) {i : Nat} (hi : i < ns.length) : (L (bkUp ns i)).set (fn ns i) (vi i) = L (bkUp ns (i + 1)) := by
  refine List.ext_getElem? fun j => ?_
  have hb : ∀ i, (L (bkUp ns i)).length = ns.length := fun i => by rw [L_len]; unfold bkUp; rw [List.length_map, List.length_range]
  by_cases hj : j < ns.length
  · have gt : ∀ i, (L (bkUp ns i))[j]? = some (vi (if bk ns j < i then bk ns j else 0)) := fun i => by
      unfold L bkUp
      rw [List.map_map, List.getElem?_map, List.getElem?_range hj]
      rfl
    by_cases e : fn ns i = j
    · rw [← e, List.getElem?_set_self (by rw [hb, e]; exact hj), e, gt, ← e, bk_fn h hi, if_pos (by omega)]
    · rw [List.getElem?_set_ne e, gt, gt]
      have hne : bk ns j ≠ i := fun q => e (by rw [← q, fn_bk h hj])
      by_cases q : bk ns j < i
      · rw [if_pos q, if_pos (by omega)]
      · rw [if_neg q, if_neg (by omega)]
  · rw [List.getElem?_eq_none (by rw [List.length_set, hb]; omega), List.getElem?_eq_none (by rw [hb]; omega)]
def sp_inverse (K : PySem.W.Frag) : Sp := fun vs H Q _ => ∃ (a : Addr) (ns : List Nat), vs = [.ref a] ∧ SqL K H a (L ns) ∧ IsP ns ∧ ns.length ≤ 1000 ∧
  ∀ p H', H p = none → Ex H H' → H' p = some (.lst (L (prevs ns))) → Q (.ref p) H'
abbrev nm_inverse : List Str := ["links", "back", "half", "other"]
abbrev pr_inverse : List Str := ["links"]
def t_inverse (K : PySem.W.Frag) : TS :=
  (tSeq (tAsg (tOp rRep (tLst (tCons (tC (.int 0)) tNil)) (tCB (cLen K) (tCons (tVar 0) tNil))) (gName 1))
  (tSeq (tFor (iEnum K (tCons (tVar 0) tNil)) (gTup K 2 (gCons (gName 2) (gCons (gName 3) gNil))) (tAsg (tVar 2) (gSub (tVar 1) (tVar 3) rSetL)))
  (tRet (tVar 1))))
abbrev Wt_inverse (K : PySem.W.Frag) (vs : List V) (H : Hp) (Q : VK) : Prop := t_inverse K { nx := fun _ H' => Q .non H', rt := Q } (start nm_inverse vs) H
theorem ln_inverse {K : PySem.W.Frag} (vs : List V) (H : Hp) (Q : VK) (E : XK) (h : sp_inverse K vs H Q E) : vs.length = pr_inverse.length := by
  obtain ⟨_, _, rfl, _⟩ := h
  rfl
theorem rd_inverse {K : PySem.W.Frag} (F : KF K) (vs : List V) (H : Hp) (Q : VK) (E : XK) (h : sp_inverse K vs H Q E) : Wt_inverse K vs H Q := by
  obtain ⟨a, ns, rfl, hS, hP, hl, k⟩ := h
  show t_inverse K _ [some (.ref a), none, none, none] H
  refine q_asgL (el_rep1 (n := ns.length) ev_c (ev_is (ev_cb (ea_1 (ev_var rfl)) (rc_len hS)) (by rw [L_len])) (by omega)) (fun p H1 hp e1 h1 => ?_)
  rw [← bkUp_zero] at h1
  refine ⟨.ref a, rfl, a, L ns, rfl, ex_l e1 hS, ?_⟩
  refine for_it (walk_enum (xs := L ns)) (fun i σ' H' => ∃ v2 v3, σ' = [some (.ref a), some (.ref p), v2, v3] ∧ Ex H H' ∧ H' p = some (.lst (L (bkUp ns i)))) ⟨_, _, rfl, e1, h1⟩ ?_ ?_ ?_
  · rintro i σ' H' _ ⟨v2, v3, rfl, ex, _⟩
    exact ex_l ex hS
  · rintro i x σ' H2 H3 hi ⟨v2, v3, rfl, ex, hb⟩ ⟨T, x1, x2, rfl, hT, rfl, e2, e3⟩
    rw [L_len] at hi
    have e2 : vi i = x1 := Option.some.inj e2
    have e3 : (L ns)[i]? = some x2 := e3
    rw [L_get hi] at e3
    have e3 := Option.some.inj e3
    subst e2 e3
    have exT : Ex H2 (upd H2 T (.tup [vi i, vi (fn ns i)])) := Ex.new hT
    refine ⟨T, [vi i, vi (fn ns i)], rfl, .inl (.inl upd_same), rfl, vi i, [vi (fn ns i)], rfl, vi (fn ns i), [], rfl, rfl, ?_⟩
    refine s_setL (j := fn ns i) (exT _ _ hb) (ev_var rfl) (ev_var rfl) (ev_var rfl) (by rw [L_len]; unfold bkUp; rw [List.length_map, List.length_range]; exact (pf_fn hP).lt i hi) (fun H4 e4 => ?_)
    refine ⟨_, _, rfl, Ex.mut ((ex.trans exT).trans e4) hp, ?_⟩
    rw [upd_same, bkUp_succ hP hi]
  · rintro σ' H' ⟨v2, v3, rfl, ex, hb⟩
    rw [L_len, bkUp_all hP] at hb
    refine s_ret (ev_var rfl) (fun H2 e2 => k p H2 hp (ex.trans e2) (e2 _ _ hb))
theorem spl_inverse {K : PySem.W.Frag} {H : Hp} {a : Addr} {ns : List Nat} (hS : SqL K H a (L ns)) (hP : IsP ns) (hl : ns.length ≤ 1000) : SpL (sp_inverse K) [.ref a] H (L (prevs ns)) :=
  fun H1 e Q q E => ⟨a, ns, rfl, ex_l e hS, hP, hl, fun p H' hp ex hq => q p H' hp ex hq⟩

def sp_rounds (K : PySem.W.Frag) : Sp := fun vs H Q _ => ∃ (a : Addr) (ns : List Nat), vs = [.ref a] ∧ SqL K H a (L ns) ∧ IsP ns ∧ ns.length ≤ 1000 ∧
  ∀ p H', H p = none → Ex H H' → LLn H H' p (cycs (fn ns) ns.length ns.length) → Q (.ref p) H'
abbrev nm_rounds : List Str := ["links", "found", "seen", "start", "members", "half"]
abbrev pr_rounds : List Str := ["links"]
def t_rounds (K : PySem.W.Frag) : TS :=
  (tSeq (tAsg (tLst tNil) (gName 1))
  (tSeq (tAsg (tOp rRep (tLst (tCons (tC (.bl false)) tNil)) (tCB (cLen K) (tCons (tVar 0) tNil))) (gName 2))
  (tSeq (tFor (iRng1 (tCons (tCB (cLen K) (tCons (tVar 0) tNil)) tNil)) (gName 3) (tIfS (tNot (tB (tOp (rIxL K) (tVar 2) (tVar 3)))) (tSeq (tAsg (tLst tNil) (gName 4))
        (tSeq (tAsg (tVar 3) (gName 5))
        (tSeq (tWhile (tNot (tB (tOp (rIxL K) (tVar 2) (tVar 5)))) (tSeq (tAsg (tC (.bl true)) (gSub (tVar 2) (tVar 5) rSetL))
            (tSeq (tDrop (tBM K "list" rAppend (tVar 4) (tCons (tVar 5) tNil)))
            (tAsg (tOp (rIxL K) (tVar 0) (tVar 5)) (gName 5)))))
        (tDrop (tBM K "list" rAppend (tVar 1) (tCons (tVar 4) tNil)))))) tNext))
  (tRet (tVar 1)))))
abbrev Wt_rounds (K : PySem.W.Frag) (vs : List V) (H : Hp) (Q : VK) : Prop := t_rounds K { nx := fun _ H' => Q .non H', rt := Q } (start nm_rounds vs) H
theorem ln_rounds {K : PySem.W.Frag} (vs : List V) (H : Hp) (Q : VK) (E : XK) (h : sp_rounds K vs H Q E) : vs.length = pr_rounds.length := by
  obtain ⟨_, _, rfl, _⟩ := h
  rfl
theorem bl_get {bs : List Bool} {i : Nat} (h : i < bs.length) : atI (bs.map V.bl) ((i : Nat) : Int) = some (.bl (bs.getD i false)) := by
  refine atI_nat ?_
  rw [List.getElem?_map, List.getD_eq_getElem?_getD, List.getElem?_eq_getElem h]
  rfl
theorem bs_set {bs : List Bool} {i j : Nat} (h : j < bs.length) : (bs.set i true).getD j false = true ↔ bs.getD j false = true ∨ j = i := by
  by_cases e : i = j
  · subst e
    rw [List.getD_eq_getElem?_getD, List.getElem?_set_self h]
    simp
  · rw [List.getD_eq_getElem?_getD, List.getElem?_set_ne e, ← List.getD_eq_getElem?_getD]
    constructor
    · exact .inl
    · rintro (h | h)
      · exact h
      · exact absurd h.symm e
theorem rd_rounds {K : PySem.W.Frag} (F : KF K) (vs : List V) (H : Hp) (Q : VK) (E : XK) (h : sp_rounds K vs H Q E) : Wt_rounds K vs H Q := by
  obtain ⟨a, ns, rfl, hS, hP, hl, kk⟩ := h
  show t_rounds K _ [some (.ref a), none, none, none, none, none] H
  have PF := pf_fn hP
  refine q_asgL (el_lst ea_nil (Nat.zero_le _)) (fun pF H1 hpF e1 h1 => ?_)
  refine q_asgL (el_rep1 (n := ns.length) ev_c (ev_is (ev_cb (ea_1 (ev_var rfl)) (rc_len (ex_l e1 hS))) (by rw [L_len])) (by omega)) (fun pS H2 hpS e2 h2 => ?_)
  have hpS0 : H pS = none := fresh_back e1 hpS
  have hSF : pS ≠ pF := (ne_of_none h1 hpS).symm
  refine q_forR1 (n := (ns.length : Int)) (ea_1 (ev_is (ev_cb (ea_1 (ev_var rfl)) (rc_len (ex_l (e1.trans e2) hS))) (by rw [L_len]))) (by omega)
    (fun i σ' H' => ∃ (v3 v4 v5 : Option V) (as : List Addr) (bs : List Bool), σ' = [some (.ref a), some (.ref pF), some (.ref pS), v3, v4, v5] ∧ Ex H H' ∧ H' pF = some (.lst (as.map V.ref)) ∧ H' pS = some (.lst (bs.map V.bl)) ∧ LA H' as (cycs (fn ns) ns.length i) ∧
      (∀ x ∈ as, H x = none ∧ x ≠ pF ∧ x ≠ pS) ∧ as.length ≤ i ∧ bs.length = ns.length ∧ ∀ j, j < ns.length → (bs.getD j false = true ↔ Sn (fn ns) ns.length i j)) ?_ ?_ ?_
  · intro H3 e3
    refine ⟨_, _, _, [], List.replicate ns.length false, rfl, e1.trans (e2.trans e3), e3 _ _ (e2 _ _ h1), by rw [List.map_replicate]; exact e3 _ _ h2, .nil, fun x hx => (nomatch hx), Nat.le_refl _, List.length_replicate .., fun j hj => ?_⟩
    constructor
    · intro h
      rw [List.getD_eq_getElem?_getD, List.getElem?_replicate] at h
      rw [if_pos hj] at h
      cases h
    · rintro ⟨s, h, _⟩
      exact absurd h (Nat.not_lt_zero _)
  · rintro i σ' H' hi ⟨v3, v4, v5, as, bs, rfl, ex, a1, a2, a3, a4, a5, a6, a7⟩
    have hi' : i < ns.length := by omega
    refine s_when (b := !(bs.getD i false)) (et_not (et_B (ev_op (ev_var rfl) (ev_var rfl) (rv_ixL (sq_of a2) (bl_get (by omega)))))) (fun hb H3 e3 => ?_) (fun hb H3 e3 => ?_)
    · have hns : ¬ Sn (fn ns) ns.length i i := fun h => by
        rw [(a7 i hi').mpr h] at hb
        cases hb
      have hmin : isMin (fn ns) ns.length i = true := by
        refine Classical.byContradiction fun h => hns ((sn_iff_notMin PF hi').mpr h)
      obtain ⟨p1, p2, p3⟩ := per_spec PF hi'
      have p0 := per_pos (fn ns) ns.length i
      refine q_asgL (el_lst ea_nil (Nat.zero_le _)) (fun pM H4 hpM e4 h4 => ?_)
      have hpM0 : H pM = none := fresh_back (ex.trans e3) hpM
      have hMF : pM ≠ pF := (ne_of_none (e3 _ _ a1) hpM).symm
      have hMS : pM ≠ pS := (ne_of_none (e3 _ _ a2) hpM).symm
      have hMa : ∀ x ∈ as, x ≠ pM := LA.fresh (LA.ex a3 e3) hpM
      refine q_asg (ev_var rfl) (fun H5 e5 => ?_)
      refine q_while (fun m σ' H' => ∃ (k : Nat) (bs' : List Bool), k ≤ per (fn ns) ns.length i ∧ m = per (fn ns) ns.length i - k ∧ σ' = [some (.ref a), some (.ref pF), some (.ref pS), some (vi i), some (.ref pM), some (vi (itr (fn ns) k i))] ∧ Ex H H' ∧
        H' pF = some (.lst (as.map V.ref)) ∧ H' pS = some (.lst (bs'.map V.bl)) ∧ H' pM = some (.lst (L ((List.range k).map fun j => itr (fn ns) j i))) ∧ LA H' as (cycs (fn ns) ns.length i) ∧ bs'.length = ns.length ∧
        ∀ j, j < ns.length → (bs'.getD j false = true ↔ Sn (fn ns) ns.length i j ∨ j ∈ (List.range k).map fun j => itr (fn ns) j i)) (per (fn ns) ns.length i) ?_ ?_
      · refine ⟨0, bs, Nat.zero_le _, rfl, rfl, ex.trans (e3.trans (e4.trans e5)), e5 _ _ (e4 _ _ (e3 _ _ a1)), e5 _ _ (e4 _ _ (e3 _ _ a2)), e5 _ _ h4, LA.ex a3 (e3.trans (e4.trans e5)), a6, fun j hj => ?_⟩
        rw [a7 j hj]
        constructor
        · exact .inl
        · rintro (h | h)
          · exact h
          · cases h
      · rintro m σ' H6 ⟨k, bs', k1, rfl, rfl, ex6, b1, b2, b3, b4, b5, b6⟩
        have hlt : itr (fn ns) k i < ns.length := itr_lt PF hi' k
        refine ⟨!(bs'.getD (itr (fn ns) k i) false), et_not (et_B (ev_op (ev_var rfl) (ev_var rfl) (rv_ixL (sq_of b2) (bl_get (by omega))))), fun hb2 H7 e7 => ?_, fun hb2 H7 e7 => ?_⟩
        · have hk : k < per (fn ns) ns.length i := by
            refine Nat.lt_of_le_of_ne k1 fun e => ?_
            have h9 : bs'.getD (itr (fn ns) k i) false = true := (b6 _ hlt).mpr (.inr (by
              rw [e, p1]
              exact List.mem_map.mpr ⟨0, List.mem_range.mpr (by omega), rfl⟩))
            rw [h9] at hb2
            cases hb2
          refine ⟨_, fun σ2 H2 hN => ⟨per (fn ns) ns.length i - (k + 1), by omega, hN⟩, ?_⟩
          refine q_setL (j := itr (fn ns) k i) (e7 _ _ b2) ev_c (ev_var rfl) (ev_var rfl) (by rw [List.length_map]; omega) (fun H8 e8 => ?_)
          have x8 : Ex H (upd H8 pS (.lst ((bs'.map V.bl).set (itr (fn ns) k i) (.bl true)))) := Ex.mut (ex6.trans (e7.trans e8)) hpS0
          have c1 : (upd H8 pS (.lst ((bs'.map V.bl).set (itr (fn ns) k i) (.bl true)))) pM = some (.lst (L ((List.range k).map fun j => itr (fn ns) j i))) := by
            rw [upd_ne hMS]
            exact e8 _ _ (e7 _ _ b3)
          refine q_app c1 (ev_var rfl) (ev_var rfl) (by rw [L_len, List.length_map, List.length_range]; omega) (fun H9 e9 => ?_)
          have x9 : Ex H (upd H9 pM (.lst (L ((List.range k).map fun j => itr (fn ns) j i) ++ [vi (itr (fn ns) k i)]))) := Ex.mut (x8.trans e9) hpM0
          refine s_asg (ev_op (ev_var rfl) (ev_var rfl) (rv_ixL (ex_l x9 hS) (L_at hlt))) (fun H10 e10 => ?_)
          refine ⟨k + 1, bs'.set (itr (fn ns) k i) true, by omega, rfl, rfl, x9.trans e10, ?_, ?_, ?_, ?_, by rw [List.length_set]; exact b5, fun j hj => ?_⟩
          · refine e10 _ _ ?_
            rw [upd_ne hMF.symm]
            refine e9 _ _ ?_
            rw [upd_ne hSF.symm]
            exact e8 _ _ (e7 _ _ b1)
          · refine e10 _ _ ?_
            rw [upd_ne hMS.symm]
            refine e9 _ _ ?_
            rw [upd_same, List.map_set]
          · rw [e10 _ _ upd_same, range_map_snoc, L_app]
            rfl
          · refine LA.ex (LA.upd (LA.ex (LA.upd (LA.ex b4 (e7.trans e8)) fun x hx => (a4 x hx).2.2) e9) hMa) e10
          · rw [bs_set (by omega), b6 j hj, range_map_snoc, List.mem_append, List.mem_singleton]
            constructor
            · rintro ((h | h) | h)
              · exact .inl h
              · exact .inr (.inl h)
              · exact .inr (.inr h)
            · rintro (h | h | h)
              · exact .inl (.inl h)
              · exact .inl (.inr h)
              · exact .inr h
        · have hk : k = per (fn ns) ns.length i := by
            refine Classical.byContradiction fun hne => ?_
            have hkl : k < per (fn ns) ns.length i := by omega
            have h9 : bs'.getD (itr (fn ns) k i) false = true := by
              cases q : bs'.getD (itr (fn ns) k i) false with
              | true => rfl
              | false => rw [q] at hb2; cases hb2
            rcases (b6 _ hlt).mp h9 with h | h
            · exact sn_itr PF hi' hns k h
            · exact rnd_take_nodup PF hi' hkl h
          subst hk
          have x7 := ex6.trans e7
          refine s_app (e7 _ _ b1) (ev_var rfl) (ev_var rfl) (by rw [List.length_map]; omega) (fun H8 e8 => ?_)
          refine ⟨_, _, _, as ++ [pM], bs', rfl, Ex.mut (x7.trans e8) hpF, ?_, ?_, ?_, fun x hx => ?_, by rw [List.length_append]; show as.length + 1 ≤ i + 1; omega, b5, fun j hj => ?_⟩
          · rw [upd_same, List.map_append]
            rfl
          · rw [upd_ne hSF]
            exact e8 _ _ (e7 _ _ b2)
          · rw [cycs_yes hmin]
            refine paired_snoc (LA.upd (LA.ex b4 (e7.trans e8)) fun x hx => (a4 x hx).2.1) ?_
            show upd H8 pF _ pM = _
            rw [upd_ne hMF]
            exact e8 _ _ (e7 _ _ b3)
          · rcases List.mem_append.mp hx with hx | hx
            · exact a4 x hx
            · rw [List.mem_singleton.mp hx]
              exact ⟨hpM0, hMF, hMS⟩
          · rw [b6 j hj, sn_succ hi']
            exact Iff.rfl
    · have hb' : bs.getD i false = true := by
        cases q : bs.getD i false with
        | true => rfl
        | false => rw [q] at hb; cases hb
      have hsn := (a7 i hi').mp hb'
      have hmin : ¬ isMin (fn ns) ns.length i = true := (sn_iff_notMin PF hi').mp hsn
      refine ⟨_, _, _, as, bs, rfl, ex.trans e3, e3 _ _ a1, e3 _ _ a2, ?_, a4, by omega, a6, fun j hj => ?_⟩
      · rw [cycs_no hmin]
        exact LA.ex a3 e3
      · rw [a7 j hj, sn_succ hi']
        constructor
        · exact .inl
        · rintro (h | h)
          · exact h
          · obtain ⟨s, s1, s2, s3⟩ := hsn
            exact ⟨s, s1, s2, rnd_trans PF s2 s3 h⟩
  · rintro σ' H' ⟨v3, v4, v5, as, bs, rfl, ex, a1, a2, a3, a4, a5, a6, a7⟩
    rw [Int.toNat_natCast] at a3
    refine s_ret (ev_var rfl) (fun H2 e2 => ?_)
    exact kk pF H2 hpF (ex.trans e2) ⟨as, e2 _ _ a1, LA.ex a3 e2, fun x hx => ⟨(a4 x hx).1, (a4 x hx).2.1⟩⟩
end Hm
namespace Hm
open PySem PySem.Spec PyProof.Rows L2 Evl
/-! ### own ==, len, in -/
section
variable {X : Cx} {CX : CXT} {n : Nat} {C f : Addr} {fd : FuncData} {ps : List Str} {sp : Sp} {E : XK}
/-- a def of the written part, called somewhere below the running body -/
theorem own_run {A : Around} {pins : List (Addr × Obj)} {σ : L2.St} {H : Hp} {s : Shared} {Q : VK} {us : List Value} {vs : List V} (F : FnOk X.prog X.w X.K X.mg X.base CX n f fd ps sp) (hr : Room n A) (hfr : A.frames = X.A.frames)
    (hb : Binds X.K fd ps []) (hx : Passes CX X E) (I : Inv X pins σ H s) (r : Vals vs us) (h : sp vs H Q E) : wpAny (model X.prog X.w) A (call (.ref f) us) (EP X pins σ Q) X.xe s := by
  have e0 : Env0 X.prog X.w X.K X.mg X.base A X.stack s H := by
    have e := I.env0
    exact ⟨by rw [hfr]; exact e.frames, e.mod, e.bs, e.bsz, e.funs, e.frf, e.hok, e.bare⟩
  have hl := F.len _ _ _ _ h
  have hb2 : BindsTo s fd ⟨us, []⟩ (ps.zip us) := by
    have q := hb s us I.kIn (by rw [List.append_nil, ← r.length]; exact hl)
    rw [List.append_nil] at q
    exact q
  refine wpAny_call (codeAny_mono (F.run A X.stack s H ⟨us, []⟩ us vs Q E hr e0 hb2 r h) fun r s' hq => ?_)
  cases r with
  | error e => exact hx pins σ H s e s' I hq
  | ok fl =>
    cases fl with
    | ret w => exact I.after hq
    | next => exact False.elim hq
    | brk => exact False.elim hq
    | cont => exact False.elim hq
/-- what stands on the right of an own == -/
inductive Rgt (K : PySem.W.Frag) (C : Addr) (H : Hp) : V → Prop where
  | ins {b dx : Addr} {fs : List (Str × V)} (e : H b = some (.ins C dx fs)) : Rgt K C H (.ref b)
  | lst {b : Addr} {xs : List V} (e : H b = some (.lst xs)) (h : PySem.W.subIn K (.type "list") (.ref C) = some false) : Rgt K C H (.ref b)
  | int (i : Int) (h : PySem.W.subIn K (.type "int") (.ref C) = some false) : Rgt K C H (.int i)
theorem rgt_ok {pins : List (Addr × Obj)} {σ : L2.St} {H : Hp} {s : Shared} {y : V} {u : Value} (I : Inv X pins σ H s) (r : RelV y u) (h : Rgt X.K C H y) : ∃ tb, PySem.W.Looks (model X.prog X.w) s.heap (typeOf u) tb ∧ PySem.W.notFirst X.K C tb = true := by
  cases h with
  | ins e =>
    cases r
    obtain ⟨mA, J, _⟩ := ins_get I.hok e
    obtain ⟨od, J, _⟩ := J.look
    exact ⟨_, J.type, by simp [PySem.W.notFirst]⟩
  | lst e h =>
    cases r
    obtain ⟨_, its, k, _, e2⟩ := (show ObjOk X.prog X.w H s.heap _ (.lst _) from I.hok _ _ e)
    exact ⟨.type "list", (PySem.W.Looks.ld e2).andThen .now, by simp [PySem.W.notFirst, h]⟩
  | int i h =>
    obtain ⟨t, rfl⟩ := r
    exact ⟨.type "int", .now, by simp [PySem.W.notFirst, h]⟩
def rOwnEq (K : PySem.W.Frag) (C : Addr) (sp : Sp) (E : XK) : R2 := fun x y H Q => ∃ (a dx : Addr) (fs : List (Str × V)), x = .ref a ∧ H a = some (.ins C dx fs) ∧ Rgt K C H y ∧ sp [.ref a, y] H (fun v H' => ∃ b, v = .bl b ∧ Q (.bl b) H') E
theorem op_own_eq (F : FnOk X.prog X.w X.K X.mg X.base CX n f fd ps sp) (hs : PySem.W.findIn X.K (.ref C) "__eq__" = some (some (.ref f))) (hf : PySem.W.isFn X.K (.ref f) = true) (hb : Binds X.K fd ps []) (hx : Passes CX X E) (hr : Room n X.A) : OpR X (compareOp .Eq) (rOwnEq X.K C sp E) := by
  intro pins s σ H x y v u Q I rx ry hq
  obtain ⟨a, dx, fs, rfl, ha, hg, h⟩ := hq
  cases rx
  obtain ⟨mA, J, _⟩ := ins_get I.hok ha
  obtain ⟨od, J, _⟩ := J.look
  obtain ⟨m, hF⟩ := I.fr
  obtain ⟨tb, l1, l2⟩ := rgt_ok I ry hg
  show wpAny (model X.prog X.w) X.A (richCompare .Eq (.ref a) u) (EP X pins σ Q) X.xe s
  refine PySem.W.cmp_K (op := .Eq) (tb := tb) hr.units0 hF I.ok.mod.kin J l1 l2 hs hf ?_
  refine wpAny_mono (own_run (vs := [V.ref a, y]) F hr rfl hb hx I (.cons (show RelV (V.ref a) (Value.ref a) from rfl) (.cons ry .nil)) h) (fun r s' z => ?_) fun _ _ x => x
  obtain ⟨v', H', I', rv, b, rfl, q⟩ := z
  cases rv
  exact ⟨.bl b, H', I', rfl, q⟩
def rOwnLen (C : Addr) (sp : Sp) (E : XK) : List V → Hp → VK → Prop := fun xs H Q => ∃ (a dx : Addr) (fs : List (Str × V)), xs = [.ref a] ∧ H a = some (.ins C dx fs) ∧ sp [.ref a] H (fun v H' => ∃ k : Nat, v = .int (k : Int) ∧ k < 1000000 ∧ Q (.int (k : Int)) H') E
theorem call_own_len (F : FnOk X.prog X.w X.K X.mg X.base CX n f fd ps sp) (hs : PySem.W.findIn X.K (.ref C) "__len__" = some (some (.ref f))) (hf : PySem.W.isFn X.K (.ref f) = true) (hb : Binds X.K fd ps []) (hx : Passes CX X E) (hr : Room (n + 1) X.A) : CallR X (.builtin "len") (rOwnLen C sp E) := by
  intro pins s σ H xs us Q I r h
  obtain ⟨a, dx, fs, rfl, ha, h⟩ := h
  cases r with
  | cons ra rr =>
    cases rr
    cases ra
    obtain ⟨mA, J, _⟩ := ins_get I.hok ha
    obtain ⟨od, J, _⟩ := J.look
    obtain ⟨m, hF⟩ := I.fr
    refine PySem.W.len_K hF I.ok.mod.kin J hs hf ?_
    refine wpAny_mono (own_run (vs := [V.ref a]) F hr.in1 rfl hb hx I (.cons (show RelV (V.ref a) (Value.ref a) from rfl) .nil) h) (fun r s' z => ?_) fun _ _ x => x
    obtain ⟨v', H', I', rv, k, rfl, hk, q⟩ := z
    obtain ⟨t, rfl⟩ := rv
    exact ⟨⟨by omega, by omega⟩, .int (k : Int), H', I'.tok _, ⟨_, rfl⟩, q⟩
def rOwnIn (C : Addr) (sp : Sp) (E : XK) (neg : Bool) : R2 := fun x y H Q => ∃ (a dx : Addr) (fs : List (Str × V)), y = .ref a ∧ H a = some (.ins C dx fs) ∧ sp [.ref a, x] H (fun v H' => ∃ b, v = .bl b ∧ Q (.bl (if neg then !b else b)) H') E
theorem op_own_in (F : FnOk X.prog X.w X.K X.mg X.base CX n f fd ps sp) (hs : PySem.W.findIn X.K (.ref C) "__contains__" = some (some (.ref f))) (hf : PySem.W.isFn X.K (.ref f) = true) (hb : Binds X.K fd ps []) (hx : Passes CX X E) (hr : Room n X.A) : OpR X (compareOp .In) (rOwnIn C sp E false) := by
  intro pins s σ H x y v u Q I rx ry hq
  obtain ⟨a, dx, fs, rfl, ha, h⟩ := hq
  cases ry
  obtain ⟨mA, J, _⟩ := ins_get I.hok ha
  obtain ⟨od, J, _⟩ := J.look
  obtain ⟨m, hF⟩ := I.fr
  refine PySem.W.in_K hF I.ok.mod.kin J hs hf ?_
  refine wpAny_mono (own_run (vs := [V.ref a, x]) F hr rfl hb hx I (.cons (show RelV (V.ref a) (Value.ref a) from rfl) (.cons rx .nil)) h) (fun r s' z => ?_) fun _ _ x => x
  obtain ⟨v', H', I', rv, b, rfl, q⟩ := z
  cases rv
  exact wpAny_truthy_bool ⟨.bl b, H', I', rfl, q⟩
theorem op_own_notIn (F : FnOk X.prog X.w X.K X.mg X.base CX n f fd ps sp) (hs : PySem.W.findIn X.K (.ref C) "__contains__" = some (some (.ref f))) (hf : PySem.W.isFn X.K (.ref f) = true) (hb : Binds X.K fd ps []) (hx : Passes CX X E) (hr : Room n X.A) : OpR X (compareOp .NotIn) (rOwnIn C sp E true) := by
  intro pins s σ H x y v u Q I rx ry hq
  obtain ⟨a, dx, fs, rfl, ha, h⟩ := hq
  cases ry
  obtain ⟨mA, J, _⟩ := ins_get I.hok ha
  obtain ⟨od, J, _⟩ := J.look
  obtain ⟨m, hF⟩ := I.fr
  refine PySem.W.notIn_K hF I.ok.mod.kin J hs hf ?_
  refine wpAny_mono (own_run (vs := [V.ref a, x]) F hr rfl hb hx I (.cons (show RelV (V.ref a) (Value.ref a) from rfl) (.cons rx .nil)) h) (fun r s' z => ?_) fun _ _ x => x
  obtain ⟨v', H', I', rv, b, rfl, q⟩ := z
  cases rv
  exact wpAny_truthy_bool ⟨.bl (!b), H', I', rfl, q⟩
end
end Hm
namespace Hm
open PySem PySem.Spec PyProof.Rows L2 NdefX
/-! ### own errors whose __init__ begins with super().__init__(text) -/
abbrev VI : String := "ValueError.__init__"
/-- what the written part says of the class at C and of its __init__ at fI -/
structure SupF (P : Program) (K : PySem.W.Frag) (C fI : Addr) (qual : Str) (params : Arguments) (body : List Stmt) (scope : Scope) (fd : FuncData) : Prop where
  fn : ∃ (oc : Value) (od an : Option Addr) (osl : Array (Option Value)) (kV doc pm ct : Value) (cda cc : Addr), fd = PySem.W.fnX "__init__" qual params body scope [("__class__", cc)] .none kV doc pm an (.ref cda) ct ∧ K.lookup fI = some ⟨oc, od, .func fd, osl⟩ ∧
    PySem.W.codeIn K (.ref cda) qual = true ∧ (∃ (ccl : Value) (cdd : Option Addr) (vs : Array Value) (ccs : Array (Option Value)) (file : Str) (tf : Tok), K.lookup cda = some ⟨ccl, cdd, .fields vs, ccs⟩ ∧ vs[2]? = some (.str file tf) ∧ ((P.main.file : Str) == file) = true) ∧
    ∃ (cl : Value) (cld : Option Addr) (csl : Array (Option Value)), K.lookup cc = some ⟨cl, cld, .cell (some (.ref C)), csl⟩
  sub : PySem.W.mroIn K C (.ref C) = some true
  sup : PySem.W.nsIn K mainGlobals "super" = some none
  opq : PySem.W.nsIn K cStatics "thirdparty.any" = some none
  ini : PySem.W.ks_superIn K C C "__init__" = some (some (.builtin VI))
  vB : PySem.W.subIn K (.ref C) (.type "ValueError") = some true
  top : (P.main.scope.names.lookup ("super" : Str)).isSome = false
  oex : OexC K C
theorem cell_ne {K : PySem.W.Frag} {C cc : Addr} {cd : ClassData} {o : Obj} {v : Option Value} (h1 : PySem.W.clsIn K C = some cd) (h2 : K.lookup cc = some o) (h3 : o.data = .cell v) : True := trivial
theorem sup_fn {CX : CXT} {P : Program} {w : World} {K : PySem.W.Frag} {mg : Str → Option Value} {base : Heap} {C fI : Addr} {qual : Str} {params : Arguments} {scope : Scope} {fd : FuncData} {N ps : List Str} {k : Nat} {sp : Sp}
    {e : Expr} {rest : List Stmt} {p0 p1 p2 p3 p4 : Pos} {ar : Arg}
    (SF : SupF P K C fI qual params (.Expr (.Call (.Attribute (.Call (.Name "super" p0) [] [] p1) "__init__" p2) [e] [] p3) p4 :: rest) scope fd)
    (S : NScope N ps ["__class__"] scope) (hp : (params.posonlyargs ++ params.args).head? = some ar) (hN0 : N[0]? = some ar.arg) (hps : 0 < ps.length) (hsl : scope.names.lookup ("super" : Str) = some .globalImplicit)
    (len : ∀ vs H Q E, sp vs H Q E → vs.length = ps.length)
    (hbody : ∀ (F : NF) (A : Around) (outer : List Env) (s : Shared) (H : Hp) (vs : List V) (Q : VK) (E : XK), F.qual = qual → F.scope = scope → Room k (A.deeper (envF F fI s.heap.objs.size)) → sp vs H Q E →
      ∃ (x : Addr) (ta : TA) (t : TS), vs[0]? = some (.ref x) ∧ H x = some (exo x C none) ∧ PA (ncx CX P w K mg base N F fI A outer s H E) [e] ta ∧ PSs (ncx CX P w K mg base N F fI A outer s H E) rest t ∧
        ta (startF N vs [none]) H (fun ws H1 => ws.length ≤ 1000 ∧ H1 x = some (exo x C none) ∧ t { nx := fun _ H' => Q .non H', rt := Q } (startF N vs [none]) H1))
    (hswap : ∀ (env : Env), swapsWith (.Call (.Attribute (.Call (.Name "super" p0) [] [] p1) "__init__" p2) [e] [] p3) none p4.line env = pure false)
    (hstar : ∀ env : Env, starEach [e] env = (false, eval e env) :: starEach [] env)
    (hev : ∀ env : Env, ∃ pl : Sem Bool, eval (.Call (.Attribute (.Call (.Name "super" p0) [] [] p1) "__init__" p2) [e] [] p3) env = (do
      let ov ← attributeBase (.Call (.Name "super" p0) [] [] p1) "__init__" env (eval (.Call (.Name "super" p0) [] [] p1) env)
      standAt p2.atName
      let (f, first) ← holding [ov] (getMethod ov "__init__" pl)
      callWith p3 f first (backTo p3 (starEach [e] env)) [])) :
    FnOk P w K mg base CX (k + 1) fI fd ps sp := by
  refine ⟨len, fun A outer s H args us vs Q E hr e0 hb r hsp => ?_⟩
  obtain ⟨oc, od, an, osl, kV, doc, pm, ct, cda, cc, rfl, lk, hcd, ⟨ccl, cdd, fvs, ccs, file, tf, lkc, hvs, hfile⟩, cl, cld, csl, lcc⟩ := SF.fn
  have hl := len _ _ _ _ hsp
  have KX : K.In s.heap := e0.mod.kin.keeps fun b o e => (e0.bs b o e).1
  have lim : s.heap.NoLimit := e0.mod.nolimit.keeps fun b o e => (e0.bs b o e).1
  refine codeAny_call_function hr.depth (KX _ _ lk) rfl S.co S.gen rfl (PySem.W.codeRec_of KX hcd) (hb _ _ _ _ ?_)
  refine wpAny_newFunctionEnv S.nocell (fun ⟨n, _⟩ hy => S.par n (List.of_mem_zip hy).1) (fun h₁ hns hsb => ⟨lim.fresh _ hsb, ?_⟩) S.kind
  have kp : ∀ b o, s.heap.get? b = some o → h₁.get? b = some o := fun b o e => hsb.extBut b o (Nat.ne_of_lt (Heap.lt_size e)) (Heap.get?_push_of_some _ e)
  let F : NF := ⟨"__init__", qual, params, (.Expr (.Call (.Attribute (.Call (.Name "super" p0) [] [] p1) "__init__" p2) [e] [] p3) p4 :: rest), scope, [("__class__", cc)], cda⟩
  have hccH : H cc = none := (e0.bs cc _ (e0.mod.kin _ _ lcc)).2
  have cells : CellsAt F.cl ["__class__"] [none] s.heap H := by
    refine ⟨rfl, fun y c hy => ?_, fun x y c hx hy => ?_, fun i y hy => ?_⟩
    · by_cases q : y = "__class__"
      · subst q
        have : some cc = some c := hy
        cases this
        exact ⟨hccH, _, _, KX _ _ lcc, rfl⟩
      · have : (none : Option Addr) = some c := by
          have h2 : List.lookup y [(("__class__" : Str), cc)] = some c := hy
          rw [List.lookup_cons] at h2
          have q2 : (y == ("__class__" : Str)) = false := by simpa using q
          rw [q2] at h2
          exact h2
        cases this
    · have one : ∀ z, List.lookup z [(("__class__" : Str), cc)] = some c → z = "__class__" := fun z h2 => by
        by_cases q : z = "__class__"
        · exact q
        · rw [List.lookup_cons] at h2
          have q2 : (z == ("__class__" : Str)) = false := by simpa using q
          rw [q2] at h2
          cases h2
      rw [one x hx, one y hy]
    · match i, hy with
      | 0, hy =>
        cases hy
        exact ⟨cc, rfl, fun v hv => by cases hv⟩
  obtain ⟨x, ta, t, hv0, hx, ha, ht, hq⟩ := hbody F A outer s H vs Q E rfl rfl (hr.deeper _) hsp
  have I : Inv (ncx CX P w K mg base N F fI A outer s H E) [] (startF N vs [none]) H { s with heap := h₁, toks := s.toks + (ps.zip us).length } := inv_startN S hr.hd e0 hl r cells hns kp
  show codeAny _ _ (.func F.body (envF F fI s.heap.objs.size)) _ _
  have KX1 : K.In h₁ := KX.keeps kp
  have hkc : scope.names.lookup ("__class__" : Str) = some .free := S.frk _ (List.mem_cons_self ..)
  have hka : scope.names.lookup ar.arg = some .local := by
    refine S.par _ ?_
    have h1 : (ps ++ [("__class__" : Str)])[0]? = some ar.arg := by
      rw [← S.pre, List.getElem?_take_of_lt (by simp)]
      exact hN0
    rw [List.getElem?_append_left hps] at h1
    exact List.mem_of_getElem? h1
  obtain ⟨nm, qn, Nc, bs, bm, sn, sub, ab, col, dd, k0, k1, k2, k3, k5, hC, hbm⟩ := SF.oex.cls
  have hcl : PySem.W.clsIn K C = some { name := nm, bases := bs, mro := .ref C :: bm, ns := Nc, qualname := qn, hasDict := true, slotNames := sn, subclasses := sub, abstract := ab, collection := col, hasDel := false } := by unfold PySem.W.clsIn; rw [hC] <;> rfl
  obtain ⟨t1, hxo⟩ := exo_at I.hok hx
  have hxo : h₁.get? x = some ({ cls := .ref C, dict := none, data := .fields #[.ref t1, .none, .none, .none, .bool false, .none] } : Obj) := hxo
  have hxC : x ≠ C := fun q => by
    subst q
    have h2 := KX1 _ _ hC
    rw [hxo] at h2
    cases h2
  refine ks_codeAny_funcAt (ks_wpAt_execs_cons (ks_wpAt_mono (Q := fun f s' => f = .next ∧ ∃ H', Inv (ncx CX P w K mg base N F fI A outer s H E) [] (startF N vs [none]) H' s' ∧ t { nx := fun _ H' => Q .non H', rt := Q } (startF N vs [none]) H') ?first (fun f s' z => ?rest) (fun _ _ z => z)))
  case rest =>
    obtain ⟨hf, H', J, q⟩ := z
    subst hf
    refine wpAt_of_wpAny (wpAny_mono (ht.run [] s' _ H' _ J q) (fun fl s' hs => ?_) fun e s' hs => hs)
    have fin : ∀ {σ' : L2.St} {H' : Hp} {v : V} {u : Value}, Inv (ncx CX P w K mg base N F fI A outer s H E) [] σ' H' s' → L2.RelV v u → Q v H' → CE outer P w H s Q u s' :=
      fun {σ' H' v u} J rv q => ⟨v, H', J.os, J.bare, J.base, J.hok, rv, q⟩
    cases fl with
    | ret u =>
      obtain ⟨v, σ', H', J, rv, q⟩ := hs
      exact fin J rv q
    | next =>
      obtain ⟨σ', H', J, q⟩ := hs
      exact fin (v := V.non) (u := Value.none) J rfl q
    | brk =>
      obtain ⟨_, _, _, q⟩ := hs
      exact False.elim q
    | cont =>
      obtain ⟨_, _, _, q⟩ := hs
      exact False.elim q
  case first =>
    obtain ⟨pl, hev'⟩ := hev (envF F fI s.heap.objs.size)
    refine ks_wpAt_Expr_any (ks_wpAt_MethodCall (ks_wpAt_super_base (env := envF F fI s.heap.objs.size) hsl hkc rfl rfl (kp _ _ (KX _ _ lk)) rfl hp rfl (kp _ _ (KX _ _ lkc)) rfl hvs hfile SF.top ?_) hev') (by unfold interactive; rw [show (envF F fI s.heap.objs.size).scope.kind = .function from S.kind]; rfl) (hswap _)
    obtain ⟨mb, b1, b2⟩ := e0.mod.blt
    have kpb : ∀ b o, base.get? b = some o → h₁.get? b = some o := fun b o e => kp b o (e0.bs b o e).1
    have lsup : ∀ {QQ : Value → Shared → Prop} {EE : Value → Shared → Prop}, QQ (.type "super") { s with heap := h₁, toks := s.toks + (ps.zip us).length } → wpAny (model P w) (A.deeper (envF F fI s.heap.objs.size)) (loadGlobal (envF F fI s.heap.objs.size) "super") QQ EE { s with heap := h₁, toks := s.toks + (ps.zip us).length } := fun {QQ EE} q =>
      PySem.Calls.loadGlobal_builtin (env := envF F fI s.heap.objs.size) (e0.mod.glob.keeps kpb) (PySem.W.mg_none_of e0.mod.kin e0.mod.glob SF.sup) (b1.keeps kpb) ((b2 _ (by decide +kernel)).trans PyProof.Rows.Boot.«super») q
    refine PySem.W.ks_loadName_global (env := envF F fI s.heap.objs.size) S.kind hsl (lsup ⟨rfl, ?_⟩)
    refine wpAny_loadName_free (env := envF F fI s.heap.objs.size) S.kind hkc rfl (c := cc) ⟨_, KX1 _ _ lcc, rfl⟩ ?_
    obtain ⟨u0, us', rfl, hu0⟩ : ∃ u0 us', us = u0 :: us' ∧ u0 = Value.ref x := by
      cases r with
      | nil => cases hv0
      | @cons v0 u0 vs' us' r0 rr =>
        have : v0 = V.ref x := Option.some.inj hv0
        subst this
        exact ⟨_, _, rfl, r0⟩
    subst hu0
    have hself : (ps.zip (Value.ref x :: us')).reverse.lookup ar.arg = some (.ref x) := by
      have ndP : ps.Nodup := by
        have q := S.nd.sublist (List.take_sublist (ps.length + 1) N)
        have q2 : N.take (ps.length + 1) = ps ++ [("__class__" : Str)] := S.pre
        rw [q2] at q
        exact (List.nodup_append.mp q).1
      refine zip_look (i := 0) ndP ?_ rfl
      have h1 : (ps ++ [("__class__" : Str)])[0]? = some ar.arg := by
        rw [← S.pre, List.getElem?_take_of_lt (by simp)]
        exact hN0
      rw [List.getElem?_append_left hps] at h1
      exact h1
    refine wpAny_loadName_local (env := envF F fI s.heap.objs.size) S.kind hka hns hself ?_
    refine ks_wpAny_isType_cls (KX1 _ _ hC) rfl ⟨rfl, ?_⟩
    refine ks_wpAny_call_super (KX1 _ _ hC) rfl hxo rfl (fun c e => by cases e) (PySem.W.looks_mroIn KX1 SF.sub) (fun h2 e2 k2 => ?_)
    have KX2 : K.In h2 := KX1.keeps k2
    have hx2 := k2 _ _ hxo
    have hI : PySem.W.Looks (model P w) h2 (isInstance (.ref x) (.type "ValueError")) true := PySem.W.Looks.andThen ((PySem.W.Looks.ld hx2).andThen .now) (PySem.W.looks_subIn KX2 SF.vB)
    have hini : PySem.W.alongIn K "__init__" (((Value.ref C :: bm).dropWhile (· != .ref C)).drop 1) = some (some (.builtin VI)) := by
      have q := SF.ini
      unfold PySem.W.ks_superIn at q
      rw [hcl] at q
      exact q
    refine PySem.W.kxs_getMethod PySem.W.kxs_ValueError e2 (PySem.W.looks_opaque KX2 SF.opq) (l₀ := .ref C :: bm) (fun A Q E s k q => wpAny_bind ((PySem.W.looks_clsIn KX2 hcl) A _ E s k (wpAny_pure q))) rfl KX2 hini hI hxC rfl ?_
    have u2 : (h2.push (PySem.W.kxs_mw VI x)).get? h2.objs.size = some (PySem.W.kxs_mw VI x) := Heap.get?_push_at rfl rfl
    have k3' : ∀ b o, h₁.get? b = some o → (h2.push (PySem.W.kxs_mw VI x)).get? b = some o := fun b o e => Heap.get?_push_of_some _ (k2 _ _ e)
    have J0 := I.kept (t' := s.toks + (ps.zip (Value.ref x :: us')).length + 1) k3'
    have hu : h₁.objs.size ≤ h2.objs.size := Nat.le_of_lt (Heap.lt_size e2)
    have J1 : Inv (ncx CX P w K mg base N F fI A outer s H E) [(h2.objs.size, PySem.W.kxs_mw VI x)] (startF N vs [none]) H { s with heap := h2.push (PySem.W.kxs_mw VI x), toks := s.toks + (ps.zip (Value.ref x :: us')).length + 1 } :=
      J0.pins_of fun p hp => by
        rw [List.mem_singleton.mp hp]
        exact ⟨u2, I.hok.fresh hu, Nat.ne_of_gt (Nat.lt_of_lt_of_le I.lt hu), I.nofs hu, fun v q => by cases q⟩
    have hrun := ha.run p3 _ _ _ H _ J1 hq
    have hst : starEach [e] (ncx CX P w K mg base N F fI A outer s H E).env = (false, eval e (envF F fI s.heap.objs.size)) :: starEach [] (envF F fI s.heap.objs.size) := hstar _
    rw [hst] at hrun
    show wpAny _ _ (callWith p3 (Value.ref h2.objs.size) [] (backTo p3 (starEach [e] (envF F fI s.heap.objs.size))) []) _ _ _
    rw [hstar]
    refine PySem.W.kxs_callWith (i := VI) (x := x) rfl (PySem.Calls.evalArgs_plain (wpAny_mono hrun (fun ws s1 z => ?_) fun _ _ z => z))
    obtain ⟨wvs, H1, J2, r2, hw, hx1, hq1⟩ := z
    have hu1 : s1.heap.get? h2.objs.size = some (PySem.W.kxs_mw VI x) := (J2.pin (h2.objs.size, PySem.W.kxs_mw VI x) (List.mem_append_right _ (List.mem_singleton.mpr rfl))).1
    refine ⟨hu1, ?_⟩
    obtain ⟨t2, hxo2⟩ := exo_at J2.hok hx1
    have hC2 := J2.kIn _ _ hC
    have hwl : ws.length ≤ sizeLine := by
      rw [← r2.length, sizeLine_eq]
      omega
    obtain ⟨hp2, g2, d2, tk2, os2⟩ := s1
    refine wpAny_call (codeAny_of_tree ?_)
    show wpAny _ _ (callAny (.ref h2.objs.size) ⟨ws, []⟩) _ _ _
    simp only [callAny]
    refine wpAny_bind (wpAny_load hu1 ?_)
    simp only [PySem.W.kxs_mw, show (Value.type "method-wrapper" == Value.type "method" || Value.type "method-wrapper" == Value.type "builtin_function_or_method" || Value.type "method-wrapper" == Value.type "method-wrapper") = true by decide, if_true]
    refine PySem.W.KFB.if_so (by decide) ?_
    refine wpAny_bind (PySem.W.check_bound_init PySem.F.excBase_ValueError.toExcCallFacts hC2 hxo2 rfl ?_)
    refine wpAny_bind (wpAny_pure (wpAny_pure ?_))
    refine ⟨plainId_quiet PySem.F.excBase_ValueError.init.plain _, codeAny_builtin PySem.F.excBase_ValueError.initEntry ?_⟩
    refine PySem.W.exc_init_tree (cls := .ref C) (t0 := t2) (dv := none) (c2 := .none) (c3 := .none) (b4 := .bool false) hxo2 hwl (fun h3 k3 hx3 _ => ?_)
    have J3 := J2.write (t' := tk2) (x := x) (e := x) (o := exo x C none) (by rw [hx1]; exact True.intro) (.inl rfl) k3 ⟨_, hx3⟩ (exo_ok hx3)
    have eu : upd H1 x (exo x C none) = H1 := by
      funext b
      by_cases hb : b = x
      · rw [hb, upd_same, hx1]
      · rw [upd_ne hb]
    rw [eu] at J3
    exact ⟨trivial, H1, J3.pins_of (fun p hp => by cases hp), hq1⟩
end Hm
namespace Hm
open PySem PySem.Spec PyProof.Rows L2 NdefX
/-! ### making such an error, raising it, catching it -/
/-- C(), C's own __init__ keeping sp and setting no attribute -/
def tMk0 (C : Addr) (sp : Sp) : L2.St → Hp → XK → Prop := fun σ H Q => ∀ a, H a = none → sp [.ref a] (upd H a (exo a C none)) (fun v H2 => v = .non ∧ H2 a = some (exo a C none) ∧ Q (.ref C) none (del H2 a)) (fun _ _ _ => False)
section
variable {X : Cx}
theorem pmk_sup0 {CX : CXT} {x : Str} {C fI : Addr} {k : Nat} {fd : FuncData} {ps : List Str} {sp : Sp} {p pos : Pos} (T : OexC X.K C) (iC : PySem.W.findIn X.K (.ref C) "__init__" = some (some (.ref fI))) (tI : PySem.W.typeIn X.K (.ref fI) = some (.type "function"))
    (F1 : FnOk X.prog X.w X.K X.mg X.base CX k fI fd ps sp) (hr : Room (k + 1) X.A) (hb : Binds X.K fd ps []) (hx : Passes CX X (fun _ _ _ => False)) (hg : Gl X x) (hm : X.mg x = some (.ref C))
    (hdb : (x == ("__debug__" : Str)) = false := by decide) : L2.PMk X (.Call (.Name x p) [] [] pos) (tMk0 C sp) := by
  intro pins s σ H Q I h
  obtain ⟨nm, q, N, bs, bm, sn, sub, ab, col, dd, k0, k1, k2, k3, k5, hC, hbm⟩ := T.cls
  refine wpAny_Call_Name_kw (ld_glob I hg hm ?_ hdb)
  refine PySem.W.callWith_K0 I.kIn T.kC ?_
  obtain ⟨hp, g, dr, tk, os⟩ := s
  have hsz : hp.objs.size ≤ hp.objs.size + 1 := Nat.le_succ _
  have hn : H (hp.objs.size + 1) = none := I.hok.fresh hsz
  have hq := h (hp.objs.size + 1) hn
  have kk : ∀ b o, hp.get? b = some o → ((hp.push (PySem.W.kdv_tup [])).push (PySem.HandSPX.excO C hp.objs.size)).get? b = some o := fun b o e => Heap.get?_push_of_some _ (Heap.get?_push_of_some _ e)
  have hget : ((hp.push (PySem.W.kdv_tup [])).push (PySem.HandSPX.excO C hp.objs.size)).get? (hp.objs.size + 1) = some (PySem.HandSPX.excO C hp.objs.size) := by heap_get
  have I2 : Inv X pins σ (upd H (hp.objs.size + 1) (exo (hp.objs.size + 1) C none)) ⟨(hp.push (PySem.W.kdv_tup [])).push (PySem.HandSPX.excO C hp.objs.size), g, dr, tk, os⟩ :=
    I.laid (t' := tk) (a := hp.objs.size + 1) (o := exo (hp.objs.size + 1) C none) (h' := (hp.push (PySem.W.kdv_tup [])).push (PySem.HandSPX.excO C hp.objs.size)) kk hsz (exo_ok hget)
  have r2 : Vals [V.ref (hp.objs.size + 1)] [Value.ref (hp.objs.size + 1)] := .cons rfl .nil
  have hl : ([Value.ref (hp.objs.size + 1)] ++ []).length = ps.length := (F1.len _ _ _ _ hq)
  refine wpAny_call (PySem.HandSPX.call_own F.excBase_ValueError (fun Y => PySem.HandSPX.refsVE_contains Y bm hbm) (I.kIn _ _ hC) (PySem.W.looks_findIn I.kIn iC) (fun self => PySem.W.bind_fn I.kIn self tI) (by decide)
    (codeAny_mono (F1.run _ X.stack _ _ ⟨[Value.ref (hp.objs.size + 1)], []⟩ [Value.ref (hp.objs.size + 1)] _ _ (fun _ _ _ => False) (hr.make C [] []) (I2.env0.make C [] []) (by
      have b := hb ⟨(hp.push (PySem.W.kdv_tup [])).push (PySem.HandSPX.excO C hp.objs.size), g, dr, tk, os⟩ [Value.ref (hp.objs.size + 1)] I2.kIn hl
      simpa using b) r2 hq) fun r s' hq' => ?_))
  cases r with
  | error er => exact hx pins σ _ _ er s' I2 hq'
  | ok fl =>
    cases fl with
    | ret u =>
      obtain ⟨v, H2, os2, bare2, un2, hok2, rv, ev, ea, q2⟩ := hq'
      subst ev
      obtain ⟨h2, g2, d2, t2, os'⟩ := s'
      refine ⟨rv, ?_⟩
      obtain ⟨t0, hoe⟩ := exo_at hok2 ea
      obtain ⟨G, g1', g2'⟩ := restrict h2 fun b => decide (b ≠ hp.objs.size + 1)
      have gk : ∀ b, b ≠ hp.objs.size + 1 → G.get? b = h2.get? b := fun b hb => g1' b (decide_eq_true hb)
      have ge : G.get? (hp.objs.size + 1) = none := g2' _ (by simp)
      have nha : ∀ {b : Addr} {o : Obj}, hp.get? b = some o → b ≠ hp.objs.size + 1 := fun {b o} z => Nat.ne_of_lt (Nat.lt_succ_of_lt (Heap.lt_size z))
      have up : ∀ {b : Addr}, b ≠ hp.objs.size + 1 → H b = none → upd H (hp.objs.size + 1) (exo (hp.objs.size + 1) C none) b = none := fun {b} hb n => by rw [upd_ne hb]; exact n
      have U : Un (frs X.stack) [] H (del H2 (hp.objs.size + 1)) hp G := {
        keep := fun b o z n hf hx => by
          rw [gk b (nha z)]
          exact un2.keep b o (kk b o z) (up (nha z) n) hf hx
        slot := fun b o z n hf hx => by
          rw [gk b (nha z)]
          exact un2.slot b o (kk b o z) (up (nha z) n) hf hx
        free := fun b o z n hx => by
          rw [del_ne (nha z)]
          exact un2.free b o (kk b o z) (up (nha z) n) hx
        there := fun b o z hx => by
          rw [gk b (nha z)]
          exact un2.there b o (kk b o z) hx
        tups := fun b xs z => by
          rw [del_ne (ne_of_none z hn)]
          exact un2.tups b xs (by rw [upd_ne (ne_of_none z hn)]; exact z)
        frzs := fun b o v z => by
          rw [del_ne (ne_of_none z hn)]
          exact un2.frzs b o v (by rw [upd_ne (ne_of_none z hn)]; exact z)
        tbls := fun b ps z => by
          rw [del_ne (ne_of_none z hn)]
          exact un2.tbls b ps (by rw [upd_ne (ne_of_none z hn)]; exact z) }
      have hok3 : HOk X.prog X.w (del H2 (hp.objs.size + 1)) G := fun b o z => by
        have hba : b ≠ hp.objs.size + 1 := fun e => by
          rw [e, del_same] at z
          cases z
        rw [del_ne hba] at z
        have noa : ∀ {c : Addr}, H2 c = some (.own b) → c ≠ hp.objs.size + 1 := fun {c} hc => at_ne ea hc exo_own
        exact (hok2 b o z).stay (fun c v hc y => by
            have hca : c ≠ hp.objs.size + 1 := by
              rcases hc with hc | hc
              · rw [hc]
                exact hba
              · exact noa hc
            rw [gk c hca]
            exact y)
          (fun c hc => by rw [del_ne (noa hc)]; exact hc) (fun c xs hc => by rw [del_ne (at_ne ea hc exo_tup)]; exact hc)
      have J : Inv X pins σ (del H2 (hp.objs.size + 1)) ⟨G, g2, d2, t2, os'⟩ := I.call' (ch := []) os2 U hok3 bare2 (fun b z => absurd z (by simp))
      exact ⟨hp.objs.size + 1, _, _, ⟨G, g2, d2, t2, os'⟩, _, .ref C, none, rfl, J, fun b o z => by
        by_cases hba : b = hp.objs.size + 1
        · rw [hba, ge] at z
          cases z
        · exact (gk b hba).symm.trans z, ge, hoe, ⟨rfl, rfl⟩, rfl, rfl, del_same, rfl, bare2, raises_own T.exC T.tyC, q2⟩
    | next => exact False.elim hq'
    | brk => exact False.elim hq'
    | cont => exact False.elim hq'
/-- what a callee lets out is taken, at the slots as they stand -/
theorem passes_len {W : WX} (tk : L2.Takes X W) : Passes (L2.CX X.prog X.w) X (fun cls d H => ∀ σ, σ.length = X.N.length → W cls d σ H) := fun _ σ _ _ e s' I c => tk e s' (L2.XE.of_call I (fun _ _ _ h => h σ I.len) c)
end
end Hm
namespace Hm
open PySem PySem.Spec PyProof.Rows L2 NdefX
/-! ### further facts of the head: own errors, isinstance -/
/-- the address of a class's own __init__ -/
def iA (K : PySem.W.Frag) (x : Str) : Addr := He.ma K (He.ga K x) "__init__"
/-- an own error's __init__, as data -/
structure CloD where
  x : Str
  qual : Str
  params : Arguments
  body : List Stmt
  scope : Scope
abbrev CloV : Type := Option (Str × Str × Arguments × FuncBody × Scope × Addr × Addr)
def cloW (K : PySem.W.Frag) (x : Str) : CloV := match K.lookup (iA K x) with
  | some ⟨_, _, .func fd, _⟩ => some (fd.name, fd.qualname, fd.params, fd.body, fd.scope, fd.globals, fd.builtins)
  | _ => none
def CloD.val (d : CloD) : CloV := some ("__init__", d.qual, d.params, .stmts d.body, d.scope, mainGlobals, builtinsNs)
def cellB (K : PySem.W.Frag) (x : Str) (cl : List (Str × Addr)) : Bool := match cl with
  | [(nm, cc)] => decide (nm = "__class__") && (match K.lookup cc with
    | some ⟨_, _, .cell (some (.ref c)), _⟩ => decide (c = He.ga K x)
    | _ => false)
  | _ => false
def fileB (K : PySem.W.Frag) (file : Str) (cd : Value) : Bool := match cd with
  | .ref cda => (match K.lookup cda with
    | some ⟨_, _, .fields vs, _⟩ => (match (vs[2]? : Option Value) with
      | some (.str f _) => file == f
      | _ => false)
    | _ => false)
  | _ => false
def noneB (v : Value) : Bool := match v with
  | .none => true
  | _ => false
def supB (file : Str) (K : PySem.W.Frag) (x : Str) : Bool := match K.lookup (iA K x) with
  | some ⟨_, _, .func fd, _⟩ => cellB K x fd.closure && (noneB fd.defaults && (PySem.W.codeIn K fd.code fd.qualname && fileB K file fd.code))
  | _ => false
def oexB (K : PySem.W.Frag) (C : Addr) : Bool := match K.lookup C with
  | some ⟨.type "type", _, .cls cd, sl⟩ => (match cd.mro, sl.toList with
    | .ref C' :: bm, [_, _, _, _, some (.builtin n), _] => C' == C && n == "ValueError.__new__" && !cd.hasDel && cd.hasDict && PySem.HandSPX.refsVE bm
    | _, _ => false)
  | _ => false
inductive Tn where
  | own (x : Str)
  | ty (n : String)
def Tn.v (K : PySem.W.Frag) : Tn → Value
  | .own x => .ref (He.ga K x)
  | .ty n => .type n
inductive Fx where
  | sup (x : Str)
  | exc (x : Str)
  | kit (a b : Tn) (r : Bool)
  | sub (a : Tn) (x : Str) (r : Bool)
  | ins (x : Str)
  | exm (x y : Str) (b : Bool)
  | spc (x m : Str)
  | kits (xs : List Str)
  | kitTo (xs : List Str) (b : Tn)
def objClass : Value := .builtin "object.__class__"
def Fx.ok (file : Str) (K : PySem.W.Frag) : Fx → Bool
  | .sup x => supB file K x && (oexB K (He.ga K x) && (decide (PySem.W.mroIn K (He.ga K x) (.ref (He.ga K x)) = some true) && (He.eqO (PySem.W.nsIn K mainGlobals "super") (some none) && (He.eqO (PySem.W.nsIn K cStatics "thirdparty.any") (some none) &&
      (He.eqO (PySem.W.ks_superIn K (He.ga K x) (He.ga K x) "__init__") (some (some (.builtin VI))) && (decide (PySem.W.subIn K (.ref (He.ga K x)) (.type "ValueError") = some true) && (He.eqO (PySem.W.findIn K (.ref (He.ga K x)) "__setattr__") (some (some (.builtin "object.__setattr__"))) &&
      (decide (PySem.W.subIn K (.ref (He.ga K x)) (.type "BaseException") = some true) && (decide (PySem.W.typeIn K (.ref (He.ga K x)) = some (.type "type")) && (PySem.W.keepIn K (.ref (He.ga K x)) &&
      (He.eqO (PySem.W.findIn K (.ref (He.ga K x)) "__init__") (some (some (.ref (iA K x)))) && decide (PySem.W.typeIn K (.ref (iA K x)) = some (.type "function")))))))))))))
  | .exc x => He.eqO (PySem.W.findIn K (.ref (He.ga K x)) "__getattribute__") (some (some (.builtin "BaseException.__getattribute__"))) && (He.eqO (PySem.W.findIn K (.ref (He.ga K x)) "__getattr__") (some none) &&
      (decide (PySem.W.subIn K (.ref (He.ga K x)) (.type "BaseException") = some true) && (PySem.W.hasDictIn K (He.ga K x) && (He.eqO (PySem.W.findIn K (.ref (He.ga K x)) "__class__") (some (some objClass)) &&
      (He.eqO (PySem.W.specialIn K objClass "__get__") (some (some (.builtin "getset_descriptor.__get__"))) && (decide (PySem.W.takesIn K objClass = some true) && decide (PySem.W.mroIn K (He.ga K x) (.type "object") = some true)))))))
  | .kit a b r => decide (PySem.W.kitOne K (a.v K) (b.v K) = some r)
  | .sub a x r => decide (PySem.W.subIn K (a.v K) (.ref (He.ga K x)) = some r)
  | .ins x => He.eqO (PySem.W.findIn K (.ref (He.ga K x)) "__class__") (some (some objClass)) && (He.eqO (PySem.W.specialIn K objClass "__get__") (some (some (.builtin "getset_descriptor.__get__"))) && (decide (PySem.W.takesIn K objClass = some true) && decide (PySem.W.mroIn K (He.ga K x) (.type "object") = some true)))
  | .exm x y b => decide (PySem.W.exmOne K (.ref (He.ga K x)) (.ref (He.ga K y)) = some b)
  | .kits xs => xs.all fun x => xs.all fun y => decide (PySem.W.kitOne K (.ref (He.ga K x)) (.ref (He.ga K y)) = some (decide (x = y)))
  | .kitTo xs b => xs.all fun x => decide (PySem.W.kitOne K (.ref (He.ga K x)) (b.v K) = some true)
  | .spc x m => He.eqO (PySem.W.findIn K (.ref (He.ga K x)) m) (some (some (.ref (He.ma K (He.ga K x) m)))) && PySem.W.isFn K (.ref (He.ma K (He.ga K x) m))
section
variable {file : Str} {K : PySem.W.Frag} {x : Str}
theorem oexB_ok {C : Addr} (q : oexB K C = true) : ∃ nm q N bs bm sn sub ab col dd k0 k1 k2 k3 k5, K.lookup C = some (excClassObj nm q C N bs bm true sn sub ab col dd k0 k1 k2 k3 k5 "ValueError.__new__") ∧ PySem.HandSPX.refsVE bm = true := by
  unfold oexB at q
  split at q
  · rename_i dd cd sl ho
    split at q
    · rename_i C' bm k0 k1 k2 k3 n k5 hm hs
      simp only [Bool.and_eq_true, beq_iff_eq, Bool.not_eq_true'] at q
      obtain ⟨⟨⟨⟨rfl, rfl⟩, hdel⟩, hdct⟩, ht⟩ := q
      obtain ⟨nm, bs, mro, ns, qn, hd, sn, sub, ab, col, del⟩ := cd
      dsimp only at hm hdel hdct
      subst hm hdel hdct
      have hsl : sl = #[k0, k1, k2, k3, some (.builtin "ValueError.__new__"), k5] := by
        obtain ⟨l⟩ := sl
        simp only at hs
        rw [hs]
      subst hsl
      exact ⟨nm, qn, ns, bs, bm, sn, sub, ab, col, dd, k0, k1, k2, k3, k5, ho, ht⟩
    · cases q
  · cases q
/-- of an own error: its class, its __init__ -/
structure SupX (P : Program) (K : PySem.W.Frag) (d : CloD) (fd : FuncData) : Prop where
  F : SupF P K (He.ga K d.x) (iA K d.x) d.qual d.params d.body d.scope fd
  iC : PySem.W.findIn K (.ref (He.ga K d.x)) "__init__" = some (some (.ref (iA K d.x)))
  tI : PySem.W.typeIn K (.ref (iA K d.x)) = some (.type "function")
  fx : ∃ cl kV doc pm an cdv ct, fd = PySem.W.fnX "__init__" d.qual d.params d.body d.scope cl .none kV doc pm an cdv ct
theorem sup_of {P : Program} {d : CloD} (e : cloW K d.x = d.val) (h : (Fx.sup d.x).ok P.main.file K = true) (top : (P.main.scope.names.lookup ("super" : Str)).isSome = false) : ∃ fd, SupX P K d fd := by
  obtain ⟨h1, h⟩ := He.ba h
  obtain ⟨h2, h⟩ := He.ba h
  obtain ⟨h3, h⟩ := He.ba h
  obtain ⟨h4, h⟩ := He.ba h
  obtain ⟨h5, h⟩ := He.ba h
  obtain ⟨h6, h⟩ := He.ba h
  obtain ⟨h7, h⟩ := He.ba h
  obtain ⟨h8, h⟩ := He.ba h
  obtain ⟨h9, h⟩ := He.ba h
  obtain ⟨h10, h⟩ := He.ba h
  obtain ⟨h11, h⟩ := He.ba h
  obtain ⟨h12, h13⟩ := He.ba h
  unfold cloW at e
  unfold supB at h1
  cases q : K.lookup (iA K d.x) with
  | none =>
    rw [q] at h1
    cases h1
  | some o =>
    obtain ⟨oc, od, dt, osl⟩ := o
    rw [q] at h1 e
    cases dt with
    | func fd =>
      obtain ⟨n1, n2, n3, n4, n5, n6, n7, n8, n9, n10, n11, n12, n13, n14, n15⟩ := fd
      have e2 : (some (n1, n2, n3, n4, n5, n6, n15) : CloV) = some (("__init__" : Str), d.qual, d.params, FuncBody.stmts d.body, d.scope, mainGlobals, builtinsNs) := e
      simp only [Option.some.injEq, Prod.mk.injEq] at e2
      obtain ⟨g1, g2, g3, g4, g5, g6, g7⟩ := e2
      subst g1 g2 g3 g4 g5 g6 g7
      have c1 : (cellB K d.x n7 && (noneB n8 && (PySem.W.codeIn K n13 d.qual && fileB K P.main.file n13))) = true := h1
      obtain ⟨k1, c1⟩ := He.ba c1
      obtain ⟨k2, c1⟩ := He.ba c1
      obtain ⟨k3, k4⟩ := He.ba c1
      have z8 : n8 = .none := by
        unfold noneB at k2
        split at k2
        · rfl
        · cases k2
      subst z8
      unfold cellB at k1
      split at k1
      · rename_i nm cc
        obtain ⟨m1, m2⟩ := He.ba k1
        have m1 := of_decide_eq_true m1
        subst m1
        split at m2
        · rename_i ccl cld c csl hcc
          have m2 := of_decide_eq_true m2
          subst m2
          clear c1
          unfold fileB at k4
          cases n13 with
          | ref cda =>
            dsimp only at k4
            split at k4
            · rename_i xcl xdd vs xsl hcd
              split at k4
              · rename_i f tf hvs
                exact ⟨_, ⟨⟨oc, od, n12, osl, n9, n10, n11, n14, cda, cc, rfl, q, k3, ⟨xcl, xdd, vs, xsl, f, tf, hcd, hvs, k4⟩, ccl, cld, csl, hcc⟩, of_decide_eq_true h3, He.eqO_ok h4, He.eqO_ok h5, He.eqO_ok h6, of_decide_eq_true h7, top,
                  ⟨oexB_ok h2, He.eqO_ok h8, of_decide_eq_true h9, of_decide_eq_true h10, h11⟩⟩, He.eqO_ok h12, of_decide_eq_true h13, _, _, _, _, _, _, _, rfl⟩
              · cases k4
            · cases k4
          | _ => cases k4
        · cases m2
      · cases k1
    | _ => cases h1
theorem exc_of (h : (Fx.exc x).ok file K = true) : ExcC K (He.ga K x) := by
  obtain ⟨h1, h⟩ := He.ba h
  obtain ⟨h2, h⟩ := He.ba h
  obtain ⟨h3, h⟩ := He.ba h
  obtain ⟨h4, h⟩ := He.ba h
  obtain ⟨h5, h⟩ := He.ba h
  obtain ⟨h6, h⟩ := He.ba h
  obtain ⟨h7, h8⟩ := He.ba h
  exact ⟨He.eqO_ok h1, He.eqO_ok h2, of_decide_eq_true h3, h4, He.eqO_ok h5, He.eqO_ok h6, of_decide_eq_true h7, of_decide_eq_true h8⟩
theorem kit_ok {a b : Tn} {r : Bool} (h : (Fx.kit a b r).ok file K = true) : PySem.W.kitOne K (a.v K) (b.v K) = some r := of_decide_eq_true h
theorem sub_ok {a : Tn} {r : Bool} (h : (Fx.sub a x r).ok file K = true) : PySem.W.subIn K (a.v K) (.ref (He.ga K x)) = some r := of_decide_eq_true h
theorem exm_ok {y : Str} {b : Bool} (h : (Fx.exm x y b).ok file K = true) : PySem.W.exmOne K (.ref (He.ga K x)) (.ref (He.ga K y)) = some b := of_decide_eq_true h
/-- instances of the class answer isinstance -/
structure InsF (K : PySem.W.Frag) (C : Addr) : Prop where
  ha : PySem.W.findIn K (.ref C) "__class__" = some (some (.builtin "object.__class__"))
  hn : PySem.W.specialIn K (.builtin "object.__class__") "__get__" = some (some (.builtin "getset_descriptor.__get__"))
  ht : PySem.W.takesIn K (.builtin "object.__class__") = some true
  hm : PySem.W.mroIn K C (.type "object") = some true
theorem ins_of (h : (Fx.ins x).ok file K = true) : InsF K (He.ga K x) := by
  obtain ⟨h1, h⟩ := He.ba h
  obtain ⟨h2, h⟩ := He.ba h
  obtain ⟨h3, h4⟩ := He.ba h
  exact ⟨He.eqO_ok h1, He.eqO_ok h2, of_decide_eq_true h3, of_decide_eq_true h4⟩
theorem kits_of {xs : List Str} (h : (Fx.kits xs).ok file K = true) : ∀ x ∈ xs, ∀ y ∈ xs, PySem.W.kitOne K (.ref (He.ga K x)) (.ref (He.ga K y)) = some (decide (x = y)) := fun x hx y hy =>
  of_decide_eq_true (List.all_eq_true.mp (List.all_eq_true.mp h x hx) y hy)
theorem kitTo_of {xs : List Str} {b : Tn} (h : (Fx.kitTo xs b).ok file K = true) : ∀ x ∈ xs, PySem.W.kitOne K (.ref (He.ga K x)) (b.v K) = some true := fun x hx => of_decide_eq_true (List.all_eq_true.mp h x hx)
theorem spc_of {m : Str} (h : (Fx.spc x m).ok file K = true) : PySem.W.findIn K (.ref (He.ga K x)) m = some (some (.ref (He.ma K (He.ga K x) m))) ∧ PySem.W.isFn K (.ref (He.ma K (He.ga K x) m)) = true := by
  obtain ⟨h1, h2⟩ := He.ba h
  exact ⟨He.eqO_ok h1, h2⟩
end
/-! ### the Hook -/
abbrev AlS : Type := He.AlD × Bool × List CloV
def obsS (fa : List He.Fa) (fn : List He.DefD) (fx : List Fx) (cl : List CloD) (file : Str) (K : PySem.W.Frag) : AlS := (He.obsD fa fn K, fx.all fun f => f.ok file K, cl.map fun d => cloW K d.x)
def valS (fn : List He.DefD) (cl : List CloD) : AlS := (He.valD fn, true, cl.map CloD.val)
def SaysS (fa : List He.Fa) (fn : List He.DefD) (fx : List Fx) (cl : List CloD) (file : Str) (K : PySem.W.Frag) : Prop := obsS fa fn fx cl file K = valS fn cl
def partS (g : Addr → Option Obj) (n : Nat) : PySem.W.Frag := He.frG g (cStatics :: He.asD g n)
def obsSG (n : Nat) (fa : List He.Fa) (fn : List He.DefD) (fx : List Fx) (cl : List CloD) (file : Str) (g : Addr → Option Obj) : AlS := obsS fa fn fx cl file (partS g n)
def hookS (n : Nat) (fa : List He.Fa) (fn : List He.DefD) (fx : List Fx) (cl : List CloD) (file : Str) : PySem.W.Hook where
  α := AlS
  obs := fun s => obsSG n fa fn fx cl file s.heap.get?
  val := fun _ => valS fn cl
  says := fun _ h => ∃ K : PySem.W.Frag, K.In h ∧ SaysS fa fn fx cl file K
  of := fun _ _ e => ⟨_, He.frG_in, e⟩
  keeps := fun _ _ _ ⟨K, hK, c⟩ k => ⟨K, PySem.W.Frag.In.keeps hK k, c⟩
section
variable {fa : List He.Fa} {fn : List He.DefD} {fx : List Fx} {cl : List CloD} {file : Str} {K : PySem.W.Frag} {n : Nat}
theorem obsSG_eq {g : Addr → Option Obj} {s : Shared} (h : ∀ a, g a = s.heap.get? a) : obsSG n fa fn fx cl file g = (hookS n fa fn fx cl file).obs s := by
  have e : g = s.heap.get? := funext h
  rw [e] <;> rfl
theorem SaysS.d (c : SaysS fa fn fx cl file K) : He.SaysD fa fn K := congrArg (fun z : AlS => z.1) c
theorem SaysS.fact (c : SaysS fa fn fx cl file K) (i : Nat) {f : Fx} (h : fx[i]? = some f := by rfl) : f.ok file K = true :=
  List.all_eq_true.mp (congrArg (fun z : AlS => z.2.1) c : (fx.all fun f => f.ok file K) = true) f (List.mem_of_getElem? h)
theorem SaysS.clo (c : SaysS fa fn fx cl file K) (i : Nat) {d : CloD} (h : cl[i]? = some d := by rfl) : cloW K d.x = d.val := by
  have e : cl.map (fun d => cloW K d.x) = cl.map CloD.val := congrArg (fun z : AlS => z.2.2) c
  have e2 : (cl.map fun d => cloW K d.x)[i]? = (cl.map CloD.val)[i]? := by rw [e]
  rw [List.getElem?_map, List.getElem?_map, h] at e2
  exact Option.some.inj e2
end
end Hm
namespace Hm
open PySem PySem.Spec PyProof.Rows L2 Evl
/-! ### the program: the class Mesh -/
def mfs (l1 l2 l3 : Addr) : List (Str × V) := putF "_turns" (.ref l3) (putF "_prevs" (.ref l2) (putF "_nexts" (.ref l1) []))
theorem s12 : ¬ (("_nexts" : Str) = "_prevs") := by decide +kernel
theorem s13 : ¬ (("_nexts" : Str) = "_turns") := by decide +kernel
theorem s23 : ¬ (("_prevs" : Str) = "_turns") := by decide +kernel
theorem mfs_n (l1 l2 l3 : Addr) : (mfs l1 l2 l3).lookup ("_nexts" : Str) = some (.ref l1) := by
  unfold mfs
  rw [lookup_putF, if_neg s13, lookup_putF, if_neg s12, lookup_putF, if_pos rfl]
theorem mfs_p (l1 l2 l3 : Addr) : (mfs l1 l2 l3).lookup ("_prevs" : Str) = some (.ref l2) := by
  unfold mfs
  rw [lookup_putF, if_neg s23, lookup_putF, if_pos rfl]
theorem mfs_t (l1 l2 l3 : Addr) : (mfs l1 l2 l3).lookup ("_turns" : Str) = some (.ref l3) := by
  unfold mfs
  rw [lookup_putF, if_pos rfl]
theorem mfs_no {m : Str} (l1 l2 l3 : Addr) (h1 : ¬ m = "_nexts") (h2 : ¬ m = "_prevs") (h3 : ¬ m = "_turns") : (mfs l1 l2 l3).lookup m = none := by
  unfold mfs
  rw [lookup_putF, if_neg h3, lookup_putF, if_neg h2, lookup_putF, if_neg h1]
  rfl
theorem putF_len (f : Str) (v : V) : ∀ fs : List (Str × V), (putF f v fs).length ≤ fs.length + 1
  | [] => Nat.le_refl _
  | (g, x) :: r => by
    unfold putF
    split
    · exact Nat.le_succ _
    · have := putF_len f v r
      simp only [List.length_cons]
      omega
def MeshAt (K : PySem.W.Frag) (H : Hp) (x : Addr) (ns : List Nat) : Prop := ∃ dx l1 l2 l3 : Addr, H x = some (.ins (He.ga K "Mesh") dx (mfs l1 l2 l3)) ∧
  H l1 = some (.lst (L ns)) ∧ H l2 = some (.lst (L (prevs ns))) ∧ H l3 = some (.lst (L (turns ns)))
theorem MeshAt.ex {K : PySem.W.Frag} {H H' : Hp} {x : Addr} {ns : List Nat} (h : MeshAt K H x ns) (e : Ex H H') : MeshAt K H' x ns := by
  obtain ⟨dx, l1, l2, l3, a, b, c, d⟩ := h
  exact ⟨dx, l1, l2, l3, e _ _ a, e _ _ b, e _ _ c, e _ _ d⟩
/-- the same, its lists not tracked by H0 -/
def MeshN (K : PySem.W.Frag) (H0 H : Hp) (x : Addr) (ns : List Nat) : Prop := ∃ dx l1 l2 l3 : Addr, H x = some (.ins (He.ga K "Mesh") dx (mfs l1 l2 l3)) ∧
  H l1 = some (.lst (L ns)) ∧ H l2 = some (.lst (L (prevs ns))) ∧ H l3 = some (.lst (L (turns ns))) ∧ H0 l1 = none ∧ H0 l2 = none ∧ H0 l3 = none
theorem MeshN.at {K : PySem.W.Frag} {H0 H : Hp} {x : Addr} {ns : List Nat} (h : MeshN K H0 H x ns) : MeshAt K H x ns := by
  obtain ⟨dx, l1, l2, l3, a, b, c, d, _⟩ := h
  exact ⟨dx, l1, l2, l3, a, b, c, d⟩
theorem MeshN.ex {K : PySem.W.Frag} {H0 H H' : Hp} {x : Addr} {ns : List Nat} (h : MeshN K H0 H x ns) (e : Ex H H') : MeshN K H0 H' x ns := by
  obtain ⟨dx, l1, l2, l3, a, b, c, d, f⟩ := h
  exact ⟨dx, l1, l2, l3, e _ _ a, e _ _ b, e _ _ c, e _ _ d, f⟩
theorem MeshN.back {K : PySem.W.Frag} {H0 H1 H : Hp} {x : Addr} {ns : List Nat} (h : MeshN K H1 H x ns) (e : Ex H0 H1) : MeshN K H0 H x ns := by
  obtain ⟨dx, l1, l2, l3, a, b, c, d, f, g, i⟩ := h
  exact ⟨dx, l1, l2, l3, a, b, c, d, fresh_back e f, fresh_back e g, fresh_back e i⟩
theorem MeshN.upd {K : PySem.W.Frag} {H0 H : Hp} {x p : Addr} {ns : List Nat} {o u : HO} (h : MeshN K H0 H x ns) (hp : H0 p = some u) (hx : H0 x = none) : MeshN K H0 (upd H p o) x ns := by
  obtain ⟨dx, l1, l2, l3, a, b, c, d, f, g, i⟩ := h
  exact ⟨dx, l1, l2, l3, by rw [upd_ne (ne_of_none hp hx).symm]; exact a, by rw [upd_ne (ne_of_none hp f).symm]; exact b, by rw [upd_ne (ne_of_none hp g).symm]; exact c, by rw [upd_ne (ne_of_none hp i).symm]; exact d, f, g, i⟩
/-- a list of next halves of a mesh, of bearable length -/
structure MP (ns : List Nat) : Prop where
  p : IsP ns
  two : ns.length % 2 = 0
  len : ns.length ≤ 1000
theorem nat_xor_1 (n : Nat) : n ^^^ 1 = tw n := by
  have h1 : (n ^^^ 1) / 2 = n / 2 := by rw [Nat.xor_div_two]; simp
  have h2 := Nat.xor_mod_two_eq_one (a := n) (b := 1)
  unfold tw
  by_cases q : (n ^^^ 1) % 2 = 1
  · have := h2.mp q
    split <;> omega
  · have := fun w => q (h2.mpr w)
    split <;> omega
theorem xor_tw (n : Nat) : Builtin.bitXor (n : Int) 1 = ((tw n : Nat) : Int) := by
  rw [Bits.bitXor_pp (by omega) (by decide), ← nat_xor_1]
  rfl
theorem itr_congr {f g : Nat → Nat} {N : Nat} (P : Pf f N) (e : ∀ x, x < N → f x = g x) {x : Nat} (hx : x < N) (k : Nat) : itr f k x = itr g k x := by
  induction k with
  | zero => rfl
  | succ k ih =>
    show f (itr f k x) = g (itr g k x)
    rw [← ih]
    exact e _ (itr_lt P hx k)
theorem per_congr {f g : Nat → Nat} {N : Nat} (P : Pf f N) (e : ∀ x, x < N → f x = g x) {x : Nat} (hx : x < N) : per f N x = per g N x := by
  unfold per
  have : (fun k => itr f (k + 1) x == x) = fun k => itr g (k + 1) x == x := by
    funext k
    rw [itr_congr P e hx]
  rw [this]
theorem rnd_congr {f g : Nat → Nat} {N : Nat} (P : Pf f N) (e : ∀ x, x < N → f x = g x) {x : Nat} (hx : x < N) : rnd f N x = rnd g N x := by
  unfold rnd
  rw [per_congr P e hx]
  exact List.map_congr_left fun k _ => itr_congr P e hx k
theorem cycs_congr {f g : Nat → Nat} {N : Nat} (P : Pf f N) (e : ∀ x, x < N → f x = g x) : cycs f N N = cycs g N N := by
  unfold cycs
  have h1 : (List.range N).filter (isMin f N) = (List.range N).filter (isMin g N) := by
    refine List.filter_congr fun x hx => ?_
    unfold isMin
    rw [rnd_congr P e (List.mem_range.mp hx)]
  rw [h1]
  refine List.map_congr_left fun x hx => ?_
  exact rnd_congr P e (List.mem_range.mp (List.mem_filter.mp hx).1)
/-- the faces, the corners -/
def cyc (ns : List Nat) (b : Bool) : List (List Nat) := cycs (stp ns b) ns.length ns.length
theorem cyc_faces (ns : List Nat) : cycs (fn ns) ns.length ns.length = cyc ns true := rfl
theorem cyc_corners {ns : List Nat} (h : IsP ns) (h2 : ns.length % 2 = 0) : cycs (fn (turns ns)) (turns ns).length (turns ns).length = cyc ns false := by
  have h3 := pf_fn (isP_turns h h2)
  rw [turns_len] at h3 ⊢
  exact cycs_congr h3 fun x hx => fn_turns hx

def tRz (C : Addr) (sp : Sp) (E : XK) : TS := fun _ σ H => tMk0 C sp σ H E
def sp_NotAMeshinit (K : PySem.W.Frag) : Sp := fun vs H Q _ => ∃ x : Addr, vs = [.ref x] ∧ H x = some (exo x (He.ga K "NotAMesh") none) ∧ Q .non H
abbrev nm_NotAMeshinit : List Str := ["self", "__class__"]
abbrev pr_NotAMeshinit : List Str := ["self"]
theorem ln_NotAMeshinit {K : PySem.W.Frag} (vs : List V) (H : Hp) (Q : VK) (E : XK) (h : sp_NotAMeshinit K vs H Q E) : vs.length = pr_NotAMeshinit.length := by
  obtain ⟨_, rfl, _⟩ := h
  rfl
theorem del_upd {H : Hp} {a : Addr} {o : HO} (h : H a = none) : del (L2.upd H a o) a = H := by
  funext b
  by_cases q : b = a
  · rw [q, del_same, h]
  · rw [del_ne q, upd_ne q]
theorem rz_NotAMesh {K : PySem.W.Frag} {E : XK} {D : Ends} {σ : L2.St} {H : Hp} (k : E (.ref (He.ga K "NotAMesh")) none H) : tRz (He.ga K "NotAMesh") (sp_NotAMeshinit K) E D σ H := fun a ha =>
  ⟨a, rfl, upd_same, rfl, upd_same, by rw [del_upd ha]; exact k⟩
def sp_Meshinit (K : PySem.W.Frag) : Sp := fun vs H Q E => ∃ (x dx a : Addr) (xs : List V), vs = [.ref x, .ref a] ∧ H x = some (.ins (He.ga K "Mesh") dx []) ∧ SqL K H a xs ∧ xs.length ≤ 1000 ∧ (∀ v ∈ xs, IB v) ∧
  (∀ ns, xs = L ns → MP ns → ∀ H', MeshN K H H' x ns → ExO x H H' → Q .non H') ∧ (¬ Good xs → ∀ H', Ex H H' → E (.ref (He.ga K "NotAMesh")) none H')
abbrev nm_Meshinit : List Str := ["self", "nexts", "links", "half"]
abbrev pr_Meshinit : List Str := ["self", "nexts"]
def t_Meshinit (K : PySem.W.Frag) (E : XK) : TS :=
  (tSeq (tAsg (tCB (cList K) (tCons (tVar 1) tNil)) (gName 2))
  (tSeq (tIfS (tNot (tB (tCall (sp_areallhalves K) [] E0 (tCons (tVar 2) tNil)))) (tRz (He.ga K "NotAMesh") (sp_NotAMeshinit K) E) tNext)
  (tSeq (sFld K (tVar 0) (tVar 2) "_nexts")
  (tSeq (sFld K (tVar 0) (tCall (sp_inverse K) [] E0 (tCons (tVar 2) tNil)) "_prevs")
  (sFld K (tVar 0) (tLc (iList K (tFld K (tVar 0) "_prevs")) (gName 3) tYes (tOp zXor (tVar 3) (tC (.int 1))) [3]) "_turns")))))
abbrev Wt_Meshinit (K : PySem.W.Frag) (vs : List V) (H : Hp) (Q : VK) (E : XK) : Prop := t_Meshinit K E { nx := fun _ H' => Q .non H', rt := Q } (start nm_Meshinit vs) H
theorem ln_Meshinit {K : PySem.W.Frag} (vs : List V) (H : Hp) (Q : VK) (E : XK) (h : sp_Meshinit K vs H Q E) : vs.length = pr_Meshinit.length := by
  obtain ⟨_, _, _, _, rfl, _⟩ := h
  rfl
theorem good_L {ns : List Nat} (h : MP ns) : Good (L ns) := ⟨ns, rfl, h.p, h.two⟩
theorem ib_L (ns : List Nat) : ∀ x ∈ L ns, IB x := fun x hx => by
  obtain ⟨n, _, rfl⟩ := List.mem_map.mp hx
  exact .inl ⟨_, rfl⟩
theorem spv_ahT {K : PySem.W.Frag} {H : Hp} {a : Addr} {xs : List V} (hS : SqL K H a xs) (hl : xs.length ≤ 1000) (hI : ∀ v ∈ xs, IB v) (h : Good xs) : SpV (sp_areallhalves K) [.ref a] H (.bl true) := fun H1 e Q q E =>
  ⟨a, xs, rfl, ex_l e hS, by omega, hI, fun b H' hb ex => by
    rw [hb.mpr h]
    exact q H' ex⟩
theorem spv_ahF {K : PySem.W.Frag} {H : Hp} {a : Addr} {xs : List V} (hS : SqL K H a xs) (hl : xs.length ≤ 1000) (hI : ∀ v ∈ xs, IB v) (h : ¬ Good xs) : SpV (sp_areallhalves K) [.ref a] H (.bl false) := fun H1 e Q q E =>
  ⟨a, xs, rfl, ex_l e hS, by omega, hI, fun b H' hb ex => by
    have : b = false := by
      cases b with
      | false => rfl
      | true => exact absurd (hb.mp rfl) h
    rw [this]
    exact q H' ex⟩
theorem rd_Meshinit {K : PySem.W.Frag} (F : KF K) (vs : List V) (H : Hp) (Q : VK) (E : XK) (h : sp_Meshinit K vs H Q E) : Wt_Meshinit K vs H Q E := by
  obtain ⟨x, dx, a, xs, rfl, hx, hS, hxl, hI, kg, kb⟩ := h
  show t_Meshinit K E _ [some (.ref x), some (.ref a), none, none] H
  refine q_asgL (el_cb (ea_1 (ev_var rfl)) (rcl_list hS)) (fun l1 H1 hl1 e1 h1 => ?_)
  by_cases hg : Good xs
  case neg =>
    refine q_when (b := !false) (et_not (et_B (ev_call (ea_1 (ev_var rfl)) (spv_ahF (sq_of h1) hxl hI hg)))) (fun _ H2 e2 => rz_NotAMesh (kb hg H2 (e1.trans e2))) (fun hb => nomatch hb)
  obtain ⟨ns, rfl, hP, h2⟩ := id hg
  have hM : MP ns := ⟨hP, h2, by rw [L_len] at hxl; exact hxl⟩
  have k := kg ns rfl hM
  have hxl1 : l1 ≠ x := (ne_of_none hx hl1).symm
  refine q_when (b := !true) (et_not (et_B (ev_call (ea_1 (ev_var rfl)) (spv_ahT (sq_of h1) hxl hI hg)))) (fun hb => nomatch hb) (fun _ H2 e2 => ?_)
  refine q_fld (C := He.ga K "Mesh") (dx := dx) (fs := []) (ev_var rfl) (ev_var rfl) (e2 _ _ (e1 _ _ hx)) F.cl F.n1 (by decide) (fun H3 e3 => ?_)
  have c3 : (upd H3 x (.ins (He.ga K "Mesh") dx (putF "_nexts" (.ref l1) []))) l1 = some (.lst (L ns)) := by
    rw [upd_ne hxl1]
    exact e3 _ _ (e2 _ _ h1)
  refine q_fldL (el_call (ea_1 (ev_var rfl)) (spl_inverse (sq_of c3) hM.p hM.len)) (ev_var rfl) upd_same F.cl F.n2 (by have := putF_len "_nexts" (.ref l1) []; simp only [List.length_nil] at this; omega) (fun l2 H4 hl2 e4 h4 => ?_)
  have hxl2 : l2 ≠ x := (ne_of_none upd_same hl2).symm
  have hl12 : l1 ≠ l2 := ne_of_none c3 hl2
  have d1 : (upd H4 x (.ins (He.ga K "Mesh") dx (putF "_prevs" (.ref l2) (putF "_nexts" (.ref l1) [])))) l1 = some (.lst (L ns)) := by
    rw [upd_ne hxl1]
    exact e4 _ _ c3
  have d2 : (upd H4 x (.ins (He.ga K "Mesh") dx (putF "_prevs" (.ref l2) (putF "_nexts" (.ref l1) [])))) l2 = some (.lst (L (prevs ns))) := by
    rw [upd_ne hxl2]
    exact h4
  have hlk : (putF "_prevs" (V.ref l2) (putF "_nexts" (V.ref l1) [])).lookup ("_prevs" : Str) = some (.ref l2) := by
    rw [lookup_putF, if_pos rfl]
  have hcomp : EvL (tLc (iList K (tFld K (tVar 0) "_prevs")) (gName 3) tYes (tOp zXor (tVar 3) (tC (.int 1))) [3]) [some (.ref x), some (.ref a), some (.ref l1), none] (upd H4 x (.ins (He.ga K "Mesh") dx (putF "_prevs" (.ref l2) (putF "_nexts" (.ref l1) [])))) (L (turns ns)) := by
    have := el_lcL (K := K) (σ := [some (.ref x), some (.ref a), some (.ref l1), none]) (H := upd H4 x (.ins (He.ga K "Mesh") dx (putF "_prevs" (.ref l2) (putF "_nexts" (.ref l1) [])))) (j := 3) (vs := [3]) (tl := tFld K (tVar 0) "_prevs") (t := tYes) (te := tOp zXor (tVar 3) (tC (.int 1))) (fun _ => true) (fun i => vi (fn (turns ns) i))
      (ev_fld (ev_var rfl) upd_same F.cl F.n2 hlk) (sq_of d2) (by rw [L_len, prevs_len]; have := hM.len; omega) (fun _ => rfl) (fun i y H1 _ _ => et_yes) (fun i y H1 _ hy _ => by
        obtain ⟨q1, rfl⟩ := L_item hy
        rw [prevs_len] at q1
        refine ev_is (ev_op (ev_var rfl) ev_c rv_I0) ?_
        show V.int (Builtin.bitXor (fn (prevs ns) i : Int) 1) = _
        rw [xor_tw, fn_prevs q1, fn_turns q1])
    rw [given_all] at this
    have e : (List.range (L (prevs ns)).length).map (fun i => vi (fn (turns ns) i)) = L (turns ns) := by
      refine List.ext_getElem? fun j => ?_
      rw [L_len, prevs_len]
      by_cases hj : j < ns.length
      · rw [List.getElem?_map, List.getElem?_range hj, L_get (by rw [turns_len]; exact hj)]
        rfl
      · rw [List.getElem?_eq_none (by rw [List.length_map, List.length_range]; omega), List.getElem?_eq_none (by rw [L_len, turns_len]; omega)]
    rw [e] at this
    exact this
  refine s_fldL hcomp (ev_var rfl) upd_same F.cl F.n3 (by have := putF_len "_nexts" (.ref l1) []; have := putF_len "_prevs" (.ref l2) (putF "_nexts" (.ref l1) []); simp only [List.length_nil] at *; omega) (fun l3 H5 hl3 e5 h5 => ?_)
  have hxl3 : l3 ≠ x := (ne_of_none upd_same hl3).symm
  have bkx : ∀ {l : Addr} {H' : Hp}, ExO x H H' → l ≠ x → H' l = none → H l = none := fun {l H'} e n q => by
    cases w : H l with
    | none => rfl
    | some o =>
      rw [e l o n w] at q
      cases q
  refine k _ ⟨dx, l1, l2, l3, upd_same, ?_, ?_, ?_, hl1, bkx (ExO.of (e1.trans (e2.trans e3))).upd hxl2 hl2, bkx (((ExO.of (e1.trans (e2.trans e3))).upd).trans (ExO.of e4)).upd hxl3 hl3⟩ ?_
  · rw [upd_ne hxl1]
    exact e5 _ _ d1
  · rw [upd_ne hxl2]
    exact e5 _ _ d2
  · rw [upd_ne hxl3]
    exact h5
  · exact ((((ExO.of (e1.trans (e2.trans e3))).upd).trans (ExO.of e4)).upd.trans (ExO.of e5)).upd
section
variable {K : PySem.W.Frag} {σ : L2.St} {H : Hp} {ta tb te : TE} {D : Ends} {tz : TS}
/-- i = Mesh(l) -/
theorem q_mesh {i : Nat} {a : Addr} {ns : List Nat} {E : XK} (h : Ev te σ H (.ref a)) (hS : SqL K H a (L ns)) (hM : MP ns) (k : ∀ x H1, H x = none → MeshN K H H1 x ns → Ex H H1 → tz D (σ.set i (some (.ref x))) H1) :
    tSeq (tAsg (tMake (He.ga K "Mesh") (sp_Meshinit K) [] E (tCons te tNil)) (gName i)) tz D σ H :=
  h H (Ex.refl H) _ fun H1 e1 => fun x dx hx hdx hne => by
    have hx0 := fresh_back e1 hx
    have ex : Ex H1 (upd (upd H1 dx (.own x)) x (.ins (He.ga K "Mesh") dx [])) := fun b o q => by
      rw [upd_ne (ne_of_none q hx), upd_ne (ne_of_none q hdx)]
      exact q
    refine ⟨x, dx, a, L ns, rfl, upd_same, ex_l (e1.trans ex) hS, by rw [L_len]; exact hM.len, ib_L ns, fun ms hms _ H2 m x2 => ⟨rfl, ?_⟩, fun hn => absurd (good_L hM) hn⟩
    obtain rfl := L_inj hms
    refine k x H2 hx0 (m.back (e1.trans ex)) fun b o q => ?_
    have hb : b ≠ x := ne_of_none q hx0
    exact x2 b o hb (ex b o (e1 b o q))
end
def sp_Meshafter (K : PySem.W.Frag) : Sp := fun vs H Q _ => ∃ (x : Addr) (ns : List Nat) (h : Nat), vs = [.ref x, vi h] ∧ MeshAt K H x ns ∧ h < ns.length ∧ ∀ H', Ex H H' → Q (vi (fn ns h)) H'
abbrev nm_Meshafter : List Str := ["self", "half"]
abbrev pr_Meshafter : List Str := ["self", "half"]
def t_Meshafter (K : PySem.W.Frag) : TS :=
  (tRet (tOp (rIxL K) (tFld K (tVar 0) "_nexts") (tVar 1)))
abbrev Wt_Meshafter (K : PySem.W.Frag) (vs : List V) (H : Hp) (Q : VK) : Prop := t_Meshafter K { nx := fun _ H' => Q .non H', rt := Q } (start nm_Meshafter vs) H
theorem ln_Meshafter {K : PySem.W.Frag} (vs : List V) (H : Hp) (Q : VK) (E : XK) (h : sp_Meshafter K vs H Q E) : vs.length = pr_Meshafter.length := by
  obtain ⟨_, _, _, rfl, _⟩ := h
  rfl
theorem rd_Meshafter {K : PySem.W.Frag} (F : KF K) (vs : List V) (H : Hp) (Q : VK) (E : XK) (h : sp_Meshafter K vs H Q E) : Wt_Meshafter K vs H Q := by
  obtain ⟨x, ns, h, rfl, ⟨dx, l1, l2, l3, a, b, c, d⟩, hh, k⟩ := h
  show t_Meshafter K _ [some (.ref x), some (vi h)] H
  exact s_ret (ev_op (ev_fld (ev_var rfl) a F.cl F.n1 (mfs_n _ _ _)) (ev_var rfl) (rv_ixL (sq_of b) (L_at hh))) (fun H1 e1 => k H1 e1)
def sp_Meshbefore (K : PySem.W.Frag) : Sp := fun vs H Q _ => ∃ (x : Addr) (ns : List Nat) (h : Nat), vs = [.ref x, vi h] ∧ MeshAt K H x ns ∧ h < ns.length ∧ ∀ H', Ex H H' → Q (vi (bk ns h)) H'
abbrev nm_Meshbefore : List Str := ["self", "half"]
abbrev pr_Meshbefore : List Str := ["self", "half"]
def t_Meshbefore (K : PySem.W.Frag) : TS :=
  (tRet (tOp (rIxL K) (tFld K (tVar 0) "_prevs") (tVar 1)))
abbrev Wt_Meshbefore (K : PySem.W.Frag) (vs : List V) (H : Hp) (Q : VK) : Prop := t_Meshbefore K { nx := fun _ H' => Q .non H', rt := Q } (start nm_Meshbefore vs) H
theorem ln_Meshbefore {K : PySem.W.Frag} (vs : List V) (H : Hp) (Q : VK) (E : XK) (h : sp_Meshbefore K vs H Q E) : vs.length = pr_Meshbefore.length := by
  obtain ⟨_, _, _, rfl, _⟩ := h
  rfl
theorem rd_Meshbefore {K : PySem.W.Frag} (F : KF K) (vs : List V) (H : Hp) (Q : VK) (E : XK) (h : sp_Meshbefore K vs H Q E) : Wt_Meshbefore K vs H Q := by
  obtain ⟨x, ns, h, rfl, ⟨dx, l1, l2, l3, a, b, c, d⟩, hh, k⟩ := h
  show t_Meshbefore K _ [some (.ref x), some (vi h)] H
  refine s_ret (ev_op (ev_fld (ev_var rfl) a F.cl F.n2 (mfs_p _ _ _)) (ev_var rfl) (rv_ixL (sq_of c) (L_at (by rw [prevs_len]; exact hh)))) (fun H1 e1 => ?_)
  show Q (vi (fn (prevs ns) h)) H1
  rw [fn_prevs hh]
  exact k H1 e1
def sp_Meshtwin (K : PySem.W.Frag) : Sp := fun vs H Q _ => ∃ (x : V) (h : Nat), vs = [x, vi h] ∧ ∀ H', Ex H H' → Q (vi (tw h)) H'
abbrev nm_Meshtwin : List Str := ["self", "half"]
abbrev pr_Meshtwin : List Str := ["self", "half"]
def t_Meshtwin (K : PySem.W.Frag) : TS :=
  (tRet (tOp zXor (tVar 1) (tC (.int 1))))
abbrev Wt_Meshtwin (K : PySem.W.Frag) (vs : List V) (H : Hp) (Q : VK) : Prop := t_Meshtwin K { nx := fun _ H' => Q .non H', rt := Q } (start nm_Meshtwin vs) H
theorem ln_Meshtwin {K : PySem.W.Frag} (vs : List V) (H : Hp) (Q : VK) (E : XK) (h : sp_Meshtwin K vs H Q E) : vs.length = pr_Meshtwin.length := by
  obtain ⟨_, _, rfl, _⟩ := h
  rfl
theorem rd_Meshtwin {K : PySem.W.Frag} (F : KF K) (vs : List V) (H : Hp) (Q : VK) (E : XK) (h : sp_Meshtwin K vs H Q E) : Wt_Meshtwin K vs H Q := by
  obtain ⟨x, h, rfl, k⟩ := h
  show t_Meshtwin K _ [some x, some (vi h)] H
  exact s_ret (v := vi (tw h)) (ev_is (ev_op (ev_var rfl) ev_c rv_I0) (by show V.int (Builtin.bitXor (h : Int) 1) = _; rw [xor_tw])) (fun H1 e1 => k H1 e1)
def sp_Meshturned (K : PySem.W.Frag) : Sp := fun vs H Q _ => ∃ (x : Addr) (ns : List Nat) (h : Nat), vs = [.ref x, vi h] ∧ MeshAt K H x ns ∧ h < ns.length ∧ ∀ H', Ex H H' → Q (vi (tw (bk ns h))) H'
abbrev nm_Meshturned : List Str := ["self", "half"]
abbrev pr_Meshturned : List Str := ["self", "half"]
def t_Meshturned (K : PySem.W.Frag) : TS :=
  (tRet (tOp (rIxL K) (tFld K (tVar 0) "_turns") (tVar 1)))
abbrev Wt_Meshturned (K : PySem.W.Frag) (vs : List V) (H : Hp) (Q : VK) : Prop := t_Meshturned K { nx := fun _ H' => Q .non H', rt := Q } (start nm_Meshturned vs) H
theorem ln_Meshturned {K : PySem.W.Frag} (vs : List V) (H : Hp) (Q : VK) (E : XK) (h : sp_Meshturned K vs H Q E) : vs.length = pr_Meshturned.length := by
  obtain ⟨_, _, _, rfl, _⟩ := h
  rfl
theorem rd_Meshturned {K : PySem.W.Frag} (F : KF K) (vs : List V) (H : Hp) (Q : VK) (E : XK) (h : sp_Meshturned K vs H Q E) : Wt_Meshturned K vs H Q := by
  obtain ⟨x, ns, h, rfl, ⟨dx, l1, l2, l3, a, b, c, d⟩, hh, k⟩ := h
  show t_Meshturned K _ [some (.ref x), some (vi h)] H
  refine s_ret (ev_op (ev_fld (ev_var rfl) a F.cl F.n3 (mfs_t _ _ _)) (ev_var rfl) (rv_ixL (sq_of d) (L_at (by rw [turns_len]; exact hh)))) (fun H1 e1 => ?_)
  show Q (vi (fn (turns ns) h)) H1
  rw [fn_turns hh]
  exact k H1 e1
def sp_Meshnexts (K : PySem.W.Frag) : Sp := fun vs H Q _ => ∃ (x : Addr) (ns : List Nat), vs = [.ref x] ∧ MeshAt K H x ns ∧ ∀ p H', H p = none → Ex H H' → H' p = some (.lst (L ns)) → Q (.ref p) H'
abbrev nm_Meshnexts : List Str := ["self"]
abbrev pr_Meshnexts : List Str := ["self"]
def t_Meshnexts (K : PySem.W.Frag) : TS :=
  (tRet (tCB (cList K) (tCons (tFld K (tVar 0) "_nexts") tNil)))
abbrev Wt_Meshnexts (K : PySem.W.Frag) (vs : List V) (H : Hp) (Q : VK) : Prop := t_Meshnexts K { nx := fun _ H' => Q .non H', rt := Q } (start nm_Meshnexts vs) H
theorem ln_Meshnexts {K : PySem.W.Frag} (vs : List V) (H : Hp) (Q : VK) (E : XK) (h : sp_Meshnexts K vs H Q E) : vs.length = pr_Meshnexts.length := by
  obtain ⟨_, _, rfl, _⟩ := h
  rfl
theorem rd_Meshnexts {K : PySem.W.Frag} (F : KF K) (vs : List V) (H : Hp) (Q : VK) (E : XK) (h : sp_Meshnexts K vs H Q E) : Wt_Meshnexts K vs H Q := by
  obtain ⟨x, ns, rfl, ⟨dx, l1, l2, l3, a, b, c, d⟩, k⟩ := h
  show t_Meshnexts K _ [some (.ref x)] H
  exact s_retL (el_cb (ea_1 (ev_fld (ev_var rfl) a F.cl F.n1 (mfs_n _ _ _))) (rcl_list (sq_of b))) (fun p H1 hp e1 h1 => k p H1 hp e1 h1)
theorem spl_Meshnexts {K : PySem.W.Frag} {H : Hp} {x : Addr} {ns : List Nat} (h : MeshAt K H x ns) : SpL (sp_Meshnexts K) [.ref x] H (L ns) := fun H1 e Q q E => ⟨x, ns, rfl, h.ex e, fun p H' hp ex hq => q p H' hp ex hq⟩
theorem spv_Meshafter {K : PySem.W.Frag} {H : Hp} {x : Addr} {ns : List Nat} {h : Nat} (m : MeshAt K H x ns) (hh : h < ns.length) : SpV (sp_Meshafter K) [.ref x, vi h] H (vi (fn ns h)) := fun H1 e Q q E => ⟨x, ns, h, rfl, m.ex e, hh, q⟩
theorem spv_Meshbefore {K : PySem.W.Frag} {H : Hp} {x : Addr} {ns : List Nat} {h : Nat} (m : MeshAt K H x ns) (hh : h < ns.length) : SpV (sp_Meshbefore K) [.ref x, vi h] H (vi (bk ns h)) := fun H1 e Q q E => ⟨x, ns, h, rfl, m.ex e, hh, q⟩
theorem spv_Meshtwin {K : PySem.W.Frag} {H : Hp} {x : V} {h : Nat} : SpV (sp_Meshtwin K) [x, vi h] H (vi (tw h)) := fun H1 e Q q E => ⟨x, h, rfl, q⟩
theorem spv_Meshturned {K : PySem.W.Frag} {H : Hp} {x : Addr} {ns : List Nat} {h : Nat} (m : MeshAt K H x ns) (hh : h < ns.length) : SpV (sp_Meshturned K) [.ref x, vi h] H (vi (tw (bk ns h))) := fun H1 e Q q E => ⟨x, ns, h, rfl, m.ex e, hh, q⟩
def sp_Meshfaces (K : PySem.W.Frag) : Sp := fun vs H Q _ => ∃ (x : Addr) (ns : List Nat), vs = [.ref x] ∧ MeshAt K H x ns ∧ MP ns ∧ ∀ p H', H p = none → Ex H H' → LLn H H' p (cyc ns true) → Q (.ref p) H'
abbrev nm_Meshfaces : List Str := ["self"]
abbrev pr_Meshfaces : List Str := ["self"]
def t_Meshfaces (K : PySem.W.Frag) : TS :=
  (tRet (tCall (sp_rounds K) [] E0 (tCons (tFld K (tVar 0) "_nexts") tNil)))
abbrev Wt_Meshfaces (K : PySem.W.Frag) (vs : List V) (H : Hp) (Q : VK) : Prop := t_Meshfaces K { nx := fun _ H' => Q .non H', rt := Q } (start nm_Meshfaces vs) H
theorem ln_Meshfaces {K : PySem.W.Frag} (vs : List V) (H : Hp) (Q : VK) (E : XK) (h : sp_Meshfaces K vs H Q E) : vs.length = pr_Meshfaces.length := by
  obtain ⟨_, _, rfl, _⟩ := h
  rfl
theorem LLn.of {H0 H1 H : Hp} {p : Addr} {xss : List (List Nat)} (h : LLn H1 H p xss) (e : Ex H0 H1) : LLn H0 H p xss := by
  obtain ⟨as, h1, h2, h3⟩ := h
  exact ⟨as, h1, h2, fun a ha => ⟨fresh_back e (h3 a ha).1, (h3 a ha).2⟩⟩
theorem rd_Meshfaces {K : PySem.W.Frag} (F : KF K) (vs : List V) (H : Hp) (Q : VK) (E : XK) (h : sp_Meshfaces K vs H Q E) : Wt_Meshfaces K vs H Q := by
  obtain ⟨x, ns, rfl, ⟨dx, l1, l2, l3, a, b, c, d⟩, hM, k⟩ := h
  show t_Meshfaces K _ [some (.ref x)] H
  refine s_retC (ea_1 (ev_fld (ev_var rfl) a F.cl F.n1 (mfs_n _ _ _))) (fun H1 e1 => ?_)
  exact ⟨l1, ns, rfl, sq_of (e1 _ _ b), hM.p, hM.len, fun p H' hp ex hq => k p H' (fresh_back e1 hp) (e1.trans ex) (hq.of e1)⟩
def sp_Meshcorners (K : PySem.W.Frag) : Sp := fun vs H Q _ => ∃ (x : Addr) (ns : List Nat), vs = [.ref x] ∧ MeshAt K H x ns ∧ MP ns ∧ ∀ p H', H p = none → Ex H H' → LLn H H' p (cyc ns false) → Q (.ref p) H'
abbrev nm_Meshcorners : List Str := ["self"]
abbrev pr_Meshcorners : List Str := ["self"]
def t_Meshcorners (K : PySem.W.Frag) : TS :=
  (tRet (tCall (sp_rounds K) [] E0 (tCons (tFld K (tVar 0) "_turns") tNil)))
abbrev Wt_Meshcorners (K : PySem.W.Frag) (vs : List V) (H : Hp) (Q : VK) : Prop := t_Meshcorners K { nx := fun _ H' => Q .non H', rt := Q } (start nm_Meshcorners vs) H
theorem ln_Meshcorners {K : PySem.W.Frag} (vs : List V) (H : Hp) (Q : VK) (E : XK) (h : sp_Meshcorners K vs H Q E) : vs.length = pr_Meshcorners.length := by
  obtain ⟨_, _, rfl, _⟩ := h
  rfl
theorem rd_Meshcorners {K : PySem.W.Frag} (F : KF K) (vs : List V) (H : Hp) (Q : VK) (E : XK) (h : sp_Meshcorners K vs H Q E) : Wt_Meshcorners K vs H Q := by
  obtain ⟨x, ns, rfl, ⟨dx, l1, l2, l3, a, b, c, d⟩, hM, k⟩ := h
  show t_Meshcorners K _ [some (.ref x)] H
  refine s_retC (ea_1 (ev_fld (ev_var rfl) a F.cl F.n3 (mfs_t _ _ _))) (fun H1 e1 => ?_)
  refine ⟨l3, turns ns, rfl, sq_of (e1 _ _ d), isP_turns hM.p hM.two, by rw [turns_len]; exact hM.len, fun p H' hp ex hq => k p H' (fresh_back e1 hp) (e1.trans ex) ?_⟩
  rw [cyc_corners hM.p hM.two] at hq
  exact hq.of e1
end Hm
namespace Hm
open PySem PySem.Spec PyProof.Rows L2 Evl
/-! ### the program: ==, len, in of a mesh -/
/-- what the written part says of isinstance for meshes, lists and integers -/
structure KQ (K : PySem.W.Frag) : Prop where
  kf : KF K
  ins : InsF K (He.ga K "Mesh")
  kl : PySem.W.kitOne K (.type "list") (.ref (He.ga K "Mesh")) = some false
  ki : PySem.W.kitOne K (.type "int") (.ref (He.ga K "Mesh")) = some false
  sl : PySem.W.subIn K (.type "list") (.ref (He.ga K "Mesh")) = some false
  si : PySem.W.subIn K (.type "int") (.ref (He.ga K "Mesh")) = some false
theorem kit_refl {K : PySem.W.Frag} {v : Value} : PySem.W.kitOne K v v = some true := by
  unfold PySem.W.kitOne
  rw [if_pos (beq_self_eq_true v)]
inductive EqTo (K : PySem.W.Frag) (H : Hp) (ns : List Nat) : V → Bool → Prop where
  | mesh {z : Addr} {ms : List Nat} (m : MeshAt K H z ms) : EqTo K H ns (.ref z) (decide (ns = ms))
  | lst {p : Addr} {xs : List V} (h : H p = some (.lst xs)) : EqTo K H ns (.ref p) false
  | int (i : Int) : EqTo K H ns (.int i) false
theorem EqTo.ex {K : PySem.W.Frag} {H H' : Hp} {ns : List Nat} {y : V} {b : Bool} (h : EqTo K H ns y b) (e : Ex H H') : EqTo K H' ns y b := by
  cases h with
  | mesh m => exact .mesh (m.ex e)
  | lst h => exact .lst (e _ _ h)
  | int i => exact .int i
theorem EqTo.rgt {K : PySem.W.Frag} {H : Hp} {ns : List Nat} {y : V} {b : Bool} (h : EqTo K H ns y b) (F : KQ K) : Rgt K (He.ga K "Mesh") H y := by
  cases h with
  | mesh m =>
    obtain ⟨dx, l1, l2, l3, a, _⟩ := m
    exact .ins a
  | lst h => exact .lst h F.sl
  | int i => exact .int i F.si
def sp_Mesheq (K : PySem.W.Frag) : Sp := fun vs H Q _ => ∃ (x : Addr) (ns : List Nat) (y : V) (b : Bool), vs = [.ref x, y] ∧ MeshAt K H x ns ∧ EqTo K H ns y b ∧ ∀ H', Ex H H' → Q (.bl b) H'
abbrev nm_Mesheq : List Str := ["self", "other"]
abbrev pr_Mesheq : List Str := ["self", "other"]
def t_Mesheq (K : PySem.W.Frag) : TS :=
  (tRet (tAndV (tCB (rIsi K) (tCons (tVar 1) (tCons (tC (.ref (He.ga K "Mesh"))) tNil))) (tOp (rEqD K) (tFld K (tVar 0) "_nexts") (tFld K (tVar 1) "_nexts"))))
abbrev Wt_Mesheq (K : PySem.W.Frag) (vs : List V) (H : Hp) (Q : VK) : Prop := t_Mesheq K { nx := fun _ H' => Q .non H', rt := Q } (start nm_Mesheq vs) H
theorem ln_Mesheq {K : PySem.W.Frag} (vs : List V) (H : Hp) (Q : VK) (E : XK) (h : sp_Mesheq K vs H Q E) : vs.length = pr_Mesheq.length := by
  obtain ⟨_, _, _, _, rfl, _⟩ := h
  rfl
theorem ty_mesh {K : PySem.W.Frag} {H : Hp} {x : Addr} {ns : List Nat} (F : KQ K) (m : MeshAt K H x ns) : TyX K H (.ref x) (.ref (He.ga K "Mesh")) := by
  obtain ⟨dx, l1, l2, l3, a, _⟩ := m
  exact .base (.ins a F.kf.cl F.ins.ha F.ins.hn F.ins.ht F.ins.hm)
theorem rd_Mesheq {K : PySem.W.Frag} (F : KQ K) (vs : List V) (H : Hp) (Q : VK) (E : XK) (h : sp_Mesheq K vs H Q E) : Wt_Mesheq K vs H Q := by
  obtain ⟨x, ns, y, b, rfl, m, he, k⟩ := h
  obtain ⟨dx, l1, l2, l3, a1, b1, c1, d1⟩ := id m
  show t_Mesheq K _ [some (.ref x), some y] H
  cases he with
  | mesh m2 =>
    obtain ⟨dx2, k1, k2, k3, a2, b2, c2, d2⟩ := id m2
    refine s_ret (ev_andV (a := true) (ev_cb (ea_2 (ev_var rfl) ev_c) (rc_isi (.own _) (fun H1 e => ty_mesh F (m2.ex e)) kit_refl)) (fun _ => ev_op (ev_fld (ev_var rfl) a1 F.kf.cl F.kf.n1 (mfs_n _ _ _)) (ev_fld (ev_var rfl) a2 F.kf.cl F.kf.n1 (mfs_n _ _ _)) (rv_eqN (sq_of b1) (sq_of b2)))) (fun H1 e1 => ?_)
    rw [Bool.true_and]
    exact k H1 e1
  | lst h => exact s_ret (ev_andV (a := false) (b := false) (ev_cb (ea_2 (ev_var rfl) ev_c) (rc_isi (.own _) (fun H1 e => .base (.lst (e _ _ h))) F.kl)) (fun hb => nomatch hb)) (fun H1 e1 => k H1 e1)
  | int i => exact s_ret (ev_andV (a := false) (b := false) (ev_cb (ea_2 (ev_var rfl) ev_c) (rc_isi (.own _) (fun H1 e => .base (.int i)) F.ki)) (fun hb => nomatch hb)) (fun H1 e1 => k H1 e1)
def sp_Meshlen (K : PySem.W.Frag) : Sp := fun vs H Q _ => ∃ (x : Addr) (ns : List Nat), vs = [.ref x] ∧ MeshAt K H x ns ∧ ∀ H', Ex H H' → Q (.int (ns.length : Int)) H'
abbrev nm_Meshlen : List Str := ["self"]
abbrev pr_Meshlen : List Str := ["self"]
def t_Meshlen (K : PySem.W.Frag) : TS :=
  (tRet (tCB (cLen K) (tCons (tFld K (tVar 0) "_nexts") tNil)))
abbrev Wt_Meshlen (K : PySem.W.Frag) (vs : List V) (H : Hp) (Q : VK) : Prop := t_Meshlen K { nx := fun _ H' => Q .non H', rt := Q } (start nm_Meshlen vs) H
theorem ln_Meshlen {K : PySem.W.Frag} (vs : List V) (H : Hp) (Q : VK) (E : XK) (h : sp_Meshlen K vs H Q E) : vs.length = pr_Meshlen.length := by
  obtain ⟨_, _, rfl, _⟩ := h
  rfl
theorem rd_Meshlen {K : PySem.W.Frag} (F : KF K) (vs : List V) (H : Hp) (Q : VK) (E : XK) (h : sp_Meshlen K vs H Q E) : Wt_Meshlen K vs H Q := by
  obtain ⟨x, ns, rfl, ⟨dx, l1, l2, l3, a, b, c, d⟩, k⟩ := h
  show t_Meshlen K _ [some (.ref x)] H
  exact s_ret (ev_is (ev_cb (ea_1 (ev_fld (ev_var rfl) a F.cl F.n1 (mfs_n _ _ _))) (rc_len (sq_of b))) (by rw [L_len])) (fun H1 e1 => k H1 e1)
def sp_Meshcontains (K : PySem.W.Frag) : Sp := fun vs H Q _ => ∃ (x : Addr) (ns : List Nat) (i : Int), vs = [.ref x, .int i] ∧ MeshAt K H x ns ∧ ∀ H', Ex H H' → Q (.bl (decide (0 ≤ i) && decide (i < (ns.length : Int)))) H'
abbrev nm_Meshcontains : List Str := ["self", "half"]
abbrev pr_Meshcontains : List Str := ["self", "half"]
def t_Meshcontains (K : PySem.W.Frag) : TS :=
  (tRet (tAndV (tCall (sp_isinteger K) [] E0 (tCons (tVar 1) tNil)) (tChain zLe zLt (tC (.int 0)) (tVar 1) (tCB (cLen K) (tCons (tFld K (tVar 0) "_nexts") tNil)))))
abbrev Wt_Meshcontains (K : PySem.W.Frag) (vs : List V) (H : Hp) (Q : VK) : Prop := t_Meshcontains K { nx := fun _ H' => Q .non H', rt := Q } (start nm_Meshcontains vs) H
theorem ln_Meshcontains {K : PySem.W.Frag} (vs : List V) (H : Hp) (Q : VK) (E : XK) (h : sp_Meshcontains K vs H Q E) : vs.length = pr_Meshcontains.length := by
  obtain ⟨_, _, _, rfl, _⟩ := h
  rfl
theorem rd_Meshcontains {K : PySem.W.Frag} (F : KF K) (vs : List V) (H : Hp) (Q : VK) (E : XK) (h : sp_Meshcontains K vs H Q E) : Wt_Meshcontains K vs H Q := by
  obtain ⟨x, ns, i, rfl, ⟨dx, l1, l2, l3, a, b, c, d⟩, k⟩ := h
  show t_Meshcontains K _ [some (.ref x), some (.int i)] H
  refine s_ret (v := .bl (true && (decide (0 ≤ i) && decide (i < (ns.length : Int))))) (ev_andV (ev_call (ea_1 (ev_var rfl)) (spv_isinteger (.inl ⟨i, rfl⟩))) (fun _ => ev_chain ev_c (ev_var rfl) rv_I0 (fun _ => ev_is (ev_cb (ea_1 (ev_fld (ev_var rfl) a F.cl F.n1 (mfs_n _ _ _))) (rc_len (sq_of b))) (by rw [L_len])) (fun _ => rv_I0))) (fun H1 e1 => k H1 e1)
section
variable {K : PySem.W.Frag} {H : Hp} {x : Addr} {ns : List Nat}
theorem rc_ownLen (m : MeshAt K H x ns) (hl : ns.length ≤ 1000) : RC (rOwnLen (He.ga K "Mesh") (sp_Meshlen K) E0) [.ref x] H (.int (ns.length : Int)) := fun H1 e Q q => by
  obtain ⟨dx, l1, l2, l3, a, _⟩ := m.ex e
  exact ⟨x, dx, _, rfl, a, x, ns, rfl, m.ex e, fun H2 e2 => ⟨ns.length, rfl, by omega, q H2 e2⟩⟩
theorem rv_ownIn {neg : Bool} {i : Int} (m : MeshAt K H x ns) : RV (rOwnIn (He.ga K "Mesh") (sp_Meshcontains K) E0 neg) (.int i) (.ref x) H (.bl (if neg then !(decide (0 ≤ i) && decide (i < (ns.length : Int))) else (decide (0 ≤ i) && decide (i < (ns.length : Int))))) := fun H1 e Q q => by
  obtain ⟨dx, l1, l2, l3, a, _⟩ := m.ex e
  exact ⟨x, dx, _, rfl, a, x, ns, i, rfl, m.ex e, fun H2 e2 => ⟨_, rfl, q H2 e2⟩⟩
theorem rv_ownEq {y : V} {b : Bool} (F : KQ K) (m : MeshAt K H x ns) (h : EqTo K H ns y b) : RV (rOwnEq K (He.ga K "Mesh") (sp_Mesheq K) E0) (.ref x) y H (.bl b) := fun H1 e Q q => by
  obtain ⟨dx, l1, l2, l3, a, _⟩ := m.ex e
  exact ⟨x, dx, _, rfl, a, (h.ex e).rgt F, x, ns, y, b, rfl, m.ex e, h.ex e, fun H2 e2 => ⟨b, rfl, q H2 e2⟩⟩
end
end Hm
namespace Hm
open PySem PySem.Spec PyProof.Rows L2 Evl
/-! ### try .. except .. as -/
abbrev eLen (n : Nat) (W : WX) : XK := fun cls d H => ∀ σ : L2.St, σ.length = n → W cls d σ H
def tPre (p : Prop) (t : TS) : TS := fun D σ H => p ∧ t D σ H
def tTry (K : PySem.W.Frag) (c : Value) (i : Nat) (tb : WX → TS) (ts : Addr → Value → Option Addr → TS) : TS := fun D σ H => tb (wAs K c i ts (fun _ _ _ _ => False) D) D σ H
theorem pss_pre {X : Cx} {b : List Stmt} {p : Prop} {t : TS} (h : p → PSs X b t) : PSs X b (tPre p t) := ⟨fun pins s σ H D I hw => (h hw.1).run pins s σ H D I hw.2⟩
theorem ps_tryT {X : Cx} {x n : Str} {c : Value} {i : Nat} {body suite : List Stmt} {b₀ : Stmt} {np pos pos' : Pos} {tb : WX → TS} {ts : Addr → Value → Option Addr → TS} (hs : X.stack = X.env :: X.outer) (hf : X.env.frame = some X.env.locals) (hN : X.N.Nodup) (hi : X.N[i]? = some n) (hln : X.env.kindOf n = some .local) (hc : Names X x c)
    (hb : ∀ (W : WX) (pn : List (Addr × Obj)) (xe : Value → Shared → Prop), Takes (X.tr pn xe) W → PassesOwn (model X.prog X.w) X.A X.env xe → PSs (X.tr pn xe) body (tb W))
    (hsu : ∀ (a : Addr) (oe : Obj) (cls : Value) (d : Option Addr) (pn : List (Addr × Obj)), Zc cls d oe → (∃ vs, oe.data = .fields vs) → PSs (X.suite a ((a, oe) :: pn)) (b₀ :: suite) (ts a cls d)) :
    PS X (.Try body [.ExceptHandler (some (.Name x np)) (some n) (b₀ :: suite) pos'] [] [] pos) (tTry X.K c i tb ts) := ps_try_as hs hf hN hi hln hc takes0 hb hsu
theorem zc_of {C : Addr} {cls : Value} {d : Option Addr} {oe : Obj} (hz : Zc cls d oe) (hq : cls = .ref C ∧ d = none) : Zc (.ref C) none oe := by
  obtain ⟨rfl, rfl⟩ := hq
  exact hz
theorem rc_isE {K : PySem.W.Frag} {D a : Addr} {H : Hp} {c : V} {cv : Value} {b : Bool} (h1 : ∀ u, RelV c u → u = cv) (h2 : PySem.W.kitOne K (.ref D) cv = some b) : RC (rIsE K D a) [.ref a, c] H (.bl b) := fun H1 e Q q => ⟨c, cv, b, rfl, h1, h2, q H1 (Ex.refl H1)⟩
theorem q_tryMake {K : PySem.W.Frag} {c : Value} {i n : Nat} {C a : Addr} {sp : Sp} {te : TE} {ts : Addr → Value → Option Addr → TS} {tz : TS} {D : Ends} {σ : L2.St} {H : Hp} (h : Ev te σ H (.ref a))
    (k : ∀ H1 x dx, Ex H H1 → H1 x = none → H1 dx = none → dx ≠ x → sp [.ref x, .ref a] (upd (upd H1 dx (.own x)) x (.ins C dx [])) (fun v H2 => v = .non ∧ tz D σ H2) (eLen n (wAs K c i ts (fun _ _ _ _ => False) { D with nx := tz D }))) :
    tSeq (tTry K c i (fun W => tDrop (tMake C sp [] (eLen n W) (tCons te tNil))) ts) tz D σ H := h H (Ex.refl H) _ fun H1 e1 => fun x dx hx hdx hne => k H1 x dx e1 hx hdx hne
/-! ### lists that are no mesh -/
theorem good_mem {xs : List V} (h : Good xs) {v : V} (hv : v ∈ xs) : ∃ n, n < xs.length ∧ v = vi n := by
  obtain ⟨ns, rfl, hP, _⟩ := h
  obtain ⟨n, hn, rfl⟩ := List.mem_map.mp hv
  exact ⟨n, by rw [L_len]; exact hP.mem.mp hn, rfl⟩
theorem good_even {xs : List V} (h : Good xs) : xs.length % 2 = 0 := by
  obtain ⟨ns, rfl, _, h2⟩ := h
  rw [L_len]
  exact h2
theorem good_two {xs : List V} (h : Good xs) {i j : Nat} {v : V} (hi : xs[i]? = some v) (hj : xs[j]? = some v) : i = j := by
  obtain ⟨ns, rfl, hP, _⟩ := h
  obtain ⟨h1, e1⟩ := L_item hi
  obtain ⟨h2, e2⟩ := L_item hj
  have h3 : (fn ns i : Int) = (fn ns j : Int) := V.int.inj (e1.symm.trans e2)
  exact (pf_fn hP).inj i j h1 h2 (Int.ofNat.inj h3)
theorem rep_set {xs : List V} {p : Nat} {v : V} (h : p < xs.length) : (xs.take p ++ [v]) ++ xs.drop (p + 1) = xs.set p v := by
  rw [List.set_eq_take_append_cons_drop, if_pos h, List.append_assoc]
  rfl
theorem ib_set {xs : List V} {p : Nat} {v : V} (h : ∀ x ∈ xs, IB x) (hv : IB v) : ∀ x ∈ xs.set p v, IB x := fun x hx => by
  rcases List.mem_or_eq_of_mem_set hx with h1 | h1
  · exact h x h1
  · rw [h1]
    exact hv
section
variable {K : PySem.W.Frag} {σ : L2.St} {H : Hp} {ta tb te : TE}
/-- xs[:p] + [v] + xs[q:] -/
theorem el_cut {a : Addr} {xs : List V} {v : V} {p q : Nat} {t1 t2 : TE} (ha : Ev ta σ H (.ref a)) (hS : SqL K H a xs) (h1 : Ev t1 σ H (.int (p : Int))) (h2 : Ev t2 σ H (.int (q : Int))) (hv : Ev te σ H v) (hp : p ≤ xs.length) (hq : q ≤ xs.length) (hz : xs.length ≤ 10000) :
    EvL (tOp rCat (tOp rCat (tSl (rSlL K) ta tNoPart (tPart t1)) (tLst (tCons te tNil))) (tSl (rSlL K) ta (tPart t2) tNoPart)) σ H ((xs.take p ++ [v]) ++ xs.drop q) := by
  have el1 := el_sl (K := K) (te := ta) (tl := tNoPart) (th := tPart t1) (σ := σ) ha eo_none (eo_some h1) hS
  have el2 := el_sl (K := K) (te := ta) (tl := tPart t2) (th := tNoPart) (σ := σ) ha (eo_some h2) eo_none hS
  rw [cut_to hp] at el1
  rw [cut_from hq] at el2
  refine el_cat (el_cat el1 (el_lst (ea_1 hv) (by show 1 ≤ 100000; decide)) ?_) el2 ?_
  · rw [List.length_take]
    show _ + 1 ≤ _
    omega
  · rw [List.length_append, List.length_take, List.length_drop]
    show _ + 1 + _ ≤ _
    omega
end
end Hm
namespace Hm
open PySem PySem.Spec PyProof.Rows L2 Evl
section
variable {K : PySem.W.Frag} {σ : L2.St} {H : Hp} {ta tb te : TE} {D : Ends} {tz : TS}
/-- a new list of new lists -/
def EvLL (te : TE) (σ : L2.St) (H : Hp) (xss : List (List Nat)) : Prop := ∀ H1, Ex H H1 → ∀ Q : VK, (∀ p H2, H1 p = none → Ex H1 H2 → LLn H1 H2 p xss → Q (.ref p) H2) → te σ H1 Q
def SpLL (sp : Sp) (vs : List V) (H : Hp) (xss : List (List Nat)) : Prop := ∀ H1, Ex H H1 → ∀ Q : VK, (∀ p H2, H1 p = none → Ex H1 H2 → LLn H1 H2 p xss → Q (.ref p) H2) → ∀ E : XK, sp vs H1 Q E
theorem ell_call {sp : Sp} {vs : List V} {E : XK} {ta : TA} {xss : List (List Nat)} (h : EvA ta σ H vs) (hs : SpLL sp vs H xss) : EvLL (tCall sp [] E ta) σ H xss := fun H1 e Q q =>
  h H1 e _ fun H2 e2 => by
    show sp (vs ++ []) H2 _ E
    rw [List.append_nil]
    exact hs H2 (e.trans e2) Q (fun p H3 hp e3 h3 => q p H3 (fresh_back e2 hp) (e2.trans e3) (h3.of e2)) E
theorem ell_meth {a C dx : Addr} {fs : List (Str × V)} {m : Str} {sp : Sp} {ta : TE} {tb : TA} {vs : List V} {xss : List (List Nat)} {E : XK} (h : Ev ta σ H (.ref a)) (ho : H a = some (.ins C dx fs)) (hl : fs.lookup m = none) (ha : EvA tb σ H vs) (hs : SpLL sp (.ref a :: vs) H xss) : EvLL (tMeth C m sp [] E ta tb) σ H xss := fun H1 e Q q =>
  h H1 e _ fun H2 e2 => ⟨a, dx, fs, rfl, e2 _ _ (e _ _ ho), hl, ha H2 (e.trans e2) _ fun H3 e3 => by
    have e4 := (e.trans e2).trans e3
    have q2 := hs H3 e4 Q (fun p H4 hp e5 h5 => q p H4 (fresh_back (e2.trans e3) hp) ((e2.trans e3).trans e5) (h5.of (e2.trans e3))) E
    simpa using q2⟩
theorem ev_eqLL {a : Addr} {xss yss : List (List Nat)} (ha : Ev ta σ H (.ref a)) (h : LL H a xss) (hb : EvLL tb σ H yss) : Ev (tOp (rEqD K) ta tb) σ H (.bl (decide (xss = yss))) := fun H1 e Q q =>
  ha H1 e _ fun H2 e2 => hb H2 (e.trans e2) _ fun p H3 hp e3 h3 => rv_eqNN (h.ex ((e.trans e2).trans e3)) h3.ll H3 (Ex.refl H3) Q fun H4 e4 => q H4 ((e2.trans e3).trans e4)
theorem ev_neLL {a : Addr} {xss yss : List (List Nat)} (ha : Ev ta σ H (.ref a)) (h : LL H a xss) (hb : EvLL tb σ H yss) : Ev (tOp (rNeD K) ta tb) σ H (.bl (!decide (xss = yss))) := fun H1 e Q q =>
  ha H1 e _ fun H2 e2 => hb H2 (e.trans e2) _ fun p H3 hp e3 h3 => rv_neNN (h.ex ((e.trans e2).trans e3)) h3.ll H3 (Ex.refl H3) Q fun H4 e4 => q H4 ((e2.trans e3).trans e4)
theorem q_asgLL {i : Nat} {xss : List (List Nat)} (h : EvLL te σ H xss) (k : ∀ p H1, H p = none → Ex H H1 → LLn H H1 p xss → tz D (σ.set i (some (.ref p))) H1) : tSeq (tAsg te (gName i)) tz D σ H := h H (Ex.refl H) _ fun p H1 hp e h1 => k p H1 hp e h1
theorem spll_Lrounds {a : Addr} {ns : List Nat} {b : Bool} (hS : SqL K H a (L ns)) (hM : MP ns) : SpLL (sp_Lrounds K) [.ref a, .bl b] H (cyc ns b) := fun H1 e Q q E => ⟨a, ns, b, rfl, ex_l e hS, hM.p, hM.two, hM.len, fun p H' hp ex h => q p H' hp ex h⟩
theorem spll_faces {x : Addr} {ns : List Nat} (m : MeshAt K H x ns) (hM : MP ns) : SpLL (sp_Meshfaces K) [.ref x] H (cyc ns true) := fun H1 e Q q E => ⟨x, ns, rfl, m.ex e, hM, fun p H' hp ex h => q p H' hp ex h⟩
theorem spll_corners {x : Addr} {ns : List Nat} (m : MeshAt K H x ns) (hM : MP ns) : SpLL (sp_Meshcorners K) [.ref x] H (cyc ns false) := fun H1 e Q q E => ⟨x, ns, rfl, m.ex e, hM, fun p H' hp ex h => q p H' hp ex h⟩
theorem noM {m : Str} (l1 l2 l3 : Addr) (h : (decide (m = "_nexts") || decide (m = "_prevs") || decide (m = "_turns")) = false) : (mfs l1 l2 l3).lookup m = none := by
  simp only [Bool.or_eq_false_iff, decide_eq_false_iff_not] at h
  exact mfs_no _ _ _ h.1.1 h.1.2 h.2
/-- a method of a mesh that gives a value, a new list, a new list of lists -/
theorem ev_mm {x : Addr} {ns : List Nat} {m : Str} {sp : Sp} {tb : TA} {vs : List V} {v : V} {E : XK} (mm : MeshAt K H x ns) (h : Ev ta σ H (.ref x)) (hm : (decide (m = "_nexts") || decide (m = "_prevs") || decide (m = "_turns")) = false) (ha : EvA tb σ H vs) (hs : SpV sp (.ref x :: vs) H v) : Ev (tMeth (He.ga K "Mesh") m sp [] E ta tb) σ H v := by
  obtain ⟨dx, l1, l2, l3, a, _⟩ := mm
  exact ev_meth h a (noM _ _ _ hm) ha hs
theorem el_mm {x : Addr} {ns : List Nat} {m : Str} {sp : Sp} {tb : TA} {vs xs : List V} {E : XK} (mm : MeshAt K H x ns) (h : Ev ta σ H (.ref x)) (hm : (decide (m = "_nexts") || decide (m = "_prevs") || decide (m = "_turns")) = false) (ha : EvA tb σ H vs) (hs : SpL sp (.ref x :: vs) H xs) : EvL (tMeth (He.ga K "Mesh") m sp [] E ta tb) σ H xs := by
  obtain ⟨dx, l1, l2, l3, a, _⟩ := mm
  exact el_meth h a (noM _ _ _ hm) ha hs
theorem ell_mm {x : Addr} {ns : List Nat} {m : Str} {sp : Sp} {tb : TA} {vs : List V} {xss : List (List Nat)} {E : XK} (mm : MeshAt K H x ns) (h : Ev ta σ H (.ref x)) (hm : (decide (m = "_nexts") || decide (m = "_prevs") || decide (m = "_turns")) = false) (ha : EvA tb σ H vs) (hs : SpLL sp (.ref x :: vs) H xss) : EvLL (tMeth (He.ga K "Mesh") m sp [] E ta tb) σ H xss := by
  obtain ⟨dx, l1, l2, l3, a, _⟩ := mm
  exact ell_meth h a (noM _ _ _ hm) ha hs
theorem q_call2 {sp1 sp2 : Sp} {E1 E2 : XK} {tc tr : TA} {vs1 : List V} {i : Nat} (h : EvA tc σ H vs1) (k : ∀ H1, Ex H H1 → sp2 vs1 H1 (fun v H2 => tr σ H2 fun ws H3 => sp1 (v :: ws) H3 (fun v' H4 => tz D (σ.set i (some v')) H4) E1) E2) :
    tSeq (tAsg (tCall sp1 [] E1 (tCons (tCall sp2 [] E2 tc) tr)) (gName i)) tz D σ H :=
  h H (Ex.refl H) _ fun H1 e1 => by
    have q := k H1 e1
    rw [← List.append_nil vs1] at q
    have e : (fun v H2 => tr σ H2 fun ws H3 => sp1 (v :: ws) H3 (fun v' H4 => tz D (σ.set i (some v')) H4) E1) = (fun v H2 => tr σ H2 fun ws H3 => sp1 ((v :: ws) ++ []) H3 (fun v' H4 => tz D (σ.set i (some v')) H4) E1) := by
      funext v H2
      congr 1
      funext ws H3
      rw [List.append_nil]
    rw [e] at q
    exact q
/-- i = _law_nexts(_law_tape(script, k), edges) -/
theorem q_nexts {i j : Nat} {a : Addr} {zs : List Int} {k : Int} {e : Nat} {E1 E2 : XK} (hs : σ[0]? = some (some (.ref a))) (hS : SqL K H a (zs.map V.int)) (k0 : 0 ≤ k) (k1 : k ≤ 100) (he : σ[j]? = some (some (.int (e : Int)))) (h60 : e ≤ 60)
    (kk : ∀ p ns H1, H p = none → Ex H H1 → H1 p = some (.lst (L ns)) → IsP ns → ns.length = 2 * e → tz D (σ.set i (some (.ref p))) H1) :
    tSeq (tAsg (tCall (sp_Lnexts K) [] E1 (tCons (tCall (sp_Ltape K) [] E2 (tCons (tVar 0) (tCons (tC (.int k)) tNil))) (tCons (tVar j) tNil))) (gName i)) tz D σ H := by
  refine q_call2 (ea_2 (ev_var hs) ev_c) fun H1 e1 => ?_
  refine ⟨a, zs, k, rfl, ex_l e1 hS, k0, k1, fun t H2 ht tp e2 => ⟨_, he, ?_⟩⟩
  refine ⟨t, e, rfl, tp, h60, fun p H' ns hp h1 h2 h3 _ x2 => ?_⟩
  have ht0 := fresh_back e1 ht
  have ex : Ex H H' := fun b o hb => x2 b o (ne_of_none hb ht0) (e2 b o (e1 b o hb))
  exact kk p ns H' (fresh_back (e1.trans e2) hp) ex h1 h2 h3
/-- [x for x in xs] -/
theorem el_copy {a : Addr} {ns : List Nat} {j : Nat} (h : Ev ta σ H (.ref a)) (hS : SqL K H a (L ns)) (hz : ns.length ≤ 1000) (hw : ∀ x, wipe ((wipe σ [j]).set j (some x)) [j] = wipe σ [j]) (hj : ∀ x, ((wipe σ [j]).set j (some x))[j]? = some (some x)) : EvL (tLc (iList K ta) (gName j) tYes (tVar j) [j]) σ H (L ns) := by
  have := el_lcL (K := K) (σ := σ) (H := H) (j := j) (vs := [j]) (tl := ta) (t := tYes) (te := tVar j) (fun _ => true) (fun i => vi (fn ns i)) h hS (by rw [L_len]; omega) hw (fun i x H1 _ _ => et_yes) (fun i x H1 _ hx _ => by
    obtain ⟨q1, rfl⟩ := L_item hx
    exact ev_var (hj _))
  rw [given_all] at this
  have e : (List.range (L ns).length).map (fun i => vi (fn ns i)) = L ns := by
    refine List.ext_getElem? fun j => ?_
    rw [L_len]
    by_cases hj : j < ns.length
    · rw [List.getElem?_map, List.getElem?_range hj, L_get hj]
      rfl
    · rw [List.getElem?_eq_none (by rw [List.length_map, List.length_range]; omega), List.getElem?_eq_none (by rw [L_len]; omega)]
  rw [e] at this
  exact this
theorem rc_isL {p : Addr} {xs : List V} (h : H p = some (.lst xs)) : RC (rIsi K) [.ref p, .ty "list"] H (.bl true) :=
  rc_isi (.ty "list") (fun H1 e => .base (.lst (e _ _ h))) (kit_ty (by decide +kernel))
end
end Hm
namespace Hm
open PySem PySem.Spec PyProof.Rows L2 Evl
/-- all but the tape is kept -/
theorem MeshN.exo {K : PySem.W.Frag} {H0 H H' : Hp} {x t : Addr} {ns : List Nat} {u : HO} (h : MeshN K H0 H x ns) (e : ExO t H H') (ht : H0 t = some u) (hx : H0 x = none) : MeshN K H0 H' x ns := by
  obtain ⟨dx, l1, l2, l3, a, b, c, d, f, g, i⟩ := h
  exact ⟨dx, l1, l2, l3, e _ _ (ne_of_none ht hx).symm a, e _ _ (ne_of_none ht f).symm b, e _ _ (ne_of_none ht g).symm c, e _ _ (ne_of_none ht i).symm d, f, g, i⟩
section
variable {K : PySem.W.Frag} {σ : L2.St} {H : Hp} {ta tb te : TE} {D : Ends} {tz : TS} {E : XK}
/-- Mesh(l) -/
theorem mk_mesh {a : Addr} {ns : List Nat} {Q : VK} (h : Ev te σ H (.ref a)) (hS : SqL K H a (L ns)) (hM : MP ns) (k : ∀ x H1, H x = none → MeshN K H H1 x ns → Ex H H1 → Q (.ref x) H1) :
    tMake (He.ga K "Mesh") (sp_Meshinit K) [] E (tCons te tNil) σ H Q :=
  h H (Ex.refl H) _ fun H1 e1 => fun x dx hx hdx hne => by
    have hx0 := fresh_back e1 hx
    have ex : Ex H1 (upd (upd H1 dx (.own x)) x (.ins (He.ga K "Mesh") dx [])) := fun b o q => by
      rw [upd_ne (ne_of_none q hx), upd_ne (ne_of_none q hdx)]
      exact q
    refine ⟨x, dx, a, L ns, rfl, upd_same, ex_l (e1.trans ex) hS, by rw [L_len]; exact hM.len, ib_L ns, fun ms hms _ H2 m x2 => ⟨rfl, ?_⟩, fun hn => absurd (good_L hM) hn⟩
    obtain rfl := L_inj hms
    exact k x H2 hx0 (m.back (e1.trans ex)) fun b o q => x2 b o (ne_of_none q hx0) (ex b o (e1 b o q))
/-- Mesh(.. a new list ..) -/
theorem mk_meshN {ns : List Nat} {Q : VK} (h : EvL te σ H (L ns)) (hM : MP ns) (k : ∀ x H1, H x = none → MeshN K H H1 x ns → Ex H H1 → Q (.ref x) H1) :
    tMake (He.ga K "Mesh") (sp_Meshinit K) [] E (tCons te tNil) σ H Q :=
  h H (Ex.refl H) _ fun a H1 ha e1 h1 => fun x dx hx hdx hne => by
    have hx0 := fresh_back e1 hx
    have ex : Ex H1 (upd (upd H1 dx (.own x)) x (.ins (He.ga K "Mesh") dx [])) := fun b o q => by
      rw [upd_ne (ne_of_none q hx), upd_ne (ne_of_none q hdx)]
      exact q
    refine ⟨x, dx, a, L ns, rfl, upd_same, sq_of (ex _ _ h1), by rw [L_len]; exact hM.len, ib_L ns, fun ms hms _ H2 m x2 => ⟨rfl, ?_⟩, fun hn => absurd (good_L hM) hn⟩
    obtain rfl := L_inj hms
    exact k x H2 hx0 (m.back (e1.trans ex)) fun b o q => x2 b o (ne_of_none q hx0) (ex b o (e1 b o q))
theorem q_meshN {i : Nat} {ns : List Nat} (h : EvL te σ H (L ns)) (hM : MP ns) (k : ∀ x H1, H x = none → MeshN K H H1 x ns → Ex H H1 → tz D (σ.set i (some (.ref x))) H1) :
    tSeq (tAsg (tMake (He.ga K "Mesh") (sp_Meshinit K) [] E (tCons te tNil)) (gName i)) tz D σ H := mk_meshN (Q := fun v H1 => tz D (σ.set i (some v)) H1) h hM k
theorem ev_opMesh {r : R2} {x v : V} {a : Addr} {ns : List Nat} (ha : Ev ta σ H x) (h : Ev te σ H (.ref a)) (hS : SqL K H a (L ns)) (hM : MP ns) (hr : ∀ z H1, Ex H H1 → MeshAt K H1 z ns → RV r x (.ref z) H1 v) :
    Ev (tOp r ta (tMake (He.ga K "Mesh") (sp_Meshinit K) [] E (tCons te tNil))) σ H v := fun H1 e1 Q q =>
  ha H1 e1 _ fun H2 e2 => mk_mesh (h.mono (e1.trans e2)) (ex_l (e1.trans e2) hS) hM fun z H3 _ m e3 => hr z H3 ((e1.trans e2).trans e3) m.at H3 (Ex.refl H3) Q fun H4 e4 => q H4 ((e2.trans e3).trans e4)
/-- if f(..) == c: .. -/
theorem s_ifEqC {sp : Sp} {tp : TA} {vs : List V} {c : Int} {tu tw : TS} (h : EvA tp σ H vs) (k : ∀ H1, Ex H H1 → sp vs H1 (fun v H2 => scal v (.int c) = true ∧ (if decide (v = .int c) = true then tu D σ H2 else tw D σ H2)) E) :
    tIfS (tTest (tOp rEq (tCall sp [] E tp) (tC (.int c)))) tu tw D σ H :=
  h H (Ex.refl H) _ fun H1 e => by
    have q := k H1 e
    rw [← List.append_nil vs] at q
    have e2 : (fun v H2 => scal v (.int c) = true ∧ (if decide (v = .int c) = true then tu D σ H2 else tw D σ H2)) = (fun v H2 => rEq v (.int c) H2 (fun z H3 => ∃ b, z = .bl b ∧ (if b = true then tu D σ H3 else tw D σ H3))) := by
      funext v H2
      apply propext
      constructor
      · rintro ⟨h1, h2⟩
        exact ⟨h1, _, rfl, h2⟩
      · rintro ⟨h1, b, hb, h2⟩
        cases hb
        exact ⟨h1, h2⟩
    rw [e2] at q
    exact q
theorem q_modAdd {A B : TE} {tp : TA} {sp : Sp} {a : Int} {i : Nat} {vs : List V} (hA : Ev A σ H (.int a)) (hp : EvA tp σ H vs)
    (k : ∀ H1, Ex H H1 → sp vs H1 (fun v H2 => zAdd (.int a) v H2 (fun z H3 => cInt [z] H3 (fun w H4 => B σ H4 (fun mm H5 => zMod w mm H5 (fun u H6 => tz D (σ.set i (some u)) H6))))) E) :
    tSeq (tAsg (tOp zMod (tCB cInt (tCons (tOp zAdd A (tCall sp [] E tp)) tNil)) B) (gName i)) tz D σ H :=
  hA H (Ex.refl H) _ fun H1 e1 => hp H1 e1 _ fun H2 e2 => by
    have q := k H2 (e1.trans e2)
    rw [← List.append_nil vs] at q
    exact q
end
theorem L_set (ns : List Nat) (i a : Nat) : (L ns).set i (vi a) = L (ns.set i a) := by unfold L; rw [List.map_set]
/-- two entries exchanged -/
theorem isP_swap {ns : List Nat} (h : IsP ns) {i j : Nat} (hi : i < ns.length) (hj : j < ns.length) : IsP ((ns.set i (fn ns j)).set j (fn ns i)) := by
  have e : (ns.set i (fn ns j)).set j (fn ns i) = (List.range ns.length).map (fun x => fn ns (if x = j then i else if x = i then j else x)) := by
    refine List.ext_getElem? fun x => ?_
    by_cases hx : x < ns.length
    · rw [List.getElem?_map, List.getElem?_range hx]
      by_cases h1 : x = j
      · subst h1
        rw [List.getElem?_set_self (by rw [List.length_set]; exact hx)]
        simp
      · rw [List.getElem?_set_ne (Ne.symm h1)]
        by_cases h2 : x = i
        · subst h2
          rw [List.getElem?_set_self hx]
          simp [h1]
        · rw [List.getElem?_set_ne (Ne.symm h2), fn_get hx]
          simp [h1, h2]
    · rw [List.getElem?_eq_none (by rw [List.length_set, List.length_set]; omega), List.getElem?_eq_none (by rw [List.length_map, List.length_range]; omega)]
  rw [e]
  refine isP_of ⟨fun x hx => (pf_fn h).lt _ (by split <;> first | omega | (split <;> omega)), fun x y hx hy q => ?_⟩
  have := (pf_fn h).inj _ _ (by split <;> first | omega | (split <;> omega)) (by split <;> first | omega | (split <;> omega)) q
  split at this <;> split at this <;> (try split at this) <;> (try split at this) <;> omega
theorem isP_two {ns : List Nat} (h : IsP ns) : IsP (ns ++ [ns.length, ns.length + 1]) where
  perm := by
    rw [List.length_append]
    show (ns ++ [ns.length, ns.length + 1]).Perm (List.range (ns.length + 2))
    rw [List.range_succ, List.range_succ, List.append_assoc]
    exact List.Perm.append_right _ h.perm
end Hm
namespace Hm
open PySem PySem.Spec PyProof.Rows L2 Evl
theorem blkOk_n {N : List Str} {own : List (Str × Nat)} {scope1 scope2 sc : Scope} {cl : List (Str × Addr)} {C L f : Addr} {qual : Str} {cdv : Value} (h : blkC N (relabel scope1 (envOfC "" sc 0 0 .none)) scope2 own = true) : BlkOk N (compEnvC scope1 cl C (envOfC qual sc L f cdv)).scope scope2 own := by
  have e : (compEnvC scope1 cl C (envOfC qual sc L f cdv)).scope = relabel scope1 (envOfC "" sc 0 0 .none) := rfl
  rw [e]
  exact blkOk_by h
end Hm
namespace Hm
/-! ### new numbers: the order in which halves are met -/
/-- a half and its twin behind the others, if it is not there -/
def addE (o : List Nat) (h : Nat) : List Nat := if h ∈ o then o else o ++ [h, tw h]
/-- from place k on -/
def goE (f : Nat → Nat) : Nat → Nat → List Nat → List Nat
  | 0, _, o => o
  | n + 1, k, o => if h : k < o.length then goE f n (k + 1) (addE o (f o[k])) else o
/-- an order of halves below N -/
structure Od (N : Nat) (o : List Nat) : Prop where
  nd : o.Nodup
  lt : ∀ h ∈ o, h < N
  tm : ∀ h ∈ o, tw h ∈ o
  ix : ∀ h ∈ o, o.idxOf (Hm.tw h) = Hm.tw (o.idxOf h)
  ev : o.length % 2 = 0
theorem od_nil (N : Nat) : Od N [] := ⟨List.nodup_nil, fun _ h => (nomatch h), fun _ h => (nomatch h), fun _ h => (nomatch h), rfl⟩
theorem tw_ne (x : Nat) : tw x ≠ x := by unfold tw; split <;> omega
theorem Od.le {N : Nat} {o : List Nat} (h : Od N o) : o.length ≤ N := nodup_le N o h.nd h.lt
theorem addE_in {o : List Nat} {h : Nat} (q : h ∈ o) : addE o h = o := if_pos q
theorem addE_out {o : List Nat} {h : Nat} (q : h ∉ o) : addE o h = o ++ [h, tw h] := if_neg q
theorem addE_sub (o : List Nat) (h : Nat) : ∀ x ∈ o, x ∈ addE o h := fun x hx => by
  unfold addE
  split
  · exact hx
  · exact List.mem_append_left _ hx
theorem addE_mem (o : List Nat) (h : Nat) : h ∈ addE o h := by
  unfold addE
  split
  · assumption
  · exact List.mem_append_right _ (List.mem_cons_self ..)
theorem addE_from {o : List Nat} {h x : Nat} (q : x ∈ addE o h) : x ∈ o ∨ x = h ∨ x = tw h := by
  unfold addE at q
  split at q
  · exact .inl q
  · rcases List.mem_append.mp q with q | q
    · exact .inl q
    · rcases List.mem_cons.mp q with q | q
      · exact .inr (.inl q)
      · exact .inr (.inr (List.mem_singleton.mp q))
theorem addE_len (o : List Nat) (h : Nat) : o.length ≤ (addE o h).length := by
  unfold addE
  split
  · exact Nat.le_refl _
  · rw [List.length_append]
    omega
theorem addE_get {o : List Nat} {h k : Nat} (hk : k < o.length) : (addE o h)[k]? = o[k]? := by
  unfold addE
  split
  · rfl
  · rw [List.getElem?_append_left hk]
theorem addE_idx {o : List Nat} {h x : Nat} (hx : x ∈ o) : (addE o h).idxOf x = o.idxOf x := by
  unfold addE
  split
  · rfl
  · rw [List.idxOf_append, if_pos hx]
theorem Od.add {N : Nat} {o : List Nat} (h : Od N o) (hN : N % 2 = 0) {x : Nat} (hx : x < N) : Od N (addE o x) := by
  by_cases q : x ∈ o
  · rw [addE_in q]
    exact h
  have qt : tw x ∉ o := fun z => q (by have := h.tm _ z; rwa [tw_tw] at this)
  have i1 : (o ++ [x, tw x]).idxOf x = o.length := by
    rw [List.idxOf_append, if_neg q]
    simp
  have i2 : (o ++ [x, tw x]).idxOf (tw x) = o.length + 1 := by
    rw [List.idxOf_append, if_neg qt, List.idxOf_cons]
    have : (x == tw x) = false := by rw [beq_eq_false_iff_ne]; exact (tw_ne x).symm
    rw [this]
    simp
    omega
  have te : tw o.length = o.length + 1 := by unfold tw; rw [if_pos h.ev]
  rw [addE_out q]
  refine ⟨?_, fun y hy => ?_, fun y hy => ?_, fun y hy => ?_, ?_⟩
  · rw [List.nodup_append]
    refine ⟨h.nd, ?_, fun a ha b hb e => ?_⟩
    · simp [(tw_ne x).symm]
    · subst e
      rcases List.mem_cons.mp hb with e | hb
      · exact q (e ▸ ha)
      · exact qt (List.mem_singleton.mp hb ▸ ha)
  · rcases List.mem_append.mp hy with hy | hy
    · exact h.lt y hy
    · rcases List.mem_cons.mp hy with e | hy
      · rw [e]
        exact hx
      · rw [List.mem_singleton.mp hy]
        exact tw_lt hN hx
  · rcases List.mem_append.mp hy with hy | hy
    · exact List.mem_append_left _ (h.tm y hy)
    · rcases List.mem_cons.mp hy with e | hy
      · rw [e]
        simp
      · rw [List.mem_singleton.mp hy, tw_tw]
        simp
  · rcases List.mem_append.mp hy with hy | hy
    · rw [List.idxOf_append, if_pos (h.tm y hy), List.idxOf_append, if_pos hy]
      exact h.ix y hy
    · rcases List.mem_cons.mp hy with e | hy
      · rw [e, i1, i2, te]
      · rw [List.mem_singleton.mp hy, tw_tw, i1, i2, ← te, tw_tw]
  · rw [List.length_append]
    show (o.length + 2) % 2 = 0
    have := h.ev
    omega
section
variable {f : Nat → Nat} {N : Nat}
theorem goE_stop {n k : Nat} {o : List Nat} (h : ¬ k < o.length) : goE f n k o = o := by
  cases n with
  | zero => rfl
  | succ n =>
    unfold goE
    rw [dif_neg h]
theorem goE_step {n k : Nat} {o : List Nat} (h : k < o.length) : goE f (n + 1) k o = goE f n (k + 1) (addE o (f o[k])) := by
  rw [goE]
  rw [dif_pos h]
theorem goE_od (P : ∀ x, x < N → f x < N) (hN : N % 2 = 0) : ∀ n k o, Od N o → Od N (goE f n k o)
  | 0, _, _, h => h
  | n + 1, k, o, h => by
    by_cases q : k < o.length
    · rw [goE_step q]
      exact goE_od P hN n (k + 1) _ (h.add hN (P _ (h.lt _ (List.getElem_mem q))))
    · rw [goE_stop q]
      exact h
theorem goE_fuel (P : ∀ x, x < N → f x < N) (hN : N % 2 = 0) : ∀ n k o, Od N o → N ≤ n + k → goE f (n + 1) k o = goE f n k o
  | 0, k, o, h, q => by
    have := h.le
    rw [goE_stop (by omega), goE_stop (by omega)]
  | n + 1, k, o, h, q => by
    by_cases z : k < o.length
    · rw [goE_step z, goE_step z]
      exact goE_fuel P hN n (k + 1) _ (h.add hN (P _ (h.lt _ (List.getElem_mem z)))) (by omega)
    · rw [goE_stop z, goE_stop z]
theorem goE_more (P : ∀ x, x < N → f x < N) (hN : N % 2 = 0) {k : Nat} {o : List Nat} (h : Od N o) {n : Nat} (q : N ≤ n + k) : ∀ m, goE f (n + m) k o = goE f n k o
  | 0 => rfl
  | m + 1 => by
    rw [← Nat.add_assoc, goE_fuel P hN (n + m) k o h (by omega)]
    exact goE_more P hN h q m
theorem goE_skip {n k : Nat} {o : List Nat} (h : k < o.length) (q : f o[k] ∈ o) : goE f (n + 1) k o = goE f n (k + 1) o := by
  rw [goE_step h, addE_in q]
theorem goE_skips {o : List Nat} : ∀ {d : Nat} (n k : Nat), k + d ≤ o.length → (∀ i (h : i < o.length), i < k + d → f o[i] ∈ o) → goE f (n + d) k o = goE f n (k + d) o
  | 0, n, k, _, _ => rfl
  | d + 1, n, k, h, q => by
    rw [← Nat.add_assoc, goE_skip (by omega) (q k (by omega) (by omega)), goE_skips n (k + 1) (by omega) (fun i hi hj => q i hi (by omega))]
    congr 1
    omega
theorem goE_sub : ∀ n k o, ∀ x ∈ o, x ∈ goE f n k o
  | 0, _, _, _, h => h
  | n + 1, k, o, x, h => by
    by_cases q : k < o.length
    · rw [goE_step q]
      exact goE_sub n (k + 1) _ x (addE_sub o _ x h)
    · rw [goE_stop q]
      exact h
theorem goE_get : ∀ n k o, ∀ i, i < o.length → (goE f n k o)[i]? = o[i]?
  | 0, _, _, _, _ => rfl
  | n + 1, k, o, i, h => by
    by_cases q : k < o.length
    · rw [goE_step q, goE_get n (k + 1) _ i (Nat.lt_of_lt_of_le h (addE_len o _))]
      exact addE_get h
    · rw [goE_stop q]
/-- all that is met is closed -/
theorem goE_closed (P : ∀ x, x < N → f x < N) (hN : N % 2 = 0) : ∀ n k o, Od N o → N ≤ n + k → (∀ i (h : i < o.length), i < k → f o[i] ∈ o) → ∀ x ∈ goE f n k o, f x ∈ goE f n k o
  | 0, k, o, h, q, c, x, hx => by
    have := h.le
    obtain ⟨i, hi, e⟩ := List.mem_iff_getElem.mp hx
    rw [← e]
    exact c i hi (by have hi : i < o.length := hi; omega)
  | n + 1, k, o, h, q, c, x, hx => by
    by_cases z : k < o.length
    · rw [goE_step z] at hx ⊢
      refine goE_closed P hN n (k + 1) _ (h.add hN (P _ (h.lt _ (List.getElem_mem z)))) (by omega) (fun i hi hk => ?_) x hx
      have hio : i < o.length := by omega
      have e : (addE o (f o[k]))[i] = o[i] := by
        have := addE_get (h := f o[k]) hio
        rw [List.getElem?_eq_getElem hi, List.getElem?_eq_getElem hio] at this
        exact Option.some.inj this
      rw [e]
      by_cases w : i = k
      · subst w
        exact addE_mem _ _
      · exact addE_sub _ _ _ (c i hio (by omega))
    · rw [goE_stop z] at hx ⊢
      obtain ⟨i, hi, e⟩ := List.mem_iff_getElem.mp hx
      rw [← e]
      exact c i hi (by omega)
/-- the halves of the list, one behind another -/
def ordE (f : Nat → Nat) (N : Nat) (hs : List Nat) : List Nat := hs.foldl (fun o h => goE f N 0 (addE o h)) []
theorem ordE_snoc (hs : List Nat) (h : Nat) : ordE f N (hs ++ [h]) = goE f N 0 (addE (ordE f N hs) h) := by
  unfold ordE
  rw [List.foldl_append]
  rfl
/-- closed orders -/
structure Oc (f : Nat → Nat) (N : Nat) (o : List Nat) : Prop where
  od : Od N o
  cl : ∀ x ∈ o, f x ∈ o
theorem oc_nil : Oc f N [] := ⟨od_nil N, fun _ h => (nomatch h)⟩
theorem oc_next (P : ∀ x, x < N → f x < N) (hN : N % 2 = 0) {o : List Nat} (c : Oc f N o) {h : Nat} (hh : h < N) : Oc f N (goE f N 0 (addE o h)) :=
  ⟨goE_od P hN N 0 _ (c.od.add hN hh), goE_closed P hN N 0 _ (c.od.add hN hh) (Nat.le_refl _) (fun i _ hi => absurd hi (Nat.not_lt_zero i))⟩
theorem ordE_ocF (P : ∀ x, x < N → f x < N) (hN : N % 2 = 0) : ∀ (hs o : List Nat), (∀ h ∈ hs, h < N) → Oc f N o → Oc f N (hs.foldl (fun o h => goE f N 0 (addE o h)) o)
  | [], _, _, c => c
  | h :: hs, o, hl, c => ordE_ocF P hN hs _ (fun x hx => hl x (List.mem_cons_of_mem _ hx)) (oc_next P hN c (hl h (List.mem_cons_self ..)))
theorem ordE_oc (P : ∀ x, x < N → f x < N) (hN : N % 2 = 0) (hs : List Nat) (hl : ∀ h ∈ hs, h < N) : Oc f N (ordE f N hs) := ordE_ocF P hN hs [] hl oc_nil
theorem ordE_subF : ∀ (hs o : List Nat), ∀ x ∈ o, x ∈ hs.foldl (fun o h => goE f N 0 (addE o h)) o
  | [], _, _, h => h
  | a :: hs, o, x, h => ordE_subF hs _ x (goE_sub _ _ _ x (addE_sub o a x h))
theorem ordE_memF : ∀ (hs o : List Nat), ∀ x ∈ hs, x ∈ hs.foldl (fun o h => goE f N 0 (addE o h)) o
  | a :: hs, o, x, h => by
    rcases List.mem_cons.mp h with e | h
    · subst e
      exact ordE_subF hs _ x (goE_sub _ _ _ x (addE_mem o x))
    · exact ordE_memF hs _ x h
theorem ordE_mem (hs : List Nat) {x : Nat} (h : x ∈ hs) : x ∈ ordE f N hs := ordE_memF hs [] x h
/-! ### the new mesh -/
theorem idx_at {o : List Nat} {x : Nat} (h : x ∈ o) : o[o.idxOf x]? = some x := by
  have h2 := List.idxOf_lt_length_iff.mpr h
  rw [List.getElem?_eq_getElem h2, List.getElem_idxOf h2]
theorem idx_inj {o : List Nat} {x y : Nat} (hx : x ∈ o) (hy : y ∈ o) (e : o.idxOf x = o.idxOf y) : x = y := by
  have h1 := idx_at hx
  rw [e, idx_at hy] at h1
  exact (Option.some.inj h1).symm
theorem idx_of {o : List Nat} (nd : o.Nodup) {i x : Nat} (h : o[i]? = some x) : o.idxOf x = i := by
  obtain ⟨hi, e⟩ := List.getElem?_eq_some_iff.mp h
  subst e
  exact nd.idxOf_getElem i hi
/-- the new next links, the new numbers -/
def newN (f : Nat → Nat) (o : List Nat) : List Nat := o.map fun h => o.idxOf (f h)
def newH (o hs : List Nat) : List Nat := hs.map fun h => o.idxOf h
theorem newN_len (f : Nat → Nat) (o : List Nat) : (newN f o).length = o.length := List.length_map ..
theorem newN_eq {o : List Nat} : newN f o = (List.range o.length).map (fun i => o.idxOf (f (fn o i))) := by
  refine List.ext_getElem? fun i => ?_
  unfold newN
  by_cases h : i < o.length
  · rw [List.getElem?_map, List.getElem?_map, List.getElem?_range h, fn_get h]
    rfl
  · rw [List.getElem?_eq_none (by rw [List.length_map]; omega), List.getElem?_eq_none (by rw [List.length_map, List.length_range]; omega)]
theorem isP_newN (P : Pf f N) {o : List Nat} (c : Oc f N o) : IsP (newN f o) := by
  rw [newN_eq]
  refine isP_of ⟨fun i hi => List.idxOf_lt_length_iff.mpr (c.cl _ (fn_mem hi)), fun i j hi hj e => ?_⟩
  have h1 := idx_inj (c.cl _ (fn_mem hi)) (c.cl _ (fn_mem hj)) e
  have h2 := P.inj _ _ (c.od.lt _ (fn_mem hi)) (c.od.lt _ (fn_mem hj)) h1
  have h3 := idx_of c.od.nd (fn_get hi)
  have h4 := idx_of c.od.nd (fn_get hj)
  rw [← h3, ← h4, h2]
theorem fn_newN {o : List Nat} (c : Oc f N o) {x : Nat} (h : x ∈ o) : fn (newN f o) (o.idxOf x) = o.idxOf (f x) := by
  refine fn_at ?_
  unfold newN
  rw [List.getElem?_map, idx_at h]
  rfl
/-! ### the new mesh again -/
theorem addE_map {O o : List Nat} (c : Oc f N O) (ho : ∀ x ∈ o, x ∈ O) {h : Nat} (hh : h ∈ O) : addE (o.map O.idxOf) (O.idxOf h) = (addE o h).map O.idxOf := by
  by_cases q : h ∈ o
  · rw [addE_in q, addE_in (List.mem_map.mpr ⟨h, q, rfl⟩)]
  · rw [addE_out q, addE_out (fun z => by
      obtain ⟨y, hy, e⟩ := List.mem_map.mp z
      rw [← idx_inj (ho y hy) hh e] at q
      exact q hy), List.map_append, ← c.od.ix h hh]
    rfl
theorem addE_in_O {O o : List Nat} (c : Oc f N O) (ho : ∀ x ∈ o, x ∈ O) {h : Nat} (hh : h ∈ O) : ∀ x ∈ addE o h, x ∈ O := fun x hx => by
  rcases addE_from hx with q | q | q
  · exact ho x q
  · rw [q]
    exact hh
  · rw [q]
    exact c.od.tm h hh
theorem goE_map {O : List Nat} (c : Oc f N O) : ∀ n k (o : List Nat), (∀ x ∈ o, x ∈ O) → goE (fn (newN f O)) n k (o.map O.idxOf) = (goE f n k o).map O.idxOf ∧ ∀ x ∈ goE f n k o, x ∈ O
  | 0, _, _, ho => ⟨rfl, ho⟩
  | n + 1, k, o, ho => by
    by_cases q : k < o.length
    · have hk : o[k] ∈ O := ho _ (List.getElem_mem q)
      rw [goE_step q, goE_step (by rw [List.length_map]; exact q), List.getElem_map, fn_newN c hk, addE_map c ho (c.cl _ hk)]
      exact goE_map c n (k + 1) _ (addE_in_O c ho (c.cl _ hk))
    · rw [goE_stop q, goE_stop (by rw [List.length_map]; exact q)]
      exact ⟨rfl, ho⟩
theorem foldE_map {O : List Nat} (c : Oc f N O) (m : Nat) : ∀ (hs o : List Nat), (∀ x ∈ o, x ∈ O) → (∀ x ∈ hs, x ∈ O) → (hs.map O.idxOf).foldl (fun o h => goE (fn (newN f O)) m 0 (addE o h)) (o.map O.idxOf) = (hs.foldl (fun o h => goE f m 0 (addE o h)) o).map O.idxOf
  | [], _, _, _ => rfl
  | h :: hs, o, ho, hh => by
    have h1 := hh h (List.mem_cons_self ..)
    obtain ⟨e1, e2⟩ := goE_map c m 0 (addE o h) (addE_in_O c ho h1)
    show (hs.map O.idxOf).foldl _ (goE _ m 0 (addE (o.map O.idxOf) (O.idxOf h))) = _
    rw [addE_map c ho h1, e1]
    exact foldE_map c m hs _ e2 fun x hx => hh x (List.mem_cons_of_mem _ hx)
theorem map_idx {O : List Nat} (nd : O.Nodup) : O.map O.idxOf = List.range O.length := by
  refine List.ext_getElem? fun i => ?_
  by_cases h : i < O.length
  · rw [List.getElem?_map, fn_get h, List.getElem?_range h]
    show some (O.idxOf (fn O i)) = _
    rw [idx_of nd (fn_get h)]
  · rw [List.getElem?_eq_none (by rw [List.length_map]; omega), List.getElem?_eq_none (by rw [List.length_range]; omega)]
/-- fuel enough is enough -/
theorem foldE_fuel {f : Nat → Nat} {M : Nat} (P : ∀ x, x < M → f x < M) (hM : M % 2 = 0) (m : Nat) : ∀ (hs o : List Nat), (∀ h ∈ hs, h < M) → Oc f M o → hs.foldl (fun o h => goE f (M + m) 0 (addE o h)) o = hs.foldl (fun o h => goE f M 0 (addE o h)) o
  | [], _, _, _ => rfl
  | h :: hs, o, hl, c => by
    show hs.foldl _ (goE f (M + m) 0 (addE o h)) = hs.foldl _ (goE f M 0 (addE o h))
    rw [goE_more P hM (c.od.add hM (hl h (List.mem_cons_self ..))) (by omega) m]
    exact foldE_fuel P hM m hs _ (fun x hx => hl x (List.mem_cons_of_mem _ hx)) (oc_next P hM c (hl h (List.mem_cons_self ..)))
/-- the new mesh and the new numbers give themselves -/
theorem ordE_again (P : Pf f N) (hN : N % 2 = 0) {hs : List Nat} (hl : ∀ h ∈ hs, h < N) :
    ordE (fn (newN f (ordE f N hs))) (newN f (ordE f N hs)).length (newH (ordE f N hs) hs) = List.range (ordE f N hs).length := by
  have c := ordE_oc (fun x hx => P.lt x hx) hN hs hl
  have hO : ∀ x ∈ hs, x ∈ ordE f N hs := fun x hx => ordE_mem hs hx
  have hI := isP_newN P c
  have PI := pf_fn hI
  have le := c.od.le
  have hlen := newN_len f (ordE f N hs)
  have q1 := foldE_map c N hs [] (fun x hx => (nomatch hx)) hO
  have hl2 : ∀ h ∈ newH (ordE f N hs) hs, h < (newN f (ordE f N hs)).length := fun h hh => by
    obtain ⟨x, hx, rfl⟩ := List.mem_map.mp hh
    rw [hlen]
    exact List.idxOf_lt_length_iff.mpr (hO x hx)
  have q2 := foldE_fuel (f := fn (newN f (ordE f N hs))) (M := (newN f (ordE f N hs)).length) (fun x hx => PI.lt x hx) (by rw [hlen]; exact c.od.ev) (N - (newN f (ordE f N hs)).length) (newH (ordE f N hs) hs) [] hl2 oc_nil
  rw [show (newN f (ordE f N hs)).length + (N - (newN f (ordE f N hs)).length) = N by omega] at q2
  unfold ordE at q2 ⊢
  rw [← q2]
  unfold ordE at q1
  have e : newH (hs.foldl (fun o h => goE f N 0 (addE o h)) []) hs = hs.map (hs.foldl (fun o h => goE f N 0 (addE o h)) []).idxOf := rfl
  rw [e]
  refine q1.trans ?_
  exact map_idx c.od.nd
theorem range_idx {n x : Nat} (h : x < n) : (List.range n).idxOf x = x := idx_of List.nodup_range (List.getElem?_range h)
theorem newN_range {ms : List Nat} (h : IsP ms) : newN (fn ms) (List.range ms.length) = ms := by
  unfold newN
  refine List.ext_getElem? fun i => ?_
  by_cases q : i < ms.length
  · rw [List.getElem?_map, List.getElem?_range q, fn_get q]
    show some ((List.range ms.length).idxOf (fn ms i)) = _
    rw [range_idx ((pf_fn h).lt i q)]
  · rw [List.getElem?_eq_none (by rw [List.length_map, List.length_range]; omega), List.getElem?_eq_none (by omega)]
theorem newH_range {hs : List Nat} {n : Nat} (h : ∀ x ∈ hs, x < n) : newH (List.range n) hs = hs := by
  unfold newH
  have : hs.map (fun h => (List.range n).idxOf h) = hs.map id := List.map_congr_left fun x hx => range_idx (h x hx)
  rw [this, List.map_id]
end
end Hm
namespace Hm
open PySem PySem.Spec PyProof.Rows L2 Evl
theorem hu1 {k : Nat} {A : Around} (r : Room k A) : A.units + 1 < cLine := by
  have := r.units
  omega
/-! ### dicts of numbers -/
section
variable {K : PySem.W.Frag} {σ : L2.St} {H : Hp} {ty td tv te ta tb : TE} {D : Ends} {tz tu : TS}
theorem ev_dnin {d : Addr} {kvs : List (Key × V)} {i : Int} (hy : Ev ty σ H (.int i)) (hd : Ev td σ H (.ref d)) (h : H d = some (.dK kvs)) : Ev (tDNotIn ty td) σ H (.bl (!(valV kvs (.inl i)).isSome)) := fun H1 e Q q =>
  hy H1 e _ fun H2 e2 => hd H2 (e.trans e2) _ fun H3 e3 => ⟨d, _, rfl, DGet.k (k := .inl i) (((e.trans e2).trans e3) _ _ h), q H3 (e2.trans e3)⟩
theorem ev_din {d : Addr} {kvs : List (Key × V)} {i : Int} (hy : Ev ty σ H (.int i)) (hd : Ev td σ H (.ref d)) (h : H d = some (.dK kvs)) : Ev (tDIn ty td) σ H (.bl (valV kvs (.inl i)).isSome) := fun H1 e Q q =>
  hy H1 e _ fun H2 e2 => hd H2 (e.trans e2) _ fun H3 e3 => ⟨d, _, rfl, DGet.k (k := .inl i) (((e.trans e2).trans e3) _ _ h), q H3 (e2.trans e3)⟩
theorem ev_dget {d : Addr} {kvs : List (Key × V)} {i : Int} {v : V} (hd : Ev td σ H (.ref d)) (hy : Ev ty σ H (.int i)) (h : H d = some (.dK kvs)) (hv : valV kvs (.inl i) = some v) : Ev (tDGet td ty) σ H v := fun H1 e Q q =>
  hd H1 e _ fun H2 e2 => hy H2 (e.trans e2) _ fun H3 e3 => ⟨d, v, rfl, by
    have g := DGet.k (k := .inl i) (((e.trans e2).trans e3) _ _ h)
    rw [hv] at g
    exact g, q H3 (e2.trans e3)⟩
theorem q_dput {d : Addr} {kvs : List (Key × V)} {i : Int} {v : V} (hv : Ev tv σ H v) (hd : Ev td σ H (.ref d)) (hy : Ev ty σ H (.int i)) (h : H d = some (.dK kvs)) (hl : kvs.length < 100000) (k : ∀ H1, Ex H H1 → tz D σ (upd H1 d (.dK (putK kvs (.inl i) v)))) : tSeq (sDPut td ty tv) tz D σ H :=
  hv H (Ex.refl H) _ fun H1 e1 => hd H1 e1 _ fun H2 e2 => hy H2 (e1.trans e2) _ fun H3 e3 => ⟨d, _, rfl, DPut.k (k := .inl i) (((e1.trans e2).trans e3) _ _ h) (sz_lt hl), k H3 ((e1.trans e2).trans e3)⟩
theorem q_asgD {i : Nat} (k : ∀ p, H p = none → tz D (σ.set i (some (.ref p))) (upd H p (.dK []))) : tSeq (tAsg tDNewK (gName i)) tz D σ H := fun p hp => k p hp
theorem s_forNTn {xs : List V} {tl : TE} {j : Nat} (h : EvU tl σ H xs) (Pv : Addr → Nat → L2.St → Hp → Prop) (h0 : ∀ p H1, H p = none → Ex H H1 → H1 p = some (.tup xs) → Pv p 0 σ H1) (hl : ∀ p i σ' H', i ≤ xs.length → Pv p i σ' H' → SqT K H' p xs)
    (hs : ∀ p i x σ' H', xs[i]? = some x → Pv p i σ' H' → tu { D with nx := Pv p (i + 1), ct := Pv p (i + 1), bk := D.nx } (σ'.set j (some x)) H') (hd : ∀ p σ' H', Pv p xs.length σ' H' → D.nx σ' H') : tFor (iTup K tl) (gName j) tu D σ H :=
  h H (Ex.refl H) _ fun p H1 hp e h1 => ⟨p, rfl, ⟨xs, st_of h1⟩, for_tup (Pv p) (h0 p H1 hp e h1) (hl p) (hs p) (hd p)⟩
theorem s_retTup2 (h : ta σ H fun v H1 => tb σ H1 fun w H2 => 2 ≤ sizeLine ∧ ∀ T, H2 T = none → D.rt (.ref T) (upd H2 T (.tup [v, w]))) : tRet (tTup (tCons ta (tCons tb tNil))) D σ H := h
end
/-- all but two objects is kept -/
def Ex2 (o d : Addr) (H H' : Hp) : Prop := ∀ a u, a ≠ o → a ≠ d → H a = some u → H' a = some u
theorem Ex2.of {o d : Addr} {H H' : Hp} (e : Ex H H') : Ex2 o d H H' := fun a u _ _ h => e a u h
theorem Ex2.trans {o d : Addr} {H H1 H2 : Hp} (a : Ex2 o d H H1) (b : Ex2 o d H1 H2) : Ex2 o d H H2 := fun x u n m h => b x u n m (a x u n m h)
theorem Ex2.upd1 {o d : Addr} {H H' : Hp} {u : HO} (a : Ex2 o d H H') : Ex2 o d H (L2.upd H' o u) := fun x v n m h => by
  rw [upd_ne n]
  exact a x v n m h
theorem Ex2.upd2 {o d : Addr} {H H' : Hp} {u : HO} (a : Ex2 o d H H') : Ex2 o d H (L2.upd H' d u) := fun x v n m h => by
  rw [upd_ne m]
  exact a x v n m h
theorem Ex2.ex {o d : Addr} {H0 H H' : Hp} (a : Ex2 o d H H') (e : Ex H0 H) (h1 : H0 o = none) (h2 : H0 d = none) : Ex H0 H' := fun x u h => a x u (ne_of_none h h1) (ne_of_none h h2) (e x u h)
/-- a dict that numbers the halves of an order -/
def DkE (kvs : List (Key × V)) (o : List Nat) : Prop := kvs.length ≤ o.length ∧ ∀ h : Nat, valV kvs (.inl (h : Int)) = if h ∈ o then some (vi (o.idxOf h)) else none
theorem dkE_nil : DkE [] [] := ⟨Nat.le_refl _, fun h => by rw [if_neg (by simp)]; rfl⟩
theorem dkE_some {kvs : List (Key × V)} {o : List Nat} (D : DkE kvs o) (h : Nat) : (valV kvs (.inl (h : Int))).isSome = decide (h ∈ o) := by
  rw [D.2]
  by_cases q : h ∈ o
  · rw [if_pos q, decide_eq_true q]
    rfl
  · rw [if_neg q, decide_eq_false q]
    rfl
theorem dkE_snoc {kvs : List (Key × V)} {o : List Nat} {h : Nat} (D : DkE kvs o) (q : h ∉ o) : DkE (putK kvs (.inl (h : Int)) (vi o.length)) (o ++ [h]) := by
  refine ⟨Nat.le_trans (length_putK _ _ _) (by rw [List.length_append]; exact Nat.succ_le_succ D.1), fun x => ?_⟩
  rw [valV_put, D.2]
  by_cases e : x = h
  · subst e
    rw [if_pos rfl, if_pos (by simp), List.idxOf_append, if_neg q]
    simp
  · have ne : ¬ ((Sum.inl (x : Int) : Key) = Sum.inl (h : Int)) := fun z => e (by have := Sum.inl.inj z; omega)
    rw [if_neg ne]
    by_cases m : x ∈ o
    · rw [if_pos m, if_pos (List.mem_append_left _ m), List.idxOf_append, if_pos m]
    · rw [if_neg m, if_neg (by simp [m, e])]
def sp_addedge (K : PySem.W.Frag) : Sp := fun vs H Q _ => ∃ (x o d : Addr) (h : Nat) (ns ord : List Nat) (kvs : List (Key × V)), vs = [.ref x, vi h, .ref o, .ref d] ∧ MeshAt K H x ns ∧ H o = some (.lst (L ord)) ∧ H d = some (.dK kvs) ∧ DkE kvs ord ∧ (h ∉ ord → tw h ∉ ord) ∧ ord.length ≤ 1000 ∧
  ∀ H' kvs', H' o = some (.lst (L (addE ord h))) → H' d = some (.dK kvs') → DkE kvs' (addE ord h) → Ex2 o d H H' → Q .non H'
abbrev nm_addedge : List Str := ["mesh", "half", "order", "numbers", "member"]
abbrev pr_addedge : List Str := ["mesh", "half", "order", "numbers"]
def t_addedge (K : PySem.W.Frag) : TS :=
  (tIfS (tB (tDNotIn (tVar 1) (tVar 3))) (tFor (iTup K (tTup (tCons (tVar 1) (tCons (tMeth (He.ga K "Mesh") "twin" (sp_Meshtwin K) [] E0 (tVar 0) (tCons (tVar 1) tNil)) tNil)))) (gName 4) (tSeq (sDPut (tVar 3) (tVar 4) (tCB (cLen K) (tCons (tVar 2) tNil)))
      (tDrop (tBM K "list" rAppend (tVar 2) (tCons (tVar 4) tNil))))) tNext)
abbrev Wt_addedge (K : PySem.W.Frag) (vs : List V) (H : Hp) (Q : VK) : Prop := t_addedge K { nx := fun _ H' => Q .non H', rt := Q } (start nm_addedge vs) H
theorem ln_addedge {K : PySem.W.Frag} (vs : List V) (H : Hp) (Q : VK) (E : XK) (h : sp_addedge K vs H Q E) : vs.length = pr_addedge.length := by
  obtain ⟨_, _, _, _, _, _, _, rfl, _⟩ := h
  rfl
theorem rd_addedge {K : PySem.W.Frag} (F : KF K) (vs : List V) (H : Hp) (Q : VK) (E : XK) (h : sp_addedge K vs H Q E) : Wt_addedge K vs H Q := by
  obtain ⟨x, o, d, h, ns, ord, kvs, rfl, hm, ho, hd, hD, ht, hz, k⟩ := h
  show t_addedge K _ [some (.ref x), some (vi h), some (.ref o), some (.ref d), none] H
  have hod : o ≠ d := fun q => by
    rw [q, hd] at ho
    cases ho
  refine s_when (et_B (ev_dnin (ev_var rfl) (ev_var rfl) hd)) (fun hb H1 e1 => ?_) (fun hb H1 e1 => ?_)
  · have q : h ∉ ord := fun z => by
      rw [dkE_some hD, decide_eq_true z] at hb
      cases hb
    have qt := ht q
    have q2 : tw h ∉ ord ++ [h] := fun z => by
      rcases List.mem_append.mp z with z | z
      · exact qt z
      · exact tw_ne h (List.mem_singleton.mp z)
    have turn : ∀ (p : Addr) (y : Nat) (cur : List Nat) (σ4 : Option V) (H' : Hp) (kvs' : List (Key × V)) (N : L2.St → Hp → Prop) (B C : L2.St → Hp → Prop) (R : VK), H' o = some (.lst (L cur)) → H' d = some (.dK kvs') → DkE kvs' cur → y ∉ cur → cur.length ≤ 1001 → p ≠ o → p ≠ d →
        (∀ H2 kvs2, H2 o = some (.lst (L (cur ++ [y]))) → H2 d = some (.dK kvs2) → DkE kvs2 (cur ++ [y]) → Ex2 o d H' H2 → N [some (.ref x), some (vi h), some (.ref o), some (.ref d), some (vi y)] H2) →
        (tSeq (sDPut (tVar 3) (tVar 4) (tCB (cLen K) (tCons (tVar 2) tNil))) (tDrop (tBM K "list" rAppend (tVar 2) (tCons (tVar 4) tNil)))) { nx := N, rt := R, bk := B, ct := C } [some (.ref x), some (vi h), some (.ref o), some (.ref d), some (vi y)] H' := by
      intro p y cur σ4 H' kvs' N B C R g1 g2 g3 g4 g5 _ _ kk
      refine q_dput (v := vi cur.length) (ev_is (ev_cb (ea_1 (ev_var rfl)) (rc_len (sq_of g1))) (by rw [L_len])) (ev_var rfl) (ev_var rfl) g2 (by have := g3.1; omega) (fun H2 e2 => ?_)
      have g1' : (upd H2 d (.dK (putK kvs' (.inl (y : Int)) (vi cur.length)))) o = some (.lst (L cur)) := by
        rw [upd_ne hod]
        exact e2 _ _ g1
      refine s_app g1' (ev_var rfl) (ev_var rfl) (by rw [L_len]; omega) (fun H3 e3 => ?_)
      refine kk _ (putK kvs' (.inl (y : Int)) (vi cur.length)) (by rw [upd_same, L_app]; rfl) (by rw [upd_ne hod.symm]; exact e3 _ _ upd_same) (dkE_snoc g3 g4) ((((Ex2.of e2).upd2).trans (Ex2.of e3)).upd1)
    refine s_forNTn (xs := [vi h, vi (tw h)]) (eu_tup (ea_2 (ev_var rfl) (ev_mm (hm.ex e1) (ev_var rfl) (by decide +kernel) (ea_1 (ev_var rfl)) spv_Meshtwin)) (by show 2 ≤ 100000; decide))
      (fun p i σ' H' => ∃ (v4 : Option V) (cur : List Nat) (kvs' : List (Key × V)), σ' = [some (.ref x), some (vi h), some (.ref o), some (.ref d), v4] ∧ H' p = some (.tup [vi h, vi (tw h)]) ∧ p ≠ o ∧ p ≠ d ∧ cur = ord ++ [h, tw h].take i ∧ H' o = some (.lst (L cur)) ∧ H' d = some (.dK kvs') ∧ DkE kvs' cur ∧ Ex2 o d H H') ?_ ?_ ?_ ?_
    · intro p H2 hp e2 h2
      have o2 := e2 _ _ (e1 _ _ ho)
      have d2 := e2 _ _ (e1 _ _ hd)
      exact ⟨_, ord, kvs, rfl, h2, (ne_of_none (e1 _ _ ho) hp).symm, (ne_of_none (e1 _ _ hd) hp).symm, by simp, o2, d2, hD, Ex2.of (e1.trans e2)⟩
    · rintro p i σ' H' _ ⟨_, _, _, _, h2, _⟩
      exact st_of h2
    · rintro p i y σ' H' hy ⟨v4, cur, kvs', rfl, h2, n1, n2, rfl, a1, a2, a3, a4⟩
      match i, hy with
      | 0, hy =>
        obtain rfl : vi h = y := Option.some.inj hy
        have e0 : ord ++ [h, tw h].take 0 = ord := by simp
        rw [e0] at a1 a3
        refine turn p h ord v4 H' kvs' _ _ _ _ a1 a2 a3 q (by omega) n1 n2 (fun H3 kvs3 b1 b2 b3 b4 => ?_)
        exact ⟨_, _, kvs3, rfl, b4 _ _ n1 n2 h2, n1, n2, rfl, b1, b2, b3, a4.trans b4⟩
      | 1, hy =>
        obtain rfl : vi (tw h) = y := Option.some.inj hy
        have e1 : ord ++ [h, tw h].take 1 = ord ++ [h] := by simp
        have e2 : ord ++ [h, tw h].take (1 + 1) = (ord ++ [h]) ++ [tw h] := by simp
        rw [e1] at a1 a3
        refine turn p (tw h) (ord ++ [h]) v4 H' kvs' _ _ _ _ a1 a2 a3 q2 (by rw [List.length_append]; show ord.length + 1 ≤ 1001; omega) n1 n2 (fun H3 kvs3 b1 b2 b3 b4 => ?_)
        exact ⟨_, _, kvs3, rfl, b4 _ _ n1 n2 h2, n1, n2, rfl, by rw [e2]; exact b1, b2, by rw [e2]; exact b3, a4.trans b4⟩
      | n + 2, hy => cases hy
    · rintro p σ' H' ⟨v4, cur, kvs', rfl, h2, n1, n2, rfl, a1, a2, a3, a4⟩
      have e : ord ++ [h, tw h].take [vi h, vi (tw h)].length = addE ord h := by
        rw [addE_out q]
        rfl
      rw [e] at a1 a3
      exact k H' kvs' a1 a2 a3 a4
  · have q : h ∈ ord := Classical.byContradiction fun z => by
      rw [dkE_some hD, decide_eq_false z] at hb
      cases hb
    have := k H1 kvs
    rw [addE_in q] at this
    exact this (e1 _ _ ho) (e1 _ _ hd) hD (Ex2.of e1)
end Hm
namespace Hm
open PySem PySem.Spec PyProof.Rows L2 Evl
/-! ### d.update(d2), l.pop(), min of three -/
def rUpd : V → List V → Hp → VK → Prop := fun x xs H Q => ∃ (a b : Addr) (kvs more : List (Key × V)), x = .ref a ∧ xs = [.ref b] ∧ a ≠ b ∧ H a = some (.dK kvs) ∧ H b = some (.dK more) ∧ kvs.length + more.length ≤ 100000 ∧ Q .non (upd H a (.dK (mergeK kvs more)))
theorem mt_update {X : Cx} : MtR X "dict.update" rUpd := by
  intro pins s σ H x xs v us Q I rx rxs h
  obtain ⟨a, b, kvs, more, rfl, rfl, hab, ha, hb, hz, q⟩ := h
  cases rx
  cases rxs with
  | cons rb rr =>
    cases rr
    cases rb
    obtain ⟨z1, hd1, vs1, rel1, dd1⟩ := dk_of I.hok ha
    obtain ⟨z2, hd2, vs2, rel2, dd2⟩ := dk_of I.hok hb
    have hsz : vs1.length + vs2.length ≤ sizeLine := by
      rw [← rel1.length, ← rel2.length]
      exact sz_of hz
    refine call_meetsIn PySem.F.slot_dict_update dd1.typeIs PySem.F.entry_dict_update (PySem.F.args_dict_update_2 _ _) (meets_dict_update (mixKind X.prog X.w) a b hab hd2) ⟨vs1, vs2, dd1, dd2, hsz, fun h' dd1' dd2' hs => ?_⟩
    have he : ∃ q, h'.get? a = some q := let ⟨q, _, _, hq, _⟩ := dd1'; ⟨q, hq⟩
    have hl : (mergeK kvs more).length ≤ sizeLine := Nat.le_trans (length_mergeK more kvs) (sz_of hz)
    show EP X pins σ Q Value.none _
    exact ⟨.non, _, d_write (t' := s.toks) I (by rw [ha]; exact True.intro) hs he (dk_new hl hd1 (rel2.merge rel1) dd1'), rfl, q⟩
end Hm
namespace Hm
open PySem PySem.Spec PyProof.Rows L2 Evl
/-! ### an empty list is false; pop -/
def tTruL (K : PySem.W.Frag) (te : TE) : TT := fun σ H Q => te σ H fun x H' => ∃ k, TruV K x H' k ∧ Q k H'
theorem pt_truL {X : Cx} {e : Expr} {te : TE} (he : PE X e te) (hp : ∀ whole, isTrue e X.env whole = (do let v ← whole; standAt e.pos; holding [v] (truthy v)) := by intro _; rfl) : PT X e (tTruL X.K te) := pt_truth he hp
theorem et_truL {K : PySem.W.Frag} {σ : L2.St} {H : Hp} {te : TE} {p : Addr} {xs : List V} (h : Ev te σ H (.ref p)) (hS : SqL K H p xs) : EvT (tTruL K te) σ H (!xs.isEmpty) := fun H1 e Q q =>
  h H1 e _ fun H2 e2 => ⟨_, .inl ⟨xs, ex_l (e.trans e2) hS, rfl⟩, q H2 e2⟩
theorem q_pop {K : PySem.W.Frag} {σ : L2.St} {H : Hp} {te : TE} {tz : TS} {D : Ends} {i : Nat} {l : Addr} {xs : List V} {y : V} (h : Ev te σ H (.ref l)) (hl : H l = some (.lst (xs ++ [y]))) (k : ∀ H1, Ex H H1 → tz D (σ.set i (some y)) (upd H1 l (.lst xs))) :
    tSeq (tAsg (tBM0 K "list" rPop te) (gName i)) tz D σ H := h H (Ex.refl H) _ fun H1 e1 =>
  ⟨Or.inl ⟨rfl, _, sq_of (e1 _ _ hl)⟩, l, _, y, rfl, rfl, e1 _ _ hl, by simp, by rw [List.dropLast_concat]; exact k H1 e1⟩
abbrev rIsNon : R2 := fun x y H Q => y = .non ∧ Q (.bl (decide (x = .non))) H
abbrev rNotNon : R2 := fun x y H Q => y = .non ∧ Q (.bl (!decide (x = .non))) H
abbrev cTup (K : PySem.W.Frag) : CR1 := fun xs H Q => ∃ p ys, xs = [.ref p] ∧ ((SqL K H p ys ∧ ∀ l, H l = none → Q (.ref l) (upd H l (.tup ys))) ∨ (SqT K H p ys ∧ Q (.ref p) H))
end Hm
namespace Hm
/-! ### classes of numbers below N, and how many there are -/
structure Eqv (N : Nat) (R : Nat → Nat → Prop) : Prop where
  refl : ∀ x, x < N → R x x
  symm : ∀ x y, x < N → y < N → R x y → R y x
  trans : ∀ x y z, x < N → y < N → z < N → R x y → R y z → R x z
def minR (N : Nat) (R : Nat → Nat → Prop) (x : Nat) : Prop := ∀ y, y < N → R x y → x ≤ y
noncomputable def minB (N : Nat) (R : Nat → Nat → Prop) (x : Nat) : Bool := @decide (minR N R x) (Classical.propDecidable _)
theorem minB_iff {N : Nat} {R : Nat → Nat → Prop} {x : Nat} : minB N R x = true ↔ minR N R x := by
  unfold minB
  exact @decide_eq_true_iff _ (Classical.propDecidable _)
noncomputable def cnt (N : Nat) (R : Nat → Nat → Prop) : Nat := ((List.range N).filter (minB N R)).length
theorem cnt_congr {N : Nat} {R R' : Nat → Nat → Prop} (h : ∀ x y, x < N → y < N → (R x y ↔ R' x y)) : cnt N R = cnt N R' := by
  unfold cnt
  rw [List.filter_congr (q := minB N R') (fun x hx => ?_)]
  have hx := List.mem_range.mp hx
  rw [Bool.eq_iff_iff, minB_iff, minB_iff]
  exact ⟨fun q y hy r => q y hy ((h x y hx hy).mpr r), fun q y hy r => q y hy ((h x y hx hy).mp r)⟩
theorem filter_one {p q : Nat → Bool} {M : Nat} (hp : p M = true) (hq : q M = false) (h : ∀ x, x ≠ M → p x = q x) : ∀ n, ((List.range n).filter p).length = ((List.range n).filter q).length + (if M < n then 1 else 0)
  | 0 => rfl
  | n + 1 => by
    have ih := filter_one hp hq h n
    rw [List.range_succ, List.filter_append, List.filter_append, List.length_append, List.length_append, ih]
    by_cases e : n = M
    · subst e
      rw [if_neg (Nat.lt_irrefl _), if_pos (Nat.lt_succ_self _)]
      simp [List.filter_cons, hp, hq]
    · have : (if M < n + 1 then 1 else 0) = (if M < n then 1 else 0) := by
        by_cases c : M < n
        · rw [if_pos c, if_pos (by omega)]
        · rw [if_neg c, if_neg (by omega)]
      have e2 : (List.filter p [n]).length = (List.filter q [n]).length := by simp only [List.filter_cons, h n e, List.filter_nil]
      omega
theorem least {P : Nat → Prop} (h : ∃ n, P n) : ∃ m, P m ∧ ∀ k, P k → m ≤ k := by
  obtain ⟨n, hn⟩ := h
  induction n using Nat.strongRecOn with
  | ind n ih =>
    by_cases c : ∃ k, k < n ∧ P k
    · obtain ⟨k, hk, hp⟩ := c
      exact ih k hk hp
    · exact ⟨n, hn, fun k hk => Nat.le_of_not_lt fun q => c ⟨k, q, hk⟩⟩
def joinR (R : Nat → Nat → Prop) (a b x y : Nat) : Prop := R x y ∨ (R x a ∧ R b y) ∨ (R x b ∧ R a y)
section
variable {N : Nat} {R : Nat → Nat → Prop}
theorem joinR_comm {a b x y : Nat} : joinR R a b x y ↔ joinR R b a x y := ⟨fun h => h.elim .inl fun h => .inr h.symm, fun h => h.elim .inl fun h => .inr h.symm⟩
theorem joinR_eqv (E : Eqv N R) {a b : Nat} (ha : a < N) (hb : b < N) : Eqv N (joinR R a b) where
  refl := fun x hx => .inl (E.refl x hx)
  symm := fun x y hx hy h => by
    rcases h with h | ⟨h1, h2⟩ | ⟨h1, h2⟩
    · exact .inl (E.symm _ _ hx hy h)
    · exact .inr (.inr ⟨E.symm _ _ hb hy h2, E.symm _ _ hx ha h1⟩)
    · exact .inr (.inl ⟨E.symm _ _ ha hy h2, E.symm _ _ hx hb h1⟩)
  trans := fun x y z hx hy hz h g => by
    rcases h with h | ⟨h1, h2⟩ | ⟨h1, h2⟩ <;> rcases g with g | ⟨g1, g2⟩ | ⟨g1, g2⟩
    · exact .inl (E.trans _ _ _ hx hy hz h g)
    · exact .inr (.inl ⟨E.trans _ _ _ hx hy ha h g1, g2⟩)
    · exact .inr (.inr ⟨E.trans _ _ _ hx hy hb h g1, g2⟩)
    · exact .inr (.inl ⟨h1, E.trans _ _ _ hb hy hz h2 g⟩)
    · exact .inr (.inl ⟨h1, g2⟩)
    · exact .inl (E.trans _ _ _ hx ha hz h1 g2)
    · exact .inr (.inr ⟨h1, E.trans _ _ _ ha hy hz h2 g⟩)
    · exact .inl (E.trans _ _ _ hx hb hz h1 g2)
    · exact .inr (.inr ⟨h1, g2⟩)
theorem cnt_join_lt (E : Eqv N R) {a b ma mb : Nat} (ha : a < N) (hb : b < N) (n : ¬ R a b) (hma : ma < N) (hmb : mb < N) (ra : R a ma) (rb : R b mb) (la : ∀ y, y < N → R a y → ma ≤ y) (lb : ∀ y, y < N → R b y → mb ≤ y) (lt : ma < mb) :
    cnt N R = cnt N (joinR R a b) + 1 := by
  unfold cnt
  have q := filter_one (p := fun x => decide (x < N) && minB N R x) (q := fun x => decide (x < N) && minB N (joinR R a b) x) (M := mb) ?_ ?_ ?_ N
  · rw [if_pos hmb] at q
    have e : ∀ r : Nat → Bool, (List.range N).filter (fun x => decide (x < N) && r x) = (List.range N).filter r := fun r => List.filter_congr fun x hx => by
      rw [decide_eq_true (List.mem_range.mp hx), Bool.true_and]
    rw [e, e] at q
    exact q
  · rw [Bool.and_eq_true]
    refine ⟨decide_eq_true hmb, minB_iff.mpr fun y hy h => lb y hy (E.trans _ _ _ hb hmb hy rb h)⟩
  · rw [Bool.and_eq_false_iff]
    refine .inr (Bool.eq_false_iff.mpr fun h => ?_)
    have := minB_iff.mp h ma hma (.inr (.inr ⟨E.symm _ _ hb hmb rb, ra⟩))
    omega
  · intro x hne
    by_cases hx : x < N
    · rw [decide_eq_true hx, Bool.true_and, Bool.true_and, Bool.eq_iff_iff, minB_iff, minB_iff]
      constructor
      · intro h y hy g
        rcases g with g | ⟨g1, g2⟩ | ⟨g1, g2⟩
        · exact h y hy g
        · have e1 : x ≤ ma := h ma hma (E.trans _ _ _ hx ha hma g1 ra)
          have e2 := lb y hy g2
          omega
        · have e1 : x ≤ mb := h mb hmb (E.trans _ _ _ hx hb hmb g1 rb)
          have e2 := lb x hx (E.symm _ _ hx hb g1)
          omega
      · exact fun h y hy g => h y hy (.inl g)
    · rw [decide_eq_false hx, Bool.false_and, Bool.false_and]
theorem cnt_join (E : Eqv N R) {a b : Nat} (ha : a < N) (hb : b < N) (n : ¬ R a b) : cnt N R = cnt N (joinR R a b) + 1 := by
  obtain ⟨ma, ⟨hma, ra⟩, la⟩ := least (P := fun y => y < N ∧ R a y) ⟨a, ha, E.refl a ha⟩
  obtain ⟨mb, ⟨hmb, rb⟩, lb⟩ := least (P := fun y => y < N ∧ R b y) ⟨b, hb, E.refl b hb⟩
  have la' : ∀ y, y < N → R a y → ma ≤ y := fun y h1 h2 => la y ⟨h1, h2⟩
  have lb' : ∀ y, y < N → R b y → mb ≤ y := fun y h1 h2 => lb y ⟨h1, h2⟩
  rcases Nat.lt_trichotomy ma mb with h | h | h
  · exact cnt_join_lt E ha hb n hma hmb ra rb la' lb' h
  · subst h
    exact absurd (E.trans _ _ _ ha hma hb ra (E.symm _ _ hb hma rb)) n
  · rw [cnt_join_lt E hb ha (fun q => n (E.symm _ _ hb ha q)) hmb hma rb ra lb' la' h]
    congr 1
    exact cnt_congr fun x y _ _ => joinR_comm
theorem cnt_join_same (E : Eqv N R) {a b : Nat} (ha : a < N) (hb : b < N) (h : R a b) : cnt N (joinR R a b) = cnt N R := cnt_congr fun x y hx hy => ⟨fun g => by
    rcases g with g | ⟨g1, g2⟩ | ⟨g1, g2⟩
    · exact g
    · exact E.trans _ _ _ hx ha hy g1 (E.trans _ _ _ ha hb hy h g2)
    · exact E.trans _ _ _ hx hb hy g1 (E.trans _ _ _ hb ha hy (E.symm _ _ ha hb h) g2), .inl⟩
end
/-! ### rounds of a permutation, and of it behind an exchange -/
def Cy (f : Nat → Nat) (x y : Nat) : Prop := ∃ k, itr f k x = y
section
variable {f : Nat → Nat} {N : Nat}
theorem cy_eqv (P : Pf f N) : Eqv N (Cy f) where
  refl := fun x _ => ⟨0, rfl⟩
  symm := fun x y hx hy h => (mem_rnd P hy).mp (rnd_symm P hx ((mem_rnd P hx).mpr h))
  trans := fun x y z _ _ _ ⟨k, e⟩ ⟨j, g⟩ => ⟨j + k, by rw [itr_add, e, g]⟩
theorem cy_step (x : Nat) {y : Nat} (h : Cy f x y) : Cy f x (f y) := by
  obtain ⟨k, rfl⟩ := h
  exact ⟨k + 1, rfl⟩
theorem cycs_cnt (P : Pf f N) : (cycs f N N).length = cnt N (Cy f) := by
  unfold cycs cnt
  rw [List.length_map]
  rw [List.filter_congr (q := minB N (Cy f)) (fun x hx => ?_)]
  have hx := List.mem_range.mp hx
  rw [Bool.eq_iff_iff, minB_iff, isMin_iff]
  exact ⟨fun h y _ g => h y ((mem_rnd P hx).mpr g), fun h y hy => h y (rnd_lt P hx hy) ((mem_rnd P hx).mp hy)⟩
def sw (f : Nat → Nat) (a b : Nat) : Nat → Nat := fun x => if x = a then f b else if x = b then f a else f x
theorem sw_a (a b : Nat) : sw f a b a = f b := if_pos rfl
theorem sw_b {a b : Nat} (h : a ≠ b) : sw f a b b = f a := by
  unfold sw
  rw [if_neg (Ne.symm h), if_pos rfl]
theorem sw_o {a b x : Nat} (h1 : x ≠ a) (h2 : x ≠ b) : sw f a b x = f x := by
  unfold sw
  rw [if_neg h1, if_neg h2]
theorem sw_pf (P : Pf f N) {a b : Nat} (ha : a < N) (hb : b < N) (n : a ≠ b) : Pf (sw f a b) N := by
  have key : ∀ x, x < N → ∃ y, y < N ∧ sw f a b x = f y ∧ (y = if x = a then b else if x = b then a else x) := fun x hx => by
    unfold sw
    by_cases h1 : x = a
    · exact ⟨b, hb, by rw [if_pos h1], by rw [if_pos h1]⟩
    · by_cases h2 : x = b
      · exact ⟨a, ha, by rw [if_neg h1, if_pos h2], by rw [if_neg h1, if_pos h2]⟩
      · exact ⟨x, hx, by rw [if_neg h1, if_neg h2], by rw [if_neg h1, if_neg h2]⟩
  refine ⟨fun x hx => ?_, fun x y hx hy e => ?_⟩
  · obtain ⟨y, hy, e, _⟩ := key x hx
    rw [e]
    exact P.lt y hy
  · obtain ⟨u, hu, e1, q1⟩ := key x hx
    obtain ⟨v, hv, e2, q2⟩ := key y hy
    have := P.inj u v hu hv (by rw [← e1, ← e2, e])
    rw [q1, q2] at this
    split at this <;> split at this <;> (try split at this) <;> (try split at this) <;> omega
theorem sw_sub (P : Pf f N) {a b : Nat} (ha : a < N) (hb : b < N) (n : a ≠ b) {x y : Nat} (hx : x < N) (h : Cy (sw f a b) x y) : joinR (Cy f) a b x y := by
  obtain ⟨k, rfl⟩ := h
  have E := cy_eqv P
  induction k with
  | zero => exact .inl ⟨0, rfl⟩
  | succ k ih =>
    show joinR (Cy f) a b x (sw f a b (itr (sw f a b) k x))
    generalize itr (sw f a b) k x = z at *
    by_cases h1 : z = a
    · subst h1
      rw [sw_a]
      rcases ih with g | ⟨g1, g2⟩ | ⟨g1, g2⟩
      · exact .inr (.inl ⟨g, cy_step _ ⟨0, rfl⟩⟩)
      · exact .inr (.inl ⟨g1, cy_step _ ⟨0, rfl⟩⟩)
      · exact .inl (cy_step _ g1)
    · by_cases h2 : z = b
      · subst h2
        rw [sw_b n]
        rcases ih with g | ⟨g1, g2⟩ | ⟨g1, g2⟩
        · exact .inr (.inr ⟨g, cy_step _ ⟨0, rfl⟩⟩)
        · exact .inl (cy_step _ g1)
        · exact .inr (.inr ⟨g1, cy_step _ ⟨0, rfl⟩⟩)
      · rw [sw_o h1 h2]
        rcases ih with g | ⟨g1, g2⟩ | ⟨g1, g2⟩
        · exact .inl (cy_step _ g)
        · exact .inr (.inl ⟨g1, cy_step _ g2⟩)
        · exact .inr (.inr ⟨g1, cy_step _ g2⟩)
/-- along a way that meets neither -/
theorem sw_path {a b z z' : Nat} (hz : sw f a b z' = f z) : ∀ k, (∀ j, 0 < j → j < k → itr f j z ≠ a ∧ itr f j z ≠ b) → ∀ j, 0 < j → j ≤ k → itr (sw f a b) j z' = itr f j z
  | _, h, 1, _, _ => hz
  | k, h, j + 2, _, hj => by
    have ih := sw_path hz k h (j + 1) (by omega) (by omega)
    obtain ⟨h1, h2⟩ := h (j + 1) (by omega) (by omega)
    show sw f a b (itr (sw f a b) (j + 1) z') = f (itr f (j + 1) z)
    rw [ih, sw_o h1 h2]
/-- the round of b hangs behind a -/
theorem sw_hang (P : Pf f N) {a b z z' : Nat} (ha : a < N) (hb : b < N) (hzN : z < N) (hz : sw f a b z' = f z) (na : z = b ∧ ¬ Cy f b a ∨ z = a ∧ ¬ Cy f a b) {y : Nat} (h : Cy f z y) : Cy (sw f a b) z' y := by
  obtain ⟨s1, s2, s3⟩ := per_spec P hzN
  have hp := per_pos f N z
  have away : ∀ j, 0 < j → j < per f N z → itr f j z ≠ a ∧ itr f j z ≠ b := fun j h1 h2 => by
    rcases na with ⟨rfl, n⟩ | ⟨rfl, n⟩
    · exact ⟨fun e => n ⟨j, e⟩, s3 j h1 h2⟩
    · exact ⟨s3 j h1 h2, fun e => n ⟨j, e⟩⟩
  have q := sw_path hz (per f N z) away
  have hy := (mem_rnd P hzN).mpr h
  unfold rnd at hy
  obtain ⟨k, hk, e⟩ := List.mem_map.mp hy
  have hk := List.mem_range.mp hk
  by_cases k0 : k = 0
  · subst k0
    exact ⟨per f N z, by rw [q _ hp (Nat.le_refl _), s1]; exact e⟩
  · exact ⟨k, by rw [q k (by omega) (by omega)]; exact e⟩
theorem sw_far {a b x : Nat} (h1 : ¬ Cy f x a) (h2 : ¬ Cy f x b) : ∀ k, itr (sw f a b) k x = itr f k x
  | 0 => rfl
  | k + 1 => by
    show sw f a b (itr (sw f a b) k x) = f (itr f k x)
    rw [sw_far h1 h2 k, sw_o (fun e => h1 ⟨k, e⟩) (fun e => h2 ⟨k, e⟩)]
/-- two rounds become one -/
theorem sw_merge (P : Pf f N) {a b : Nat} (ha : a < N) (hb : b < N) (n : ¬ Cy f a b) {x y : Nat} (hx : x < N) (hy : y < N) : Cy (sw f a b) x y ↔ joinR (Cy f) a b x y := by
  have hab : a ≠ b := fun e => n ⟨0, e⟩
  have E := cy_eqv P
  have PG := sw_pf P ha hb hab
  have EG := cy_eqv PG
  have n' : ¬ Cy f b a := fun q => n (E.symm _ _ hb ha q)
  have A : ∀ y, Cy f b y → Cy (sw f a b) a y := fun y h => sw_hang P ha hb hb (sw_a a b) (.inl ⟨rfl, n'⟩) h
  have B : ∀ y, Cy f a y → Cy (sw f a b) b y := fun y h => sw_hang P ha hb ha (sw_b hab) (.inr ⟨rfl, n⟩) h
  have AB : Cy (sw f a b) a b := A b ⟨0, rfl⟩
  refine ⟨sw_sub P ha hb hab hx, fun h => ?_⟩
  rcases h with h | ⟨h1, h2⟩ | ⟨h1, h2⟩
  · by_cases ca : Cy f a x
    · have cy : Cy f a y := E.trans _ _ _ ha hx hy ca h
      exact EG.trans _ _ _ hx hb hy (EG.symm _ _ hb hx (B x ca)) (B y cy)
    · by_cases cb : Cy f b x
      · have cy : Cy f b y := E.trans _ _ _ hb hx hy cb h
        exact EG.trans _ _ _ hx ha hy (EG.symm _ _ ha hx (A x cb)) (A y cy)
      · obtain ⟨k, e⟩ := h
        exact ⟨k, by rw [sw_far (fun q => ca (E.symm _ _ hx ha q)) (fun q => cb (E.symm _ _ hx hb q)) k, e]⟩
  · have c1 := EG.symm _ _ hb hx (B x (E.symm _ _ hx ha h1))
    exact EG.trans _ _ _ hx ha hy (EG.trans _ _ _ hx hb ha c1 (EG.symm _ _ ha hb AB)) (A y h2)
  · have c1 := EG.symm _ _ ha hx (A x (E.symm _ _ hx hb h1))
    exact EG.trans _ _ _ hx hb hy (EG.trans _ _ _ hx ha hb c1 AB) (B y h2)
/-- one round becomes two -/
theorem sw_split (P : Pf f N) {a b : Nat} (ha : a < N) (hb : b < N) (hab : a ≠ b) (h : Cy f a b) : ¬ Cy (sw f a b) a b := by
  have E := cy_eqv P
  obtain ⟨e, ⟨he0, he⟩, hmin⟩ := least (P := fun k => 0 < k ∧ itr f k b = a) (by
    obtain ⟨k, hk⟩ := E.symm _ _ ha hb h
    refine ⟨k, Nat.pos_of_ne_zero fun z => ?_, hk⟩
    subst z
    exact hab hk.symm)
  have away : ∀ j, 0 < j → j < e → itr f j b ≠ a ∧ itr f j b ≠ b := fun j h1 h2 => by
    refine ⟨fun q => ?_, fun q => ?_⟩
    · have := hmin j ⟨h1, q⟩
      omega
    · have q2 : itr f (e - j) b = a := by
        have e3 : itr f ((e - j) + j) b = itr f (e - j) (itr f j b) := itr_add f (e - j) j b
        rw [q, Nat.sub_add_cancel (by omega), he] at e3
        exact e3.symm
      have := hmin (e - j) ⟨by omega, q2⟩
      omega
  have q := sw_path (f := f) (sw_a a b) e away
  have back : itr (sw f a b) e a = a := by rw [q e he0 (Nat.le_refl _), he]
  have many : ∀ m, itr (sw f a b) (e * m) a = a := fun m => by
    induction m with
    | zero => rfl
    | succ m ih => rw [Nat.mul_succ, itr_add, back, ih]
  rintro ⟨k, hk⟩
  have e4 : k = k % e + e * (k / e) := (Nat.mod_add_div k e).symm
  rw [e4, itr_add, many] at hk
  have hr := Nat.mod_lt k he0
  by_cases z : k % e = 0
  · rw [z] at hk
    exact hab hk
  · rw [q _ (by omega) (by omega)] at hk
    exact (away _ (by omega) hr).2 hk
theorem sw_sw {a b : Nat} (hab : a ≠ b) : sw (sw f a b) a b = f := by
  funext x
  by_cases h1 : x = a
  · subst h1
    rw [sw_a, sw_b hab]
  · by_cases h2 : x = b
    · subst h2
      rw [sw_b hab, sw_a]
    · rw [sw_o h1 h2, sw_o h1 h2]
theorem cnt_merge (P : Pf f N) {a b : Nat} (ha : a < N) (hb : b < N) (n : ¬ Cy f a b) : cnt N (Cy f) = cnt N (Cy (sw f a b)) + 1 := by
  rw [cnt_join (cy_eqv P) ha hb n]
  congr 1
  exact cnt_congr fun x y hx hy => (sw_merge P ha hb n hx hy).symm
theorem cnt_split (P : Pf f N) {a b : Nat} (ha : a < N) (hb : b < N) (hab : a ≠ b) (h : Cy f a b) : cnt N (Cy (sw f a b)) = cnt N (Cy f) + 1 := by
  have q := cnt_merge (sw_pf P ha hb hab) ha hb (sw_split P ha hb hab h)
  rw [sw_sw hab] at q
  exact q
/-! ### the number of handles -/
/-- the ends of the first i edges exchanged -/
def swN (f : Nat → Nat) : Nat → Nat → Nat
  | 0 => f
  | i + 1 => sw (swN f i) (2 * i) (2 * i + 1)
def jnN (f : Nat → Nat) : Nat → Nat → Nat → Prop
  | 0 => Cy f
  | i + 1 => joinR (jnN f i) (2 * i) (2 * i + 1)
theorem swN_pf (P : Pf f N) : ∀ i, 2 * i ≤ N → Pf (swN f i) N
  | 0, _ => P
  | i + 1, h => sw_pf (swN_pf P i (by omega)) (by omega) (by omega) (by omega)
theorem jnN_eqv (P : Pf f N) : ∀ i, 2 * i ≤ N → Eqv N (jnN f i)
  | 0, _ => cy_eqv P
  | i + 1, h => joinR_eqv (jnN_eqv P i (by omega)) (by omega) (by omega)
theorem cy_in_jn (P : Pf f N) : ∀ i, 2 * i ≤ N → ∀ x y, x < N → y < N → Cy (swN f i) x y → jnN f i x y
  | 0, _, _, _, _, _, h => h
  | i + 1, hi, x, y, hx, hy, h => by
    have q := sw_sub (swN_pf P i (by omega)) (a := 2 * i) (b := 2 * i + 1) (by omega) (by omega) (by omega) hx h
    have c := cy_in_jn P i (by omega)
    rcases q with q | ⟨q1, q2⟩ | ⟨q1, q2⟩
    · exact .inl (c x y hx hy q)
    · exact .inr (.inl ⟨c _ _ hx (by omega) q1, c _ _ (by omega) hy q2⟩)
    · exact .inr (.inr ⟨c _ _ hx (by omega) q1, c _ _ (by omega) hy q2⟩)
theorem euler_at (P : Pf f N) : ∀ i, 2 * i ≤ N → ∃ m, cnt N (Cy (swN f i)) + 2 * m = cnt N (Cy f) + i ∧ cnt N (Cy f) ≤ cnt N (jnN f i) + m
  | 0, _ => ⟨0, rfl, Nat.le_refl _⟩
  | i + 1, h => by
    obtain ⟨m, h1, h2⟩ := euler_at P i (by omega)
    have PS := swN_pf P i (by omega)
    have EJ := jnN_eqv P i (by omega)
    by_cases c : Cy (swN f i) (2 * i) (2 * i + 1)
    · have e1 := cnt_split PS (a := 2 * i) (b := 2 * i + 1) (by omega) (by omega) (by omega) c
      have e2 := cnt_join_same EJ (a := 2 * i) (b := 2 * i + 1) (by omega) (by omega) (cy_in_jn P i (by omega) _ _ (by omega) (by omega) c)
      refine ⟨m, ?_, ?_⟩
      · show cnt N (Cy (sw (swN f i) (2 * i) (2 * i + 1))) + 2 * m = _
        omega
      · show _ ≤ cnt N (joinR (jnN f i) (2 * i) (2 * i + 1)) + m
        omega
    · have e1 := cnt_merge PS (a := 2 * i) (b := 2 * i + 1) (by omega) (by omega) c
      refine ⟨m + 1, ?_, ?_⟩
      · show cnt N (Cy (sw (swN f i) (2 * i) (2 * i + 1))) + 2 * (m + 1) = _
        omega
      · show _ ≤ cnt N (joinR (jnN f i) (2 * i) (2 * i + 1)) + (m + 1)
        by_cases c2 : jnN f i (2 * i) (2 * i + 1)
        · have := cnt_join_same EJ (a := 2 * i) (b := 2 * i + 1) (by omega) (by omega) c2
          omega
        · have := cnt_join EJ (a := 2 * i) (b := 2 * i + 1) (by omega) (by omega) c2
          omega
end
end Hm
namespace Hm
/-! ### pieces -/
inductive Rch (f : Nat → Nat) : Nat → Nat → Prop where
  | refl (x : Nat) : Rch f x x
  | nx {x y : Nat} (h : Rch f x y) : Rch f x (f y)
  | tw {x y : Nat} (h : Rch f x y) : Rch f x (tw y)
section
variable {f : Nat → Nat} {N : Nat}
theorem Rch.trans {x y z : Nat} (h : Rch f x y) (g : Rch f y z) : Rch f x z := by
  induction g with
  | refl => exact h
  | nx _ ih => exact ih.nx
  | tw _ ih => exact ih.tw
theorem rch_cy {x y : Nat} (h : Cy f x y) : Rch f x y := by
  obtain ⟨k, rfl⟩ := h
  induction k with
  | zero => exact .refl x
  | succ k ih => exact ih.nx
theorem rch_lt (P : Pf f N) (hN : N % 2 = 0) {x y : Nat} (hx : x < N) (h : Rch f x y) : y < N := by
  induction h with
  | refl => exact hx
  | nx _ ih => exact P.lt _ ih
  | tw _ ih => exact tw_lt hN ih
theorem rch_symm (P : Pf f N) (hN : N % 2 = 0) {x y : Nat} (hx : x < N) (h : Rch f x y) : Rch f y x := by
  induction h with
  | refl => exact .refl x
  | @nx y h ih =>
    have hy := rch_lt P hN hx h
    have q : Cy f (f y) y := (cy_eqv P).symm _ _ hy (P.lt _ hy) ⟨1, rfl⟩
    exact (rch_cy q).trans ih
  | @tw y h ih =>
    have q : Rch f (Hm.tw y) y := by
      have := (Rch.refl (f := f) (Hm.tw y)).tw
      rwa [tw_tw] at this
    exact q.trans ih
theorem rch_eqv (P : Pf f N) (hN : N % 2 = 0) : Eqv N (Rch f) := ⟨fun x _ => .refl x, fun _ _ hx _ h => rch_symm P hN hx h, fun _ _ _ _ _ _ h g => h.trans g⟩
theorem tw_even (i : Nat) : tw (2 * i) = 2 * i + 1 := by unfold tw; rw [if_pos (by omega)]
theorem tw_odd (i : Nat) : tw (2 * i + 1) = 2 * i := by unfold tw; rw [if_neg (by omega)]; omega
theorem jn_rch (P : Pf f N) (hN : N % 2 = 0) : ∀ i, 2 * i ≤ N → ∀ x y, x < N → y < N → jnN f i x y → Rch f x y
  | 0, _, _, _, _, _, h => rch_cy h
  | i + 1, hi, x, y, hx, hy, h => by
    have ih := jn_rch P hN i (by omega)
    rcases h with h | ⟨h1, h2⟩ | ⟨h1, h2⟩
    · exact ih _ _ hx hy h
    · have q := (ih _ _ hx (by omega) h1).tw
      rw [tw_even] at q
      exact q.trans (ih _ _ (by omega) hy h2)
    · have q := (ih _ _ hx (by omega) h1).tw
      rw [tw_odd] at q
      exact q.trans (ih _ _ (by omega) hy h2)
theorem jn_mono {x y : Nat} : ∀ {i j : Nat}, i ≤ j → jnN f i x y → jnN f j x y
  | i, 0, h, q => by
    obtain rfl : i = 0 := by omega
    exact q
  | i, j + 1, h, q => by
    by_cases e : i = j + 1
    · rw [← e]
      exact q
    · exact .inl (jn_mono (by omega) q)
theorem rch_jn (P : Pf f N) {e : Nat} (hN : N = 2 * e) {x y : Nat} (hx : x < N) (h : Rch f x y) : jnN f e x y := by
  have E := jnN_eqv P e (by omega)
  induction h with
  | refl => exact E.refl x hx
  | @nx y h ih =>
    have hy := rch_lt P (by omega) hx h
    exact E.trans _ _ _ hx hy (P.lt _ hy) ih (jn_mono (Nat.zero_le _) (show jnN f 0 y (f y) from ⟨1, rfl⟩))
  | @tw y h ih =>
    have hy := rch_lt P (by omega) hx h
    refine E.trans _ _ _ hx hy (tw_lt (by omega) hy) ih ?_
    have E2 := jnN_eqv P (y / 2) (by omega)
    refine jn_mono (i := y / 2 + 1) (by omega) ?_
    by_cases c : y % 2 = 0
    · have e1 : y = 2 * (y / 2) := by omega
      have e2 : Hm.tw y = 2 * (y / 2) + 1 := by
        unfold Hm.tw
        rw [if_pos c]
        omega
      rw [e2]
      refine .inr (.inl ⟨?_, E2.refl _ (by omega)⟩)
      rw [← e1]
      exact E2.refl y hy
    · have e1 : y = 2 * (y / 2) + 1 := by omega
      have e2 : Hm.tw y = 2 * (y / 2) := by
        unfold Hm.tw
        rw [if_neg c]
        omega
      rw [e2]
      refine .inr (.inr ⟨?_, E2.refl _ (by omega)⟩)
      rw [← e1]
      exact E2.refl y hy
theorem swN_eq : ∀ i x, swN f i x = if x < 2 * i then f (tw x) else f x
  | 0, x => by
    rw [if_neg (by omega)]
    rfl
  | i + 1, x => by
    show sw (swN f i) (2 * i) (2 * i + 1) x = _
    by_cases h1 : x = 2 * i
    · subst h1
      rw [sw_a, swN_eq, if_neg (by omega), if_pos (by omega), tw_even]
    · by_cases h2 : x = 2 * i + 1
      · subst h2
        rw [sw_b (by omega), swN_eq, if_neg (by omega), if_pos (by omega), tw_odd]
      · rw [sw_o h1 h2, swN_eq]
        by_cases h3 : x < 2 * i
        · rw [if_pos h3, if_pos (by omega)]
        · rw [if_neg h3, if_neg (by omega)]
theorem cy_inv {g : Nat → Nat} (P : Pf f N) (G : Pf g N) (h : ∀ x, x < N → f (g x) = x) {x y : Nat} (hx : x < N) (hy : y < N) : Cy f x y ↔ Cy g x y := by
  have key : ∀ k z, z < N → itr f k (itr g k z) = z := fun k => by
    induction k with
    | zero => exact fun z _ => rfl
    | succ k ih =>
      intro z hz
      rw [itr_succ' f k]
      show itr f k (f (g (itr g k z))) = z
      rw [h _ (itr_lt G hz k)]
      exact ih z hz
  constructor
  · intro q
    obtain ⟨k, e⟩ := (cy_eqv P).symm _ _ hx hy q
    have e1 := key k x hx
    refine ⟨k, itr_inj P (itr_lt G hx k) hy k ?_⟩
    rw [e1, e]
  · rintro ⟨k, e⟩
    refine (cy_eqv P).symm _ _ hy hx ⟨k, ?_⟩
    rw [← e]
    exact key k x hx
end
/-- corners - edges + faces = 2 pieces - 2 handles, the number of handles not below 0 -/
theorem euler_mesh {ns : List Nat} (h : IsP ns) {e : Nat} (hN : ns.length = 2 * e) :
    ∃ g : Nat, (cycs (fn ns) ns.length ns.length).length + (cycs (fun x => tw (bk ns x)) ns.length ns.length).length + 2 * g = 2 * cnt ns.length (Rch (fn ns)) + e := by
  have P := pf_fn h
  have T := pf_turn h (by omega)
  obtain ⟨m, h1, h2⟩ := euler_at P e (by omega)
  have e1 : cnt ns.length (jnN (fn ns) e) = cnt ns.length (Rch (fn ns)) := cnt_congr fun x y hx hy => ⟨jn_rch P (by omega) e (by omega) x y hx hy, rch_jn P hN hx⟩
  have PS := swN_pf P e (by omega)
  have e2 : cnt ns.length (Cy (swN (fn ns) e)) = cnt ns.length (Cy fun x => tw (bk ns x)) := cnt_congr fun x y hx hy => cy_inv PS T (fun z hz => by
    have hb := bk_lt h hz
    rw [swN_eq, if_pos (by have := tw_lt (N := ns.length) (by omega) hb; omega), tw_tw]
    exact fn_bk h hz) hx hy
  rw [cycs_cnt P, cycs_cnt T, ← e2]
  rw [e1] at h2
  exact ⟨cnt ns.length (Rch (fn ns)) + m - cnt ns.length (Cy (fn ns)), by omega⟩
/-! ### the pieces as lists -/
noncomputable def relB (R : Nat → Nat → Prop) (x y : Nat) : Bool := @decide (R x y) (Classical.propDecidable _)
theorem relB_iff {R : Nat → Nat → Prop} {x y : Nat} : relB R x y = true ↔ R x y := by
  unfold relB
  exact @decide_eq_true_iff _ (Classical.propDecidable _)
noncomputable def pieceL (f : Nat → Nat) (N x : Nat) : List Nat := (List.range N).filter (relB (Rch f) x)
noncomputable def piecesL (f : Nat → Nat) (N n : Nat) : List (List Nat) := ((List.range n).filter (minB N (Rch f))).map (pieceL f N)
theorem piecesL_len (f : Nat → Nat) (N : Nat) : (piecesL f N N).length = cnt N (Rch f) := by
  unfold piecesL cnt
  rw [List.length_map]
theorem mem_piece {f : Nat → Nat} {N x y : Nat} : y ∈ pieceL f N x ↔ y < N ∧ Rch f x y := by
  unfold pieceL
  rw [List.mem_filter, List.mem_range, relB_iff]
/-! ### marks that are lowered -/
section
variable {f : Nat → Nat} {N : Nat}
def lowM (f : Nat → Nat) (M : Nat → Nat) (k : Nat) : Nat := min (min (M k) (M (f k))) (M (tw k))
def putM (f : Nat → Nat) (M : Nat → Nat) (k : Nat) : Nat → Nat := fun x => if x = k ∨ x = f k ∨ x = tw k then lowM f M k else M x
def sweepM (f : Nat → Nat) (M : Nat → Nat) : Nat → Nat → Nat
  | 0 => M
  | n + 1 => putM f (sweepM f M n) n
def marksM (f : Nat → Nat) (N : Nat) : Nat → Nat → Nat
  | 0 => fun x => x
  | t + 1 => sweepM f (marksM f N t) N
theorem putM_le (M : Nat → Nat) (k x : Nat) : putM f M k x ≤ M x := by
  unfold putM
  split
  · rename_i h
    unfold lowM
    rcases h with rfl | rfl | rfl <;> omega
  · exact Nat.le_refl _
theorem sweepM_le (M : Nat → Nat) : ∀ n x, sweepM f M n x ≤ M x
  | 0, _ => Nat.le_refl _
  | n + 1, x => Nat.le_trans (putM_le _ n x) (sweepM_le M n x)
theorem sweepM_mono (M : Nat → Nat) (x : Nat) : ∀ {i j : Nat}, i ≤ j → sweepM f M j x ≤ sweepM f M i x
  | i, 0, h => by
    obtain rfl : i = 0 := by omega
    exact Nat.le_refl _
  | i, j + 1, h => by
    by_cases e : i = j + 1
    · rw [e]
      exact Nat.le_refl _
    · exact Nat.le_trans (putM_le _ j x) (sweepM_mono M x (by omega))
theorem sweepM_to (M : Nat → Nat) {n k : Nat} (h : k < n) : sweepM f M n (f k) ≤ M k ∧ sweepM f M n (tw k) ≤ M k := by
  have a1 : sweepM f M (k + 1) (f k) ≤ M k := by
    show putM f (sweepM f M k) k (f k) ≤ _
    unfold putM
    rw [if_pos (.inr (.inl rfl))]
    have := sweepM_le (f := f) M k k
    unfold lowM
    omega
  have a2 : sweepM f M (k + 1) (tw k) ≤ M k := by
    show putM f (sweepM f M k) k (tw k) ≤ _
    unfold putM
    rw [if_pos (.inr (.inr rfl))]
    have := sweepM_le (f := f) M k k
    unfold lowM
    omega
  exact ⟨Nat.le_trans (sweepM_mono M _ h) a1, Nat.le_trans (sweepM_mono M _ h) a2⟩
/-- each mark is a half of the same piece -/
def InM (f : Nat → Nat) (N : Nat) (M : Nat → Nat) : Prop := ∀ x, x < N → Rch f x (M x)
theorem putM_in (P : Pf f N) (hN : N % 2 = 0) {M : Nat → Nat} (h : InM f N M) {k : Nat} (hk : k < N) : InM f N (putM f M k) := fun x hx => by
  unfold putM
  split
  · rename_i q
    have hl : Rch f k (lowM f M k) := by
      have r1 := h k hk
      have r2 : Rch f k (M (f k)) := ((Rch.refl k).nx).trans (h _ (P.lt _ hk))
      have r3 : Rch f k (M (tw k)) := ((Rch.refl k).tw).trans (h _ (tw_lt hN hk))
      unfold lowM
      rcases Nat.le_total (M k) (M (f k)) with c | c
      · rw [Nat.min_eq_left c]
        rcases Nat.le_total (M k) (M (tw k)) with d | d
        · rw [Nat.min_eq_left d]
          exact r1
        · rw [Nat.min_eq_right d]
          exact r3
      · rw [Nat.min_eq_right c]
        rcases Nat.le_total (M (f k)) (M (tw k)) with d | d
        · rw [Nat.min_eq_left d]
          exact r2
        · rw [Nat.min_eq_right d]
          exact r3
    have hxk : Rch f x k := by
      rcases q with rfl | rfl | rfl
      · exact .refl _
      · exact rch_symm P hN hk (.nx (.refl k))
      · exact rch_symm P hN hk (.tw (.refl k))
    exact hxk.trans hl
  · exact h x hx
theorem sweepM_in (P : Pf f N) (hN : N % 2 = 0) {M : Nat → Nat} (h : InM f N M) : ∀ n, n ≤ N → InM f N (sweepM f M n)
  | 0, _ => h
  | n + 1, hn => putM_in P hN (sweepM_in P hN h n (by omega)) (by omega)
theorem marksM_in (P : Pf f N) (hN : N % 2 = 0) : ∀ t, InM f N (marksM f N t)
  | 0 => fun x _ => .refl x
  | t + 1 => sweepM_in P hN (marksM_in P hN t) N (Nat.le_refl _)
theorem filter_more {p q : Nat → Bool} (h : ∀ x, p x = true → q x = true) {z : Nat} (h1 : p z = false) (h2 : q z = true) : ∀ n, ((List.range n).filter p).length + (if z < n then 1 else 0) ≤ ((List.range n).filter q).length
  | 0 => Nat.le_refl _
  | n + 1 => by
    have ih := filter_more h h1 h2 n
    rw [List.range_succ, List.filter_append, List.filter_append, List.length_append, List.length_append]
    have e0 : ∀ r : Nat → Bool, (List.filter r [n]).length = if r n = true then 1 else 0 := fun r => by
      rw [List.filter_cons]
      split <;> rfl
    rw [e0, e0]
    by_cases c : n = z
    · subst c
      rw [if_pos (Nat.lt_succ_self _), if_pos h2, if_neg (by rw [h1]; simp)]
      rw [if_neg (Nat.lt_irrefl _)] at ih
      omega
    · have e1 : (if z < n + 1 then 1 else 0) = (if z < n then 1 else 0) := by
        by_cases d : z < n
        · rw [if_pos d, if_pos (by omega)]
        · rw [if_neg d, if_neg (by omega)]
      rw [e1]
      have e2 : (if p n = true then 1 else 0) ≤ (if q n = true then 1 else 0) := by
        by_cases d : p n = true
        · rw [if_pos d, if_pos (h n d)]
          exact Nat.le_refl _
        · rw [if_neg d]
          exact Nat.zero_le _
      omega
/-- behind N sweeps each mark is the least half of its piece -/
theorem marksM_min (P : Pf f N) (hN : N % 2 = 0) {m : Nat} (hm : m < N) (hmin : minR N (Rch f) m) : ∀ y, Rch f m y → marksM f N N y = m := by
  have low : ∀ t y, Rch f m y → m ≤ marksM f N t y := fun t y h => by
    have hy := rch_lt P hN hm h
    have q := marksM_in P hN t y hy
    exact hmin _ (rch_lt P hN hy q) (h.trans q)
  have step : ∀ t y, marksM f N (t + 1) y ≤ marksM f N t y := fun t y => sweepM_le _ _ _
  have main : ∀ t, (∀ y, Rch f m y → marksM f N t y = m) ∨ t + 1 ≤ ((List.range N).filter (fun y => relB (Rch f) m y && decide (marksM f N t y = m))).length := by
    intro t
    induction t with
    | zero =>
      right
      have q := filter_more (p := fun _ => false) (q := fun y => relB (Rch f) m y && decide (marksM f N 0 y = m)) (fun x h => (nomatch h)) (z := m) rfl (by
        rw [Bool.and_eq_true]
        exact ⟨relB_iff.mpr (.refl m), decide_eq_true rfl⟩) N
      rw [if_pos hm] at q
      omega
    | succ t ih =>
      rcases ih with ih | ih
      · left
        intro y h
        have h1 := step t y
        have h2 := low (t + 1) y h
        have h3 := ih y h
        omega
      · by_cases all : ∀ y, Rch f m y → marksM f N (t + 1) y = m
        · exact .inl all
        right
        -- a half of the piece without this mark next to one with it
        have edge : ∃ z, Rch f m z ∧ marksM f N t z ≠ m ∧ marksM f N (t + 1) z = m := by
          refine Classical.byContradiction fun no => all ?_
          intro y h
          have key : marksM f N t y = m := by
            induction h with
            | refl =>
              have h1 : ∀ s, marksM f N s m = m := fun s => by
                have l := low s m (.refl m)
                have u : marksM f N s m ≤ m := by
                  induction s with
                  | zero => exact Nat.le_refl _
                  | succ s is => exact Nat.le_trans (step s m) (is (low s m (.refl m)))
                omega
              exact h1 t
            | @nx y h iy =>
              refine Classical.byContradiction fun c => no ⟨f y, h.nx, c, ?_⟩
              have a := (sweepM_to (f := f) (marksM f N t) (rch_lt P hN hm h)).1
              rw [iy] at a
              exact Nat.le_antisymm a (low (t + 1) _ h.nx)
            | @tw y h iy =>
              refine Classical.byContradiction fun c => no ⟨Hm.tw y, h.tw, c, ?_⟩
              have a := (sweepM_to (f := f) (marksM f N t) (rch_lt P hN hm h)).2
              rw [iy] at a
              exact Nat.le_antisymm a (low (t + 1) _ h.tw)
          have h1 := step t y
          have h2 := low (t + 1) y h
          omega
        obtain ⟨z, hz, z1, z2⟩ := edge
        have q := filter_more (p := fun y => relB (Rch f) m y && decide (marksM f N t y = m)) (q := fun y => relB (Rch f) m y && decide (marksM f N (t + 1) y = m)) (fun x hx => by
          rw [Bool.and_eq_true] at hx ⊢
          obtain ⟨x1, x2⟩ := hx
          have x2 := of_decide_eq_true x2
          have h1 := step t x
          have h2 := low (t + 1) x (relB_iff.mp x1)
          exact ⟨x1, decide_eq_true (by omega)⟩) (z := z) (by rw [decide_eq_false z1, Bool.and_false]) (by rw [relB_iff.mpr hz, decide_eq_true z2]; rfl) N
        rw [if_pos (rch_lt P hN hm hz)] at q
        omega
  rcases main N with h | h
  · exact h
  · have := List.length_filter_le (fun y => relB (Rch f) m y && decide (marksM f N N y = m)) (List.range N)
    rw [List.length_range] at this
    omega
/-- the least half of each piece -/
theorem piece_min (P : Pf f N) (hN : N % 2 = 0) {x : Nat} (hx : x < N) : ∃ m, m < N ∧ Rch f m x ∧ minR N (Rch f) m ∧ marksM f N N x = m := by
  obtain ⟨m, ⟨h1, h2⟩, h3⟩ := least (P := fun y => y < N ∧ Rch f x y) ⟨x, hx, .refl x⟩
  have hm : minR N (Rch f) m := fun y hy h => h3 y ⟨hy, h2.trans h⟩
  have hr := rch_symm P hN hx h2
  exact ⟨m, h1, hr, hm, marksM_min P hN h1 hm x hr⟩
theorem marks_first (P : Pf f N) (hN : N % 2 = 0) {x : Nat} (hx : x < N) : marksM f N N x = x ↔ minR N (Rch f) x := by
  constructor
  · intro h
    obtain ⟨m, _, _, h3, h4⟩ := piece_min P hN hx
    rw [h] at h4
    rw [h4]
    exact h3
  · intro h
    exact marksM_min P hN hx h x (.refl x)
theorem marks_same (P : Pf f N) (hN : N % 2 = 0) {m x : Nat} (hm : m < N) (h : minR N (Rch f) m) (hx : x < N) : marksM f N N x = m ↔ Rch f m x := by
  constructor
  · intro e
    have := marksM_in P hN N x hx
    rw [e] at this
    exact rch_symm P hN hx this
  · exact marksM_min P hN hm h x
end
/-! ### a piece by a stack -/
structure Stk (f : Nat → Nat) (s : Nat) (seen todo : List Nat) : Prop where
  st : ∀ x ∈ seen, Rch f s x
  tt : ∀ x ∈ todo, Rch f s x
  s0 : s ∈ seen ∨ s ∈ todo
  nx : ∀ x ∈ seen, f x ∈ seen ∨ f x ∈ todo
  tw : ∀ x ∈ seen, tw x ∈ seen ∨ tw x ∈ todo
theorem stk_end {f : Nat → Nat} {s : Nat} {seen : List Nat} (h : Stk f s seen []) {x : Nat} : x ∈ seen ↔ Rch f s x := by
  refine ⟨h.st x, fun q => ?_⟩
  have no : ∀ y, ¬ y ∈ ([] : List Nat) := fun y hy => (nomatch hy)
  induction q with
  | refl => exact h.s0.resolve_right (no _)
  | nx _ ih => exact (h.nx _ ih).resolve_right (no _)
  | tw _ ih => exact (h.tw _ ih).resolve_right (no _)
end Hm
namespace Hm
open PySem PySem.Spec PyProof.Rows L2 Evl
/-! ### the program: one round -/
theorem vi_eq {a b : Nat} : decide (vi a = vi b) = decide (a = b) := by
  by_cases h : a = b
  · rw [h, decide_eq_true rfl, decide_eq_true rfl]
  · have e : ¬ vi a = vi b := fun q => h (Int.ofNat.inj (V.int.inj q))
    rw [decide_eq_false h, decide_eq_false e]
def sp_isoneround (K : PySem.W.Frag) : Sp := fun vs H Q _ => ∃ (p : Addr) (ns : List Nat) (a b : Nat), vs = [.ref p, vi a, vi b] ∧ SqL K H p (L ns) ∧ IsP ns ∧ a < ns.length ∧ b < ns.length ∧ ∀ H', Ex H H' → Q (.bl (decide (b ∈ rnd (fn ns) ns.length a))) H'
abbrev nm_isoneround : List Str := ["links", "first", "second", "half"]
abbrev pr_isoneround : List Str := ["links", "first", "second"]
def t_isoneround (K : PySem.W.Frag) : TS :=
  (tSeq (tAsg (tOp (rIxL K) (tVar 0) (tVar 1)) (gName 3))
  (tSeq (tWhile (tAnd (tTest (tOp rNe (tVar 3) (tVar 1))) (tTest (tOp rNe (tVar 3) (tVar 2)))) (tAsg (tOp (rIxL K) (tVar 0) (tVar 3)) (gName 3)))
  (tRet (tOp rEq (tVar 3) (tVar 2)))))
abbrev Wt_isoneround (K : PySem.W.Frag) (vs : List V) (H : Hp) (Q : VK) : Prop := t_isoneround K { nx := fun _ H' => Q .non H', rt := Q } (start nm_isoneround vs) H
theorem ln_isoneround {K : PySem.W.Frag} (vs : List V) (H : Hp) (Q : VK) (E : XK) (h : sp_isoneround K vs H Q E) : vs.length = pr_isoneround.length := by
  obtain ⟨_, _, _, _, rfl, _⟩ := h
  rfl
theorem rd_isoneround {K : PySem.W.Frag} (F : KF K) (vs : List V) (H : Hp) (Q : VK) (E : XK) (h : sp_isoneround K vs H Q E) : Wt_isoneround K vs H Q := by
  obtain ⟨p, ns, a, b, rfl, hS, hP, ha, hb, k⟩ := h
  show t_isoneround K _ [some (.ref p), some (vi a), some (vi b), none] H
  have P := pf_fn hP
  obtain ⟨s1, s2, s3⟩ := per_spec P ha
  have pp := per_pos (fn ns) ns.length a
  refine q_asg (v := vi (itr (fn ns) 1 a)) (ev_op (ev_var rfl) (ev_var rfl) (rv_ixL hS (L_at ha))) (fun H1 e1 => ?_)
  refine q_while (fun m σ' H' => ∃ n : Nat, m = per (fn ns) ns.length a - n ∧ n + 1 ≤ per (fn ns) ns.length a ∧ σ' = [some (.ref p), some (vi a), some (vi b), some (vi (itr (fn ns) (n + 1) a))] ∧ Ex H H' ∧ ∀ j, 0 < j → j ≤ n → itr (fn ns) j a ≠ a ∧ itr (fn ns) j a ≠ b) _ ⟨0, rfl, pp, rfl, e1, fun j h1 h2 => by omega⟩ ?_
  rintro m σ' H2 ⟨n, rfl, hn, rfl, x2, no⟩
  refine ⟨!decide (itr (fn ns) (n + 1) a = a) && !decide (itr (fn ns) (n + 1) a = b), et_and (et_is (et_test (ev_op (ev_var rfl) (ev_var rfl) (rv_ne rfl))) (by rw [vi_eq])) (fun _ => et_is (et_test (ev_op (ev_var rfl) (ev_var rfl) (rv_ne rfl))) (by rw [vi_eq])), fun hc H3 e3 => ?_, fun hc H3 e3 => ?_⟩
  · rw [Bool.and_eq_true, Bool.not_eq_true', Bool.not_eq_true', decide_eq_false_iff_not, decide_eq_false_iff_not] at hc
    have lt : n + 1 < per (fn ns) ns.length a := Nat.lt_of_le_of_ne hn (fun q => hc.1 (by rw [q, s1]))
    refine ⟨_, fun σ2 H2 hw => hw, ?_⟩
    refine s_asg (v := vi (itr (fn ns) (n + 1 + 1) a)) (ev_op (ev_var rfl) (ev_var rfl) (rv_ixL (ex_l (x2.trans e3) hS) (L_at (itr_lt P ha (n + 1))))) (fun H4 e4 => ?_)
    refine ⟨per (fn ns) ns.length a - (n + 1), by omega, n + 1, rfl, lt, rfl, (x2.trans e3).trans e4, fun j h1 h2 => ?_⟩
    by_cases q : j = n + 1
    · rw [q]
      exact hc
    · exact no j h1 (by omega)
  · refine s_ret (ev_is (w := .bl (decide (b ∈ rnd (fn ns) ns.length a))) (ev_op (ev_var rfl) (ev_var rfl) (rv_eq rfl)) ?_) (fun H4 e4 => k H4 ((x2.trans e3).trans e4))
    rw [vi_eq]
    congr 1
    by_cases q : itr (fn ns) (n + 1) a = b
    · rw [decide_eq_true q, decide_eq_true ((mem_rnd P ha).mpr ⟨n + 1, q⟩)]
    · rw [decide_eq_false q]
      have z : itr (fn ns) (n + 1) a = a := Classical.byContradiction fun w => by
        rw [decide_eq_false w, decide_eq_false q] at hc
        cases hc
      have pe : per (fn ns) ns.length a = n + 1 := Nat.le_antisymm (Nat.le_of_not_lt fun w => s3 (n + 1) (Nat.succ_pos _) w z) hn
      rw [decide_eq_false]
      intro hm
      unfold rnd at hm
      obtain ⟨j, hj, e⟩ := List.mem_map.mp hm
      have hj := List.mem_range.mp hj
      by_cases j0 : j = 0
      · subst j0
        exact q (z.trans e)
      · exact (no j (by omega) (by omega)).2 e
theorem spv_isoneround {K : PySem.W.Frag} {H : Hp} {p : Addr} {ns : List Nat} {a b : Nat} (hS : SqL K H p (L ns)) (hP : IsP ns) (ha : a < ns.length) (hb : b < ns.length) : SpV (sp_isoneround K) [.ref p, vi a, vi b] H (.bl (decide (b ∈ rnd (fn ns) ns.length a))) := fun H1 e Q q E => ⟨p, ns, a, b, rfl, ex_l e hS, hP, ha, hb, q⟩
def sp_Meshisoneface (K : PySem.W.Frag) : Sp := fun vs H Q _ => ∃ (x : Addr) (ns : List Nat) (a b : Nat), vs = [.ref x, vi a, vi b] ∧ MeshAt K H x ns ∧ MP ns ∧ a < ns.length ∧ b < ns.length ∧ ∀ H', Ex H H' → Q (.bl (decide (b ∈ rnd (stp ns true) ns.length a))) H'
abbrev nm_Meshisoneface : List Str := ["self", "first", "second"]
abbrev pr_Meshisoneface : List Str := ["self", "first", "second"]
def t_Meshisoneface (K : PySem.W.Frag) : TS :=
  (tRet (tCall (sp_isoneround K) [] E0 (tCons (tFld K (tVar 0) "_nexts") (tCons (tVar 1) (tCons (tVar 2) tNil)))))
abbrev Wt_Meshisoneface (K : PySem.W.Frag) (vs : List V) (H : Hp) (Q : VK) : Prop := t_Meshisoneface K { nx := fun _ H' => Q .non H', rt := Q } (start nm_Meshisoneface vs) H
theorem ln_Meshisoneface {K : PySem.W.Frag} (vs : List V) (H : Hp) (Q : VK) (E : XK) (h : sp_Meshisoneface K vs H Q E) : vs.length = pr_Meshisoneface.length := by
  obtain ⟨_, _, _, _, rfl, _⟩ := h
  rfl
theorem rd_Meshisoneface {K : PySem.W.Frag} (F : KF K) (vs : List V) (H : Hp) (Q : VK) (E : XK) (h : sp_Meshisoneface K vs H Q E) : Wt_Meshisoneface K vs H Q := by
  obtain ⟨x, ns, a, b, rfl, ⟨dx, l1, l2, l3, q1, q2, q3, q4⟩, hM, ha, hb, k⟩ := h
  show t_Meshisoneface K _ [some (.ref x), some (vi a), some (vi b)] H
  exact s_ret (ev_call (ea_cons (ev_fld (ev_var rfl) q1 F.cl F.n1 (mfs_n _ _ _)) (ea_2 (ev_var rfl) (ev_var rfl))) (spv_isoneround (sq_of q2) hM.p ha hb)) (fun H1 e1 => k H1 e1)
def sp_Meshisonecorner (K : PySem.W.Frag) : Sp := fun vs H Q _ => ∃ (x : Addr) (ns : List Nat) (a b : Nat), vs = [.ref x, vi a, vi b] ∧ MeshAt K H x ns ∧ MP ns ∧ a < ns.length ∧ b < ns.length ∧ ∀ H', Ex H H' → Q (.bl (decide (b ∈ rnd (stp ns false) ns.length a))) H'
abbrev nm_Meshisonecorner : List Str := ["self", "first", "second"]
abbrev pr_Meshisonecorner : List Str := ["self", "first", "second"]
def t_Meshisonecorner (K : PySem.W.Frag) : TS :=
  (tRet (tCall (sp_isoneround K) [] E0 (tCons (tFld K (tVar 0) "_turns") (tCons (tVar 1) (tCons (tVar 2) tNil)))))
abbrev Wt_Meshisonecorner (K : PySem.W.Frag) (vs : List V) (H : Hp) (Q : VK) : Prop := t_Meshisonecorner K { nx := fun _ H' => Q .non H', rt := Q } (start nm_Meshisonecorner vs) H
theorem ln_Meshisonecorner {K : PySem.W.Frag} (vs : List V) (H : Hp) (Q : VK) (E : XK) (h : sp_Meshisonecorner K vs H Q E) : vs.length = pr_Meshisonecorner.length := by
  obtain ⟨_, _, _, _, rfl, _⟩ := h
  rfl
theorem rd_Meshisonecorner {K : PySem.W.Frag} (F : KF K) (vs : List V) (H : Hp) (Q : VK) (E : XK) (h : sp_Meshisonecorner K vs H Q E) : Wt_Meshisonecorner K vs H Q := by
  obtain ⟨x, ns, a, b, rfl, ⟨dx, l1, l2, l3, q1, q2, q3, q4⟩, hM, ha, hb, k⟩ := h
  show t_Meshisonecorner K _ [some (.ref x), some (vi a), some (vi b)] H
  have e : rnd (fn (turns ns)) (turns ns).length a = rnd (stp ns false) ns.length a := by
    have h3 := pf_fn (isP_turns hM.p hM.two)
    rw [turns_len] at h3 ⊢
    exact rnd_congr h3 (fun z hz => fn_turns hz) ha
  refine s_ret (ev_call (ea_cons (ev_fld (ev_var rfl) q1 F.cl F.n3 (mfs_t _ _ _)) (ea_2 (ev_var rfl) (ev_var rfl))) (spv_isoneround (sq_of q4) (isP_turns hM.p hM.two) (by rw [turns_len]; exact ha) (by rw [turns_len]; exact hb))) (fun H1 e1 => ?_)
  rw [e]
  exact k H1 e1
def sp_Meshedges (K : PySem.W.Frag) : Sp := fun vs H Q _ => ∃ (x : Addr) (ns : List Nat), vs = [.ref x] ∧ MeshAt K H x ns ∧ ∀ H', Ex H H' → Q (vi (ns.length / 2)) H'
abbrev nm_Meshedges : List Str := ["self"]
abbrev pr_Meshedges : List Str := ["self"]
def t_Meshedges (K : PySem.W.Frag) : TS :=
  (tRet (tOp zDiv (tCB (cLen K) (tCons (tFld K (tVar 0) "_nexts") tNil)) (tC (.int 2))))
abbrev Wt_Meshedges (K : PySem.W.Frag) (vs : List V) (H : Hp) (Q : VK) : Prop := t_Meshedges K { nx := fun _ H' => Q .non H', rt := Q } (start nm_Meshedges vs) H
theorem ln_Meshedges {K : PySem.W.Frag} (vs : List V) (H : Hp) (Q : VK) (E : XK) (h : sp_Meshedges K vs H Q E) : vs.length = pr_Meshedges.length := by
  obtain ⟨_, _, rfl, _⟩ := h
  rfl
theorem rd_Meshedges {K : PySem.W.Frag} (F : KF K) (vs : List V) (H : Hp) (Q : VK) (E : XK) (h : sp_Meshedges K vs H Q E) : Wt_Meshedges K vs H Q := by
  obtain ⟨x, ns, rfl, ⟨dx, l1, l2, l3, q1, q2, q3, q4⟩, k⟩ := h
  show t_Meshedges K _ [some (.ref x)] H
  refine s_ret (v := vi (ns.length / 2)) (ev_is (ev_op (ev_cb (ea_1 (ev_fld (ev_var rfl) q1 F.cl F.n1 (mfs_n _ _ _))) (rc_len (sq_of q2))) ev_c (rv_I ⟨by decide, by decide⟩)) ?_) (fun H1 e1 => k H1 e1)
  rw [L_len]
  congr 1
  rw [Int.fdiv_eq_ediv_of_nonneg _ (by decide)]
  omega
end Hm
namespace Hm
open PySem PySem.Spec PyProof.Rows L2 Evl
/-! ### the program: a piece by a stack -/
def rSortDI : CR1 := fun xs H Q => ∃ (a : Addr) (kvs : List (Key × V)) (ks : List Int), xs = [.ref a] ∧ Rd H a (.dK kvs) ∧ kvs.map (·.1) = ks.map Sum.inl ∧ ks.length < 64 ∧
    ∀ (ys : List Int) (p : Addr), ys.Perm ks → ys.Pairwise (· ≤ ·) → H p = none → Q (.ref p) (upd H p (.lst (ys.map V.int)))
/-- a dict whose keys are these, each with True -/
def kdT (ks : List Nat) : List (Key × V) := ks.map fun h : Nat => ((.inl (h : Int) : Key), V.bl true)
theorem kdT_val (h : Nat) : ∀ ks : List Nat, (valV (kdT ks) (.inl (h : Int))).isSome = decide (h ∈ ks)
  | [] => by
    rw [decide_eq_false (by simp)]
    rfl
  | a :: r => by
    have ih := kdT_val h r
    show (valV (((.inl (a : Int) : Key), V.bl true) :: kdT r) (.inl (h : Int))).isSome = _
    by_cases e : a = h
    · subst e
      rw [valV_pos rfl]
      simp
    · have ne : ¬ ((Sum.inl (a : Int) : Key) = Sum.inl (h : Int)) := fun z => e (by have := Sum.inl.inj z; omega)
      rw [valV_neg ne, ih]
      by_cases q : h ∈ r
      · simp [q]
      · simp [q, Ne.symm e]
theorem kdT_put {h : Nat} {ks : List Nat} (q : h ∉ ks) : putK (kdT ks) (.inl (h : Int)) (.bl true) = kdT (ks ++ [h]) := by
  have n : valV (kdT ks) (.inl (h : Int)) = none := by
    have := kdT_val h ks
    rw [decide_eq_false q] at this
    cases c : valV (kdT ks) (.inl (h : Int)) with
    | none => rfl
    | some v =>
      rw [c] at this
      cases this
  rw [putK_new _ n]
  unfold kdT
  rw [List.map_append]
  rfl
theorem kdT_len (ks : List Nat) : (kdT ks).length = ks.length := List.length_map ..
theorem kdT_keys (ks : List Nat) : (kdT ks).map (·.1) = (ks.map fun h : Nat => (h : Int)).map Sum.inl := by
  unfold kdT
  rw [List.map_map, List.map_map]
  rfl
theorem piece_sorted (f : Nat → Nat) (N s : Nat) : (pieceL f N s).Pairwise (· ≤ ·) := by
  unfold pieceL
  exact (List.pairwise_le_range).filter _
theorem piece_nodup (f : Nat → Nat) (N s : Nat) : (pieceL f N s).Nodup := by
  unfold pieceL
  exact List.nodup_range.filter _
theorem ev_ret_sort {σ : L2.St} {H : Hp} {te : TE} {D : Ends} {d : Addr} {kvs : List (Key × V)} {ks r : List Int} (h : Ev te σ H (.ref d)) (hd : H d = some (.dK kvs)) (hk : kvs.map (·.1) = ks.map Sum.inl) (hl : ks.length < 64) (hu : ∀ ns' : List Int, ns'.Perm ks → ns'.Pairwise (· ≤ ·) → ns' = r)
    (k : ∀ p H1, H p = none → Ex H H1 → H1 p = some (.lst (r.map V.int)) → D.rt (.ref p) H1) : tRet (tCB rSortDI (tCons te tNil)) D σ H := h H (Ex.refl H) _ fun H1 e1 =>
  ⟨d, kvs, ks, rfl, .inl (e1 _ _ hd), hk, hl, fun ys p h1 h2 hp => by
    rw [hu ys h1 h2]
    exact k p _ (fresh_back e1 hp) (e1.trans (Ex.new hp)) upd_same⟩
def sp_Meshpiece (K : PySem.W.Frag) : Sp := fun vs H Q _ => ∃ (x : Addr) (ns : List Nat) (s : Nat), vs = [.ref x, vi s] ∧ MeshAt K H x ns ∧ MP ns ∧ s < ns.length ∧ ns.length < 64 ∧ ∀ p H', H p = none → Ex H H' → H' p = some (.lst (L (pieceL (fn ns) ns.length s))) → Q (.ref p) H'
abbrev nm_Meshpiece : List Str := ["self", "start", "seen", "todo", "half"]
abbrev pr_Meshpiece : List Str := ["self", "start"]
def t_Meshpiece (K : PySem.W.Frag) : TS :=
  (tSeq (tAsg tDNewK (gName 2))
  (tSeq (tAsg (tLst (tCons (tVar 1) tNil)) (gName 3))
  (tSeq (tWhile (tTruL K (tVar 3)) (tSeq (tAsg (tBM0 K "list" rPop (tVar 3)) (gName 4))
      (tIfS (tB (tDNotIn (tVar 4) (tVar 2))) (tSeq (sDPut (tVar 2) (tVar 4) (tC (.bl true)))
        (tSeq (tDrop (tBM K "list" rAppend (tVar 3) (tCons (tOp (rIxL K) (tFld K (tVar 0) "_nexts") (tVar 4)) tNil)))
        (tDrop (tBM K "list" rAppend (tVar 3) (tCons (tOp zXor (tVar 4) (tC (.int 1))) tNil))))) tNext)))
  (tRet (tCB rSortDI (tCons (tVar 2) tNil))))))
abbrev Wt_Meshpiece (K : PySem.W.Frag) (vs : List V) (H : Hp) (Q : VK) : Prop := t_Meshpiece K { nx := fun _ H' => Q .non H', rt := Q } (start nm_Meshpiece vs) H
theorem ln_Meshpiece {K : PySem.W.Frag} (vs : List V) (H : Hp) (Q : VK) (E : XK) (h : sp_Meshpiece K vs H Q E) : vs.length = pr_Meshpiece.length := by
  obtain ⟨_, _, _, rfl, _⟩ := h
  rfl
theorem rd_Meshpiece {K : PySem.W.Frag} (F : KF K) (vs : List V) (H : Hp) (Q : VK) (E : XK) (h : sp_Meshpiece K vs H Q E) : Wt_Meshpiece K vs H Q := by
  obtain ⟨x, ns, s, rfl, hm, hM, hs, h64, k⟩ := h
  show t_Meshpiece K _ [some (.ref x), some (vi s), none, none, none] H
  have P := pf_fn hM.p
  have two := hM.two
  refine q_asgD (fun d hd => ?_)
  refine q_asgL (el_lst (ea_1 (ev_var rfl)) (by show 1 ≤ 100000; decide)) (fun t H1 ht e1 h1 => ?_)
  have hdt : d ≠ t := ne_of_none upd_same ht
  have x1 : Ex H H1 := (Ex.new hd).trans e1
  have ht0 : H t = none := fresh_back (Ex.new hd) ht
  refine q_while (fun m σ' H' => ∃ (ks todo : List Nat) (v4 : Option V), m = 3 * (ns.length - ks.length) + todo.length ∧ Stk (fn ns) s ks todo ∧ ks.Nodup ∧ (∀ y ∈ ks, y < ns.length) ∧ (∀ y ∈ todo, y < ns.length) ∧ todo.length ≤ 2 * ks.length + 1 ∧
    σ' = [some (.ref x), some (vi s), some (.ref d), some (.ref t), v4] ∧ Ex H H' ∧ H' d = some (.dK (kdT ks)) ∧ H' t = some (.lst (L todo))) _ ⟨[], [s], none, rfl, ⟨fun _ h => (nomatch h), fun y hy => by rw [List.mem_singleton.mp hy]; exact .refl s, .inr (List.mem_singleton.mpr rfl), fun _ h => (nomatch h), fun _ h => (nomatch h)⟩, List.nodup_nil, fun _ h => (nomatch h), fun y hy => by rw [List.mem_singleton.mp hy]; exact hs, by show 1 ≤ _; omega, rfl, x1, by rw [e1 _ _ upd_same]; rfl, h1⟩ ?_
  rintro m σ' H2 ⟨ks, todo, v4, rfl, S, nd, kl, tl, tz, rfl, x2, a1, a2⟩
  have kle : ks.length ≤ ns.length := nodup_le _ _ nd kl
  refine ⟨!(L todo).isEmpty, et_truL (ev_var rfl) (sq_of a2), fun hb H3 e3 => ?_, fun hb H3 e3 => ?_⟩
  · rcases List.eq_nil_or_concat todo with rfl | ⟨r, h, ec⟩
    · cases hb
    rw [List.concat_eq_append] at ec
    subst ec
    have hh : h < ns.length := tl h (List.mem_append_right _ (List.mem_singleton.mpr rfl))
    have rl : ∀ y ∈ r, y < ns.length := fun y hy => tl y (List.mem_append_left _ hy)
    have hr := S.tt h (List.mem_append_right _ (List.mem_singleton.mpr rfl))
    refine ⟨_, fun σ2 H2 hw => hw, ?_⟩
    have a3 : H3 t = some (.lst (L r ++ [vi h])) := by
      rw [e3 _ _ a2, L_app]
      rfl
    refine q_pop (ev_var rfl) a3 (fun H4 e4 => ?_)
    have x4 : Ex H (upd H4 t (.lst (L r))) := ((x2.trans e3).trans e4).mut ht0
    have d4 : (upd H4 t (.lst (L r))) d = some (.dK (kdT ks)) := by
      rw [upd_ne hdt]
      exact e4 _ _ (e3 _ _ a1)
    refine s_when (et_B (ev_dnin (ev_var rfl) (ev_var rfl) d4)) (fun hb H5 e5 => ?_) (fun hb H5 e5 => ?_)
    · have q : h ∉ ks := fun z => by
        rw [kdT_val, decide_eq_true z] at hb
        cases hb
      have x5 := x4.trans e5
      have hklt : ks.length < ns.length := by
        have := nodup_le ns.length (ks ++ [h]) (by
          rw [List.nodup_append]
          exact ⟨nd, by simp, fun a ha b hb e => q (by rw [← List.mem_singleton.mp hb, ← e]; exact ha)⟩) (fun y hy => by
          rcases List.mem_append.mp hy with hy | hy
          · exact kl y hy
          · rw [List.mem_singleton.mp hy]
            exact hh)
        rw [List.length_append] at this
        exact this
      refine q_dput ev_c (ev_var rfl) (ev_var rfl) (e5 _ _ d4) (by rw [kdT_len]; have := hM.len; omega) (fun H6 e6 => ?_)
      rw [kdT_put q]
      have x6 : Ex H (upd H6 d (.dK (kdT (ks ++ [h])))) := (x5.trans e6).mut hd
      have t6 : (upd H6 d (.dK (kdT (ks ++ [h])))) t = some (.lst (L r)) := by
        rw [upd_ne hdt.symm]
        exact e6 _ _ (e5 _ _ upd_same)
      obtain ⟨dx, l1, l2, l3, q1, q2, q3, q4⟩ := hm.ex x6
      have tlen : r.length + 1 ≤ 2 * ks.length + 1 := by
        rw [List.length_append] at tz
        exact tz
      have := hM.len
      refine q_app t6 (ev_var rfl) (ev_op (ev_fld (ev_var rfl) q1 F.cl F.n1 (mfs_n _ _ _)) (ev_var rfl) (rv_ixL (sq_of q2) (L_at hh))) (by rw [L_len]; omega) (fun H7 e7 => ?_)
      refine s_app upd_same (ev_var rfl) (ev_is (w := vi (tw h)) (ev_op (ev_var rfl) ev_c rv_I0) (by show V.int (Builtin.bitXor (h : Int) 1) = _; rw [xor_tw])) (by rw [List.length_append, L_len]; show r.length + 1 < 100000; omega) (fun H8 e8 => ?_)
      have move : ∀ {y : Nat}, y ∈ ks ∨ y ∈ r ++ [h] → y ∈ ks ++ [h] ∨ y ∈ r ++ [fn ns h, tw h] := fun z => by
        rcases z with z | z
        · exact .inl (List.mem_append_left _ z)
        · rcases List.mem_append.mp z with z | z
          · exact .inr (List.mem_append_left _ z)
          · exact .inl (List.mem_append_right _ z)
      have hf := P.lt h hh
      have ht' := tw_lt two hh
      refine ⟨_, ?_, ks ++ [h], r ++ [fn ns h, tw h], _, rfl, ?_, ?_, ?_, ?_, ?_, rfl, ?_, ?_, ?_⟩
      · rw [List.length_append, List.length_append, List.length_append]
        show 3 * (ns.length - (ks.length + 1)) + (r.length + 2) < 3 * (ns.length - ks.length) + (r.length + 1)
        omega
      · refine ⟨fun y hy => ?_, fun y hy => ?_, ?_, fun y hy => ?_, fun y hy => ?_⟩
        · rcases List.mem_append.mp hy with hy | hy
          · exact S.st y hy
          · rw [List.mem_singleton.mp hy]
            exact hr
        · rcases List.mem_append.mp hy with hy | hy
          · exact S.tt y (List.mem_append_left _ hy)
          · rcases List.mem_cons.mp hy with hy | hy
            · rw [hy]
              exact hr.nx
            · rw [List.mem_singleton.mp hy]
              exact hr.tw
        · exact move S.s0
        · rcases List.mem_append.mp hy with hy | hy
          · exact move (S.nx y hy)
          · rw [List.mem_singleton.mp hy]
            exact .inr (List.mem_append_right _ (List.mem_cons_self ..))
        · rcases List.mem_append.mp hy with hy | hy
          · exact move (S.tw y hy)
          · rw [List.mem_singleton.mp hy]
            exact .inr (List.mem_append_right _ (List.mem_cons_of_mem _ (List.mem_cons_self ..)))
      · rw [List.nodup_append]
        exact ⟨nd, by simp, fun a ha b hb e => q (by rw [← List.mem_singleton.mp hb, ← e]; exact ha)⟩
      · intro y hy
        rcases List.mem_append.mp hy with hy | hy
        · exact kl y hy
        · rw [List.mem_singleton.mp hy]
          exact hh
      · intro y hy
        rcases List.mem_append.mp hy with hy | hy
        · exact rl y hy
        · rcases List.mem_cons.mp hy with hy | hy
          · rw [hy]
            exact hf
          · rw [List.mem_singleton.mp hy]
            exact ht'
      · rw [List.length_append, List.length_append]
        show r.length + 2 ≤ 2 * (ks.length + 1) + 1
        omega
      · exact (((x6.trans e7).mut ht0).trans e8).mut ht0
      · rw [upd_ne hdt]
        refine e8 _ _ ?_
        rw [upd_ne hdt]
        exact e7 _ _ upd_same
      · rw [upd_same, L_app, List.append_assoc]
        rfl
    · have q : h ∈ ks := Classical.byContradiction fun z => by
        rw [kdT_val, decide_eq_false z] at hb
        cases hb
      have stay : ∀ {y : Nat}, y ∈ ks ∨ y ∈ r ++ [h] → y ∈ ks ∨ y ∈ r := fun z => by
        rcases z with z | z
        · exact .inl z
        · rcases List.mem_append.mp z with z | z
          · exact .inr z
          · rw [List.mem_singleton.mp z]
            exact .inl q
      refine ⟨_, ?_, ks, r, _, rfl, ⟨S.st, fun y hy => S.tt y (List.mem_append_left _ hy), stay S.s0, fun y hy => stay (S.nx y hy), fun y hy => stay (S.tw y hy)⟩, nd, kl, rl, ?_, rfl, x4.trans e5, e5 _ _ d4, e5 _ _ upd_same⟩
      · rw [List.length_append]
        show _ < _ + (r.length + 1)
        omega
      · rw [List.length_append] at tz
        have : r.length + 1 ≤ 2 * ks.length + 1 := tz
        omega
  · have e0 : todo = [] := by
      cases todo with
      | nil => rfl
      | cons a r => cases hb
    subst e0
    have hk : ∀ y, y ∈ ks ↔ y ∈ pieceL (fn ns) ns.length s := fun y => by
      rw [mem_piece, stk_end S]
      exact ⟨fun h => ⟨rch_lt P two hs h, h⟩, fun h => h.2⟩
    have pm : ks.Perm (pieceL (fn ns) ns.length s) := (List.perm_ext_iff_of_nodup nd (piece_nodup _ _ _)).mpr hk
    obtain ⟨r, r1, r2, r3⟩ := sort_ex (ks.map fun h : Nat => (h : Int))
    have er : (pieceL (fn ns) ns.length s).map (fun h : Nat => (h : Int)) = r := r3 _ (pm.symm.map _) (by
      rw [List.pairwise_map]
      exact (piece_sorted (fn ns) ns.length s).imp fun h => by omega)
    refine ev_ret_sort (ev_var rfl) (e3 _ _ a1) (kdT_keys ks) (by rw [List.length_map]; omega) r3 (fun p H4 hp e4 h4 => ?_)
    refine k p H4 (fresh_back (x2.trans e3) hp) ((x2.trans e3).trans e4) ?_
    rw [h4, ← er, L_int]
end Hm
namespace Hm
open PySem PySem.Spec PyProof.Rows L2 Evl
/-! ### the program: the pieces -/
theorem mem_fold {h : Nat} : ∀ (more kvs : List (Key × V)), (valV (mergeK kvs more) (.inl (h : Int))).isSome = ((valV kvs (.inl (h : Int))).isSome || more.any fun kv => decide (kv.1 = .inl (h : Int)))
  | [], kvs => by
    show (valV kvs (.inl (h : Int))).isSome = _
    simp
  | p :: r, kvs => by
    have ih := mem_fold (h := h) r (putK kvs p.1 p.2)
    show (valV (mergeK (putK kvs p.1 p.2) r) (.inl (h : Int))).isSome = _
    rw [ih, valV_put]
    by_cases e : p.1 = .inl (h : Int)
    · rw [if_pos e.symm]
      simp [e]
    · rw [if_neg (fun z => e z.symm)]
      simp [e]
theorem any_kdT (h : Nat) : ∀ ks : List Nat, ((kdT ks).any fun kv => decide (kv.1 = .inl (h : Int))) = decide (h ∈ ks)
  | [] => by
    rw [decide_eq_false (by simp)]
    rfl
  | a :: r => by
    have ih := any_kdT h r
    show (decide ((Sum.inl (a : Int) : Key) = Sum.inl (h : Int)) || (kdT r).any fun kv => decide (kv.1 = .inl (h : Int))) = _
    rw [ih]
    by_cases e : a = h
    · subst e
      simp
    · have ne : ¬ ((Sum.inl (a : Int) : Key) = Sum.inl (h : Int)) := fun z => e (by have := Sum.inl.inj z; omega)
      rw [decide_eq_false ne]
      by_cases q : h ∈ r
      · simp [q]
      · simp [q, Ne.symm e]
/-- {h: True for h in a list} -/
theorem dc_true {K : PySem.W.Frag} {σ : L2.St} {H : Hp} {tl : TE} {j : Nat} {a : Addr} {ms : List Nat} {Q : VK} (h : Ev tl σ H (.ref a)) (hS : SqL K H a (L ms)) (nd : ms.Nodup) (hz : ms.length ≤ 10000) (hw : ∀ x, wipe ((wipe σ [j]).set j (some x)) [j] = wipe σ [j]) (hj : ∀ x, ((wipe σ [j]).set j (some x))[j]? = some (some x))
    (k : ∀ D H1, H D = none → Ex H H1 → H1 D = some (.dK (kdT ms)) → Q (.ref D) H1) : tDc (iList K tl) (gName j) tYes (tVar j) (tC (.bl true)) [j] σ H Q := h H (Ex.refl H) _ fun H1 e1 => by
  refine ⟨a, rfl, ⟨_, ex_l e1 hS⟩, fun Dl hD => ?_⟩
  have sq : ∀ {H' : Hp}, Ex H1 H' → SqL K H' a (L ms) := fun e => ex_l (e1.trans e) hS
  refine ⟨fun i m H' => m = ms.length - i ∧ i ≤ ms.length ∧ Ex H1 H' ∧ H' Dl = some (.dK (kdT (ms.take i))), ⟨_, rfl, Nat.zero_le _, Ex.new hD, upd_same⟩, ?_⟩
  rintro i m H' ⟨rfl, hi, ex, hd⟩
  by_cases lt : i < ms.length
  · refine .inr ⟨⟨L ms, vi (fn ms i), sq ex, L_get lt⟩, fun H2 => i + 1 ≤ ms.length ∧ Ex H1 H2 ∧ H2 Dl = some (.dK (kdT (ms.take (i + 1)))), fun H2 ⟨p1, p2, p3⟩ => ⟨_, by omega, rfl, p1, p2, p3⟩, fun x H2 y => ?_⟩
    obtain ⟨e, y⟩ := y
    subst e
    have hx := y _ (sq ex)
    rw [L_get lt] at hx
    obtain rfl := Option.some.inj hx
    refine ⟨hw _, ?_⟩
    unfold tYes
    dsimp only
    rw [if_pos rfl]
    refine ⟨_, hj _, kdT (ms.take i), .inl (fn ms i : Int), rfl, hd, sz_lt (by rw [kdT_len, List.length_take]; omega), lt, ex.mut hD, ?_⟩
    have q : fn ms i ∉ ms.take i := fun z => by
      obtain ⟨i2, h2, e2⟩ := List.mem_iff_getElem.mp z
      rw [List.length_take] at h2
      rw [List.getElem_take] at e2
      have h3 : ms[i2]? = ms[i]? := by
        rw [fn_get lt, List.getElem?_eq_getElem (by omega), e2]
      have := (List.getElem?_inj (by omega) nd).mp h3
      omega
    rw [upd_same, kdT_put q, List.take_add_one, fn_get lt]
    rfl
  · have e : i = ms.length := by omega
    subst e
    rw [List.take_of_length_le (Nat.le_refl _)] at hd
    exact .inl ⟨⟨L ms, sq ex, by rw [L_len]; exact Nat.le_refl _⟩, k Dl H' (fresh_back e1 hD) (e1.trans ex) hd⟩
theorem piecesL_yes {f : Nat → Nat} {N n : Nat} (h : minB N (Rch f) n = true) : piecesL f N (n + 1) = piecesL f N n ++ [pieceL f N n] := by
  unfold piecesL
  rw [List.range_succ, List.filter_append, List.map_append, List.filter_cons, if_pos h]
  rfl
theorem piecesL_no {f : Nat → Nat} {N n : Nat} (h : ¬ minB N (Rch f) n = true) : piecesL f N (n + 1) = piecesL f N n := by
  unfold piecesL
  rw [List.range_succ, List.filter_append, List.map_append, List.filter_cons, if_neg h]
  exact List.append_nil _
/-- in a piece that was met before n -/
def Met (f : Nat → Nat) (N n y : Nat) : Prop := ∃ m, m < n ∧ minR N (Rch f) m ∧ Rch f m y
theorem q_upd {K : PySem.W.Frag} {σ : L2.St} {H : Hp} {td te : TE} {tz : TS} {D : Ends} {d : Addr} {kvs : List (Key × V)} (hd : Ev td σ H (.ref d)) (h : H d = some (.dK kvs)) (ty : ∀ H4, H4 d = some (.dK kvs) → tyV K "dict" (.ref d) H4)
    (k : ∀ H4, Ex H H4 → te σ H4 (fun v H5 => rUpd (.ref d) [v] H5 (fun _ H6 => tz D σ H6))) : tSeq (tDrop (tBM K "dict" rUpd td (tCons te tNil))) tz D σ H := hd H (Ex.refl H) _ fun H4 e4 => ⟨ty H4 (e4 _ _ h), k H4 e4⟩
def sp_Meshpieces (K : PySem.W.Frag) : Sp := fun vs H Q _ => ∃ (x : Addr) (ns : List Nat), vs = [.ref x] ∧ MeshAt K H x ns ∧ MP ns ∧ ns.length < 64 ∧ ∀ p H', H p = none → Ex H H' → LLn H H' p (piecesL (fn ns) ns.length ns.length) → Q (.ref p) H'
abbrev nm_Meshpieces : List Str := ["self", "found", "seen", "half", "piece", "member"]
abbrev pr_Meshpieces : List Str := ["self"]
def t_Meshpieces (K : PySem.W.Frag) : TS :=
  (tSeq (tAsg (tLst tNil) (gName 1))
  (tSeq (tAsg tDNewK (gName 2))
  (tSeq (tFor (iRng1 (tCons (tCB (cLen K) (tCons (tFld K (tVar 0) "_nexts") tNil)) tNil)) (gName 3) (tIfS (tB (tDNotIn (tVar 3) (tVar 2))) (tSeq (tAsg (tMeth (He.ga K "Mesh") "_piece" (sp_Meshpiece K) [] E0 (tVar 0) (tCons (tVar 3) tNil)) (gName 4))
        (tSeq (tDrop (tBM K "dict" rUpd (tVar 2) (tCons (tDc (iList K (tVar 4)) (gName 5) tYes (tVar 5) (tC (.bl true)) [5]) tNil)))
        (tDrop (tBM K "list" rAppend (tVar 1) (tCons (tVar 4) tNil))))) tNext))
  (tRet (tVar 1)))))
abbrev Wt_Meshpieces (K : PySem.W.Frag) (vs : List V) (H : Hp) (Q : VK) : Prop := t_Meshpieces K { nx := fun _ H' => Q .non H', rt := Q } (start nm_Meshpieces vs) H
theorem ln_Meshpieces {K : PySem.W.Frag} (vs : List V) (H : Hp) (Q : VK) (E : XK) (h : sp_Meshpieces K vs H Q E) : vs.length = pr_Meshpieces.length := by
  obtain ⟨_, _, rfl, _⟩ := h
  rfl
theorem rd_Meshpieces {K : PySem.W.Frag} (F : KF K) (vs : List V) (H : Hp) (Q : VK) (E : XK) (h : sp_Meshpieces K vs H Q E) : Wt_Meshpieces K vs H Q := by
  obtain ⟨x, ns, rfl, hm, hM, h64, k⟩ := h
  show t_Meshpieces K _ [some (.ref x), none, none, none, none, none] H
  have P := pf_fn hM.p
  have two := hM.two
  obtain ⟨dx, l1, l2, l3, q1, q2, q3, q4⟩ := id hm
  refine q_asgL (el_lst ea_nil (Nat.zero_le _)) (fun o H1 ho e1 h1 => ?_)
  refine q_asgD (fun d hd => ?_)
  have hod : o ≠ d := ne_of_none h1 hd
  have hd0 : H d = none := fresh_back e1 hd
  have x1 : Ex H (upd H1 d (.dK [])) := e1.trans (Ex.new hd)
  refine q_forR1 (n := (ns.length : Int)) (ea_1 (ev_is (ev_cb (ea_1 (ev_fld (ev_var rfl) (x1 _ _ q1) F.cl F.n1 (mfs_n _ _ _))) (rc_len (sq_of (x1 _ _ q2)))) (by rw [L_len]))) (by omega) (fun i σ' H' => ∃ (as : List Addr) (kvs : List (Key × V)) (v3 v4 : Option V), σ' = [some (.ref x), some (.ref o), some (.ref d), v3, v4, none] ∧ Ex H H' ∧
    H' o = some (.lst (as.map V.ref)) ∧ LA H' as (piecesL (fn ns) ns.length i) ∧ (∀ a ∈ as, H a = none ∧ a ≠ o ∧ a ≠ d) ∧ H' d = some (.dK kvs) ∧ kvs.length ≤ i * 64 ∧ ∀ h, h < ns.length → ((valV kvs (.inl (h : Int))).isSome = true ↔ Met (fn ns) ns.length i h)) ?_ ?_ ?_
  · intro H2 e2
    refine ⟨[], [], _, _, rfl, x1.trans e2, e2 _ _ (by rw [upd_ne hod]; exact h1), .nil, fun a ha => (nomatch ha), e2 _ _ upd_same, Nat.le_refl _, fun h _ => ⟨fun z => (nomatch z), fun ⟨m, hm, _⟩ => absurd hm (Nat.not_lt_zero _)⟩⟩
  · rintro i σ' H' hi ⟨as, kvs, v3, v4, rfl, ex, a1, a2, a3, a4, a5, a6⟩
    have hi' : i < ns.length := by omega
    refine s_when (et_B (ev_dnin (ev_var rfl) (ev_var rfl) a4)) (fun hb H2 e2 => ?_) (fun hb H2 e2 => ?_)
    · have no : ¬ Met (fn ns) ns.length i i := fun z => by
        rw [(a6 i hi').mpr z] at hb
        cases hb
      have hmin : minR ns.length (Rch (fn ns)) i := by
        obtain ⟨m, m1, m2, m3, _⟩ := piece_min P two hi'
        by_cases c : m = i
        · rw [← c]
          exact m3
        · exact absurd ⟨m, Nat.lt_of_le_of_ne (m3 i hi' m2) c, m3, m2⟩ no
      have x2 := ex.trans e2
      have m2 := hm.ex x2
      refine q_asgL (el_mm m2 (ev_var rfl) (by decide +kernel) (ea_1 (ev_var rfl)) (fun H3 e3 Q2 qq E2 => ⟨x, ns, i, rfl, m2.ex e3, hM, hi', h64, qq⟩)) (fun p H3 hp e3 h3 => ?_)
      have plen : (pieceL (fn ns) ns.length i).length ≤ ns.length := by
        have := List.length_filter_le (relB (Rch (fn ns)) i) (List.range ns.length)
        rw [List.length_range] at this
        exact this
      have d3 := e3 _ _ (e2 _ _ a4)
      have o3 := e3 _ _ (e2 _ _ a1)
      have hpo : p ≠ o := (ne_of_none (e2 _ _ a1) hp).symm
      have hpd : p ≠ d := (ne_of_none (e2 _ _ a4) hp).symm
      refine q_upd (ev_var rfl) d3 (fun H4 h4 => .inr (.inr (.inl ⟨rfl, .inl ⟨_, h4⟩⟩))) (fun H4 e4 => ?_)
      refine dc_true (ms := pieceL (fn ns) ns.length i) (ev_var rfl) (sq_of (e4 _ _ h3)) (piece_nodup _ _ _) (by omega) (fun _ => rfl) (fun _ => rfl) (fun D H5 hD e5 h5 => ?_)
      have d5 := e5 _ _ (e4 _ _ d3)
      have o5 := e5 _ _ (e4 _ _ o3)
      have p5 := e5 _ _ (e4 _ _ h3)
      have hdD : d ≠ D := ne_of_none (e4 _ _ d3) hD
      have x5 := (x2.trans e3).trans (e4.trans e5)
      have k64 : kvs.length ≤ 64 * 64 := Nat.le_trans a5 (Nat.mul_le_mul_right 64 (by omega))
      refine ⟨d, D, kvs, _, rfl, rfl, hdD, d5, h5, by rw [kdT_len]; omega, ?_⟩
      have o6 : (upd H5 d (.dK (mergeK kvs (kdT (pieceL (fn ns) ns.length i))))) o = some (.lst (as.map V.ref)) := by
        rw [upd_ne hod]
        exact o5
      refine s_app o6 (ev_var rfl) (ev_var rfl) (by rw [List.length_map, Paired.length a2]; have := List.length_filter_le (minB ns.length (Rch (fn ns))) (List.range i); rw [List.length_range] at this; unfold piecesL; rw [List.length_map]; omega) (fun H7 e7 => ?_)
      have x7 : Ex H H7 := ((x5.mut hd0)).trans e7
      have hp0 : H p = none := fresh_back x2 hp
      refine ⟨as ++ [p], _, _, _, rfl, x7.mut ho, by rw [upd_same, List.map_append]; rfl, ?_, ?_, by rw [upd_ne hod.symm]; exact e7 _ _ upd_same, ?_, ?_⟩
      · rw [piecesL_yes (minB_iff.mpr hmin)]
        refine paired_snoc ?_ ?_
        · have l5 : LA H5 as (piecesL (fn ns) ns.length i) := LA.ex a2 ((e2.trans e3).trans (e4.trans e5))
          refine LA.upd (LA.ex (LA.upd l5 (fun a ha => (a3 a ha).2.2)) e7) (fun a ha => (a3 a ha).2.1)
        · show (upd H7 o _) p = _
          rw [upd_ne hpo]
          refine e7 _ _ ?_
          rw [upd_ne hpd]
          exact p5
      · intro a ha
        rcases List.mem_append.mp ha with ha | ha
        · exact a3 a ha
        · rw [List.mem_singleton.mp ha]
          exact ⟨hp0, hpo, hpd⟩
      · have q := length_mergeK (kdT (pieceL (fn ns) ns.length i)) kvs
        rw [kdT_len] at q
        have : (i + 1) * 64 = i * 64 + 64 := Nat.succ_mul i 64
        omega
      · intro h hh
        rw [mem_fold, any_kdT, Bool.or_eq_true, a6 h hh, decide_eq_true_iff, mem_piece]
        constructor
        · rintro (⟨m, c1, c2, c3⟩ | ⟨_, c⟩)
          · exact ⟨m, by omega, c2, c3⟩
          · exact ⟨i, Nat.lt_succ_self i, hmin, c⟩
        · rintro ⟨m, c1, c2, c3⟩
          by_cases c : m = i
          · rw [c] at c3
            exact .inr ⟨hh, c3⟩
          · exact .inl ⟨m, by omega, c2, c3⟩
    · have hmet : Met (fn ns) ns.length i i := (a6 i hi').mp (by
        cases c : (valV kvs (.inl (i : Int))).isSome with
        | true => rfl
        | false =>
          rw [c] at hb
          cases hb)
      have nmin : ¬ minB ns.length (Rch (fn ns)) i = true := fun z => by
        obtain ⟨m, c1, c2, c3⟩ := hmet
        have := minB_iff.mp z m (by omega) (rch_symm P two (by omega) c3)
        omega
      refine ⟨as, kvs, _, _, rfl, ex.trans e2, e2 _ _ a1, ?_, a3, e2 _ _ a4, by have : (i + 1) * 64 = i * 64 + 64 := Nat.succ_mul i 64; omega, fun h hh => ?_⟩
      · rw [piecesL_no nmin]
        exact LA.ex a2 e2
      · rw [a6 h hh]
        constructor
        · rintro ⟨m, c1, c2, c3⟩
          exact ⟨m, by omega, c2, c3⟩
        · rintro ⟨m, c1, c2, c3⟩
          by_cases c : m = i
          · rw [c] at c2
            exact absurd (minB_iff.mpr c2) nmin
          · exact ⟨m, by omega, c2, c3⟩
  · rintro σ' H' ⟨as, kvs, v3, v4, rfl, ex, a1, a2, a3, a4, a5, a6⟩
    exact s_ret (ev_var rfl) (fun H2 e2 => k o H2 ho (ex.trans e2) ⟨as, e2 _ _ a1, LA.ex a2 e2, fun a ha => ⟨(a3 a ha).1, (a3 a ha).2.1⟩⟩)
end Hm
namespace Hm
open PySem PySem.Spec PyProof.Rows L2 Evl
section
variable {K : PySem.W.Frag} {σ : L2.St} {H : Hp} {ta tb te : TE} {D : Ends} {tz : TS} {v : V}
/-- f(..).append(e), on a new list -/
theorem s_appN {xs : List V} (ha : EvL ta σ H xs) (h : ∀ H1, Ex H H1 → Ev te σ H1 v) (hz : xs.length < 100000) (k : ∀ p H1, H p = none → Ex H H1 → D.nx σ (upd H1 p (.lst (xs ++ [v])))) :
    tDrop (tBM K "list" rAppend ta (tCons te tNil)) D σ H := ha H (Ex.refl H) _ fun p H1 hp e1 h1 =>
  ⟨Or.inl ⟨rfl, xs, sq_of h1⟩, h H1 e1 H1 (Ex.refl H1) _ fun H2 e2 => ⟨p, xs, v, rfl, rfl, e2 _ _ h1, sz_lt hz, k p H2 hp (e1.trans e2)⟩⟩
/-- f(..) as a statement -/
theorem q_dropC {sp : Sp} {E : XK} {ta : TA} {vs : List V} (h : EvA ta σ H vs) (k : ∀ H1, Ex H H1 → sp vs H1 (fun _ H2 => tz D σ H2) E) : tSeq (tDrop (tCall sp [] E ta)) tz D σ H :=
  h H (Ex.refl H) _ fun H1 e => by
    show sp (vs ++ []) H1 _ E
    rw [List.append_nil]
    exact k H1 e
end
theorem LA.items {H : Hp} {as : List Addr} {xss : List (List Nat)} (h : LA H as xss) : ∀ a ∈ as, ∃ xs ∈ xss, H a = some (.lst (L xs)) := by
  induction h with
  | nil => intro a ha; cases ha
  | cons r t ih =>
    intro a ha
    rcases List.mem_cons.mp ha with rfl | ha
    · exact ⟨_, List.mem_cons_self .., r⟩
    · obtain ⟨xs, m, q⟩ := ih a ha
      exact ⟨xs, List.mem_cons_of_mem _ m, q⟩
theorem cyc_item {ns : List Nat} (hM : MP ns) {b : Bool} {xs : List Nat} (h : xs ∈ cyc ns b) : xs.length ≤ 1000 := by
  obtain ⟨x, hx, rfl⟩ := List.mem_map.mp h
  have hx := List.mem_range.mp (List.mem_filter.mp hx).1
  rw [rnd_length]
  have := (per_spec (pf_stp hM.p hM.two b) hx).2.1
  have := hM.len
  omega
theorem cyc_len {ns : List Nat} (hM : MP ns) (b : Bool) : (cyc ns b).length ≤ 1000 := by
  have := cycs_len (stp ns b) ns.length ns.length
  have := hM.len
  unfold cyc
  omega
end Hm
namespace Hm
open PySem PySem.Spec PyProof.Rows L2 Evl
theorem pfl {ns : List Nat} (h : IsP ns) : ∀ x, x < ns.length → fn ns x < ns.length := fun x hx => (pf_fn h).lt x hx
theorem Od.out {N : Nat} {o : List Nat} (h : Od N o) {x : Nat} (q : x ∉ o) : tw x ∉ o := fun z => q (by have := h.tm _ z; rwa [tw_tw] at this)
/-- what is met behind the halves hs of a mesh -/
abbrev ordM (ns hs : List Nat) : List Nat := ordE (fn ns) ns.length hs
def sp_numbered (K : PySem.W.Frag) : Sp := fun vs H Q _ => ∃ (x p : Addr) (ns hs : List Nat), vs = [.ref x, .ref p] ∧ MeshAt K H x ns ∧ MP ns ∧ SqL K H p (L hs) ∧ (∀ h ∈ hs, h < ns.length) ∧ hs.length ≤ 1000 ∧
  ∀ T y q H', H T = none → H y = none → H q = none → Ex H H' → H' T = some (.tup [.ref y, .ref q]) → MeshN K H H' y (newN (fn ns) (ordM ns hs)) → H' q = some (.lst (L (newH (ordM ns hs) hs))) → Q (.ref T) H'
abbrev nm_numbered : List Str := ["mesh", "halves", "order", "numbers", "done", "half", "nexts"]
abbrev pr_numbered : List Str := ["mesh", "halves"]
def t_numbered (K : PySem.W.Frag) : TS :=
  (tSeq (tAsg (tLst tNil) (gName 2))
  (tSeq (tAsg tDNewK (gName 3))
  (tSeq (tAsg (tC (.int 0)) (gName 4))
  (tSeq (tFor (iList K (tVar 1)) (gName 5) (tSeq (tDrop (tCall (sp_addedge K) [] E0 (tCons (tVar 0) (tCons (tVar 5) (tCons (tVar 2) (tCons (tVar 3) tNil))))))
      (tWhile (tTest (tOp zLt (tVar 4) (tCB (cLen K) (tCons (tVar 2) tNil)))) (tSeq (tDrop (tCall (sp_addedge K) [] E0 (tCons (tVar 0) (tCons (tMeth (He.ga K "Mesh") "after" (sp_Meshafter K) [] E0 (tVar 0) (tCons (tOp (rIxL K) (tVar 2) (tVar 4)) tNil)) (tCons (tVar 2) (tCons (tVar 3) tNil))))))
        (tAug 4 (tC (.int 1)) (ipI fun i j => i + j))))))
  (tSeq (tAsg (tLc (iList K (tVar 2)) (gName 5) tYes (tDGet (tVar 3) (tMeth (He.ga K "Mesh") "after" (sp_Meshafter K) [] E0 (tVar 0) (tCons (tVar 5) tNil))) [5]) (gName 6))
  (tRet (tTup (tCons (tMake (He.ga K "Mesh") (sp_Meshinit K) [] E0 (tCons (tVar 6) tNil)) (tCons (tLc (iList K (tVar 1)) (gName 5) tYes (tDGet (tVar 3) (tVar 5)) [5]) tNil)))))))))
abbrev Wt_numbered (K : PySem.W.Frag) (vs : List V) (H : Hp) (Q : VK) : Prop := t_numbered K { nx := fun _ H' => Q .non H', rt := Q } (start nm_numbered vs) H
theorem ln_numbered {K : PySem.W.Frag} (vs : List V) (H : Hp) (Q : VK) (E : XK) (h : sp_numbered K vs H Q E) : vs.length = pr_numbered.length := by
  obtain ⟨_, _, _, _, rfl, _⟩ := h
  rfl
theorem rd_numbered {K : PySem.W.Frag} (F : KF K) (vs : List V) (H : Hp) (Q : VK) (E : XK) (h : sp_numbered K vs H Q E) : Wt_numbered K vs H Q := by
  obtain ⟨x, p, ns, hs, rfl, hm, hM, hp, hl, hz, k⟩ := h
  show t_numbered K _ [some (.ref x), some (.ref p), none, none, none, none, none] H
  have P := pfl hM.p
  have two := hM.two
  have nl := hM.len
  refine q_asgL (el_lst ea_nil (Nat.zero_le _)) (fun o H1 ho e1 h1 => ?_)
  refine q_asgD (fun d hd => ?_)
  have x1 : Ex H (upd H1 d (.dK [])) := e1.trans (Ex.new hd)
  have hd0 : H d = none := fresh_back e1 hd
  have hod : o ≠ d := ne_of_none h1 hd
  have o1 : (upd H1 d (.dK [])) o = some (.lst (L [])) := by
    rw [upd_ne hod]
    exact h1
  refine q_asg ev_c (fun H2 e2 => ?_)
  have ocI : ∀ i, Oc (fn ns) ns.length (ordM ns (hs.take i)) := fun i => ordE_oc P two _ (fun h hh => hl h (List.mem_of_mem_take hh))
  refine q_forLn (ev_var rfl) (ex_l (x1.trans e2) hp) (fun i σ' H' => ∃ (v5 : Option V) (kvs : List (Key × V)), σ' = [some (.ref x), some (.ref p), some (.ref o), some (.ref d), some (vi (ordM ns (hs.take i)).length), v5, none] ∧ Ex H H' ∧
    H' o = some (.lst (L (ordM ns (hs.take i)))) ∧ H' d = some (.dK kvs) ∧ DkE kvs (ordM ns (hs.take i))) ?_ ?_ ?_ ?_
  · intro H3 e3
    exact ⟨_, [], rfl, x1.trans (e2.trans e3), e3 _ _ (e2 _ _ o1), e3 _ _ (e2 _ _ upd_same), dkE_nil⟩
  · rintro i σ' H' _ ⟨_, _, _, ex, _⟩
    exact ex_l ex hp
  · rintro i y σ' H' hy ⟨v5, kvs, rfl, ex, g1, g2, g3⟩
    obtain ⟨hi, rfl⟩ := L_item hy
    have hy' : fn hs i < ns.length := hl _ (fn_mem hi)
    have oc := ocI i
    have ole := oc.od.le
    have e' : ordM ns (hs.take (i + 1)) = goE (fn ns) ns.length 0 (addE (ordM ns (hs.take i)) (fn hs i)) := by
      have : hs.take (i + 1) = hs.take i ++ [fn hs i] := by
        rw [List.take_add_one, fn_get hi]
        rfl
      rw [this]
      exact ordE_snoc _ _
    refine q_dropC (ea_cons (ev_var rfl) (ea_cons (ev_var rfl) (ea_2 (ev_var rfl) (ev_var rfl)))) (fun H3 e3 => ?_)
    refine ⟨x, o, d, fn hs i, ns, _, kvs, rfl, hm.ex (ex.trans e3), e3 _ _ g1, e3 _ _ g2, g3, oc.od.out, by omega, fun H4 kvs4 a1 a2 a3 a4 => ?_⟩
    have x4 : Ex H H4 := a4.ex (ex.trans e3) ho hd0
    have od4 := oc.od.add two hy'
    refine s_while (fun m σ' H' => ∃ (dn : Nat) (cur : List Nat) (kvs : List (Key × V)), m = ns.length - dn ∧ dn ≤ cur.length ∧ Od ns.length cur ∧ goE (fn ns) (ns.length - dn) dn cur = ordM ns (hs.take (i + 1)) ∧
      σ' = [some (.ref x), some (.ref p), some (.ref o), some (.ref d), some (vi dn), some (vi (fn hs i)), none] ∧ Ex H H' ∧ H' o = some (.lst (L cur)) ∧ H' d = some (.dK kvs) ∧ DkE kvs cur) _ ⟨(ordM ns (hs.take i)).length, _, kvs4, rfl, addE_len _ _, od4, ?_, rfl, x4, a1, a2, a3⟩ ?_
    · rw [e']
      have q := goE_skips (f := fn ns) (o := addE (ordM ns (hs.take i)) (fn hs i)) (d := (ordM ns (hs.take i)).length) (ns.length - (ordM ns (hs.take i)).length) 0 (by have := addE_len (ordM ns (hs.take i)) (fn hs i); omega) (fun j hj hk => by
        have hj2 : j < (ordM ns (hs.take i)).length := by omega
        have e : (addE (ordM ns (hs.take i)) (fn hs i))[j] = (ordM ns (hs.take i))[j] := by
          have := addE_get (h := fn hs i) hj2
          rw [List.getElem?_eq_getElem hj, List.getElem?_eq_getElem hj2] at this
          exact Option.some.inj this
        rw [e]
        exact addE_sub _ _ _ (oc.cl _ (List.getElem_mem hj2)))
      rw [Nat.sub_add_cancel ole, Nat.zero_add] at q
      exact q.symm
    · rintro m σ' H5 ⟨dn, cur, kvs5, rfl, hdn, od5, hgo, rfl, x5, b1, b2, b3⟩
      have cle := od5.le
      refine ⟨decide ((dn : Int) < (cur.length : Int)), et_test (ev_op (ev_var rfl) (ev_is (ev_cb (ea_1 (ev_var rfl)) (rc_len (sq_of b1))) (by rw [L_len])) rv_I0), fun hb H6 e6 => ?_, fun hb H6 e6 => ?_⟩
      · have hlt : dn < cur.length := by
          have := of_decide_eq_true hb
          omega
        refine ⟨_, fun σ2 H2 hw => hw, ?_⟩
        have hc : fn cur dn < ns.length := od5.lt _ (fn_mem hlt)
        have m6 := hm.ex (x5.trans e6)
        refine q_dropC (ea_cons (ev_var rfl) (ea_cons (ev_mm m6 (ev_var rfl) (by decide +kernel) (ea_1 (ev_op (ev_var rfl) (ev_var rfl) (rv_ixL (sq_of (e6 _ _ b1)) (L_at hlt)))) (spv_Meshafter m6 hc)) (ea_2 (ev_var rfl) (ev_var rfl)))) (fun H7 e7 => ?_)
        refine ⟨x, o, d, fn ns (fn cur dn), ns, cur, kvs5, rfl, m6.ex e7, e7 _ _ (e6 _ _ b1), e7 _ _ (e6 _ _ b2), b3, od5.out, by omega, fun H8 kvs8 c1 c2 c3 c4 => ?_⟩
        refine s_aug (f := fun i j => i + j) (a := (dn : Int)) (b := 1) rfl ev_c (fun H9 e9 => ?_)
        refine ⟨ns.length - (dn + 1), by omega, dn + 1, _, kvs8, rfl, by have := addE_len cur (fn ns (fn cur dn)); omega, od5.add two (P _ hc), ?_, ?_, (c4.ex ((x5.trans e6).trans e7) ho hd0).trans e9, e9 _ _ c1, e9 _ _ c2, c3⟩
        · rw [← hgo]
          have e1 : ns.length - dn = (ns.length - (dn + 1)) + 1 := by omega
          have e2 : fn cur dn = cur[dn] := by
            have := fn_get hlt
            rw [List.getElem?_eq_getElem hlt] at this
            exact (Option.some.inj this).symm
          rw [e1, goE_step hlt, e2]
        · have : ((dn : Int) + 1) = ((dn + 1 : Nat) : Int) := by omega
          show [some (V.ref x), some (.ref p), some (.ref o), some (.ref d), some (.int ((dn : Int) + 1)), some (vi (fn hs i)), none] = _
          rw [this]
      · have hge : cur.length ≤ dn := by
          have := of_decide_eq_false hb
          omega
        rw [goE_stop (by omega)] at hgo
        have edn : dn = cur.length := by omega
        rw [hgo] at b1 b3 edn
        subst edn
        exact ⟨_, kvs5, rfl, x5.trans e6, e6 _ _ b1, e6 _ _ b2, b3⟩
  · rintro σ' H3 ⟨v5, kvs, rfl, x3, g1, g2, g3⟩
    rw [L_len, List.take_of_length_le (Nat.le_refl _)] at *
    have oc : Oc (fn ns) ns.length (ordM ns hs) := ordE_oc P two hs hl
    have ole := oc.od.le
    have hmem : ∀ h ∈ hs, h ∈ ordM ns hs := fun h hh => ordE_mem hs hh
    generalize hO : ordM ns hs = O at *
    have m3 := hm.ex x3
    have hcomp : EvL (tLc (iList K (tVar 2)) (gName 5) tYes (tDGet (tVar 3) (tMeth (He.ga K "Mesh") "after" (sp_Meshafter K) [] E0 (tVar 0) (tCons (tVar 5) tNil))) [5]) [some (.ref x), some (.ref p), some (.ref o), some (.ref d), some (vi O.length), v5, none] H3 (L (newN (fn ns) O)) := by
      have q := el_lcL (K := K) (σ := [some (.ref x), some (.ref p), some (.ref o), some (.ref d), some (vi O.length), v5, none]) (H := H3) (j := 5) (vs := [5]) (tl := tVar 2) (t := tYes) (te := tDGet (tVar 3) (tMeth (He.ga K "Mesh") "after" (sp_Meshafter K) [] E0 (tVar 0) (tCons (tVar 5) tNil))) (fun _ => true) (fun i => vi (O.idxOf (fn ns (fn O i)))) (ev_var rfl) (sq_of g1) (by rw [L_len]; omega) (fun _ => rfl) (fun i y H1 _ _ => et_yes) (fun i y H4 e4 hy _ => by
        obtain ⟨hi, rfl⟩ := L_item hy
        have hc := fn_mem hi
        refine ev_dget (ev_var rfl) (ev_mm (m3.ex e4) (ev_var rfl) (by decide +kernel) (ea_1 (ev_var rfl)) (spv_Meshafter (m3.ex e4) (oc.od.lt _ hc))) (e4 _ _ g2) ?_
        rw [g3.2, if_pos (oc.cl _ hc)])
      rw [given_all, L_len] at q
      rw [newN_eq]
      unfold L
      rw [List.map_map]
      exact q
    refine q_asgL hcomp (fun w H4 hw e4 h4 => ?_)
    have x4 := x3.trans e4
    have MN : MP (newN (fn ns) O) := ⟨isP_newN (pf_fn hM.p) oc, by rw [newN_len]; exact oc.od.ev, by rw [newN_len]; omega⟩
    refine s_retTup2 (mk_mesh (ev_var rfl) (sq_of h4) MN (fun y H5 hy m5 e5 => ?_))
    have x5 := x4.trans e5
    have hcomp2 : EvL (tLc (iList K (tVar 1)) (gName 5) tYes (tDGet (tVar 3) (tVar 5)) [5]) [some (.ref x), some (.ref p), some (.ref o), some (.ref d), some (vi O.length), v5, some (.ref w)] H5 (L (newH O hs)) := by
      have q := el_lcL (K := K) (σ := [some (.ref x), some (.ref p), some (.ref o), some (.ref d), some (vi O.length), v5, some (.ref w)]) (H := H5) (j := 5) (vs := [5]) (tl := tVar 1) (t := tYes) (te := tDGet (tVar 3) (tVar 5)) (fun _ => true) (fun i => vi (O.idxOf (fn hs i))) (ev_var rfl) (ex_l x5 hp) (by rw [L_len]; omega) (fun _ => rfl) (fun i y H1 _ _ => et_yes) (fun i y H6 e6 hy _ => by
        obtain ⟨hi, rfl⟩ := L_item hy
        refine ev_dget (ev_var rfl) (ev_var rfl) (e6 _ _ (e5 _ _ (e4 _ _ g2))) ?_
        rw [g3.2, if_pos (hmem _ (fn_mem hi))])
      rw [given_all, L_len] at q
      have e : (List.range hs.length).map (fun i => vi (O.idxOf (fn hs i))) = L (newH O hs) := by
        refine List.ext_getElem? fun j => ?_
        by_cases hj : j < hs.length
        · rw [List.getElem?_map, List.getElem?_range hj]
          unfold L newH
          rw [List.getElem?_map, List.getElem?_map, fn_get hj]
          rfl
        · rw [List.getElem?_eq_none (by rw [List.length_map, List.length_range]; omega), List.getElem?_eq_none (by unfold newH; rw [L_len, List.length_map]; omega)]
      rw [e] at q
      exact q
    refine hcomp2 H5 (Ex.refl H5) _ (fun q H6 hq e6 h6 => ⟨by show 2 ≤ sizeLine; decide, fun T hT => ?_⟩)
    have x6 := x5.trans e6
    exact k T y q _ (fresh_back x6 hT) (fresh_back x4 hy) (fresh_back x5 hq) (x6.trans (Ex.new hT)) upd_same ((m5.ex (e6.trans (Ex.new hT))).back x4) ((Ex.new hT) _ _ h6)
end Hm
namespace Hm
open PySem PySem.Spec PyProof.Rows L2 Evl
/-! ### the law's pieces -/
theorem rc_min3 {H : Hp} {a b c : Nat} : RC (rNuC3 nuMin3) [vi a, vi b, vi c] H (vi (min (min a b) c)) := fun H1 e Q q => by
  have two : ∀ x y : Nat, nuMin2 (vi x) (vi y) = some (vi (min x y)) := fun x y => by
    show some (if decide ((y : Int) < (x : Int)) = true then vi y else vi x) = _
    by_cases h : y < x
    · rw [if_pos (decide_eq_true (by omega)), Nat.min_eq_right (by omega)]
    · rw [if_neg (by rw [decide_eq_false (by omega)]; exact Bool.false_ne_true), Nat.min_eq_left (by omega)]
  refine ⟨vi a, vi b, vi c, vi (min (min a b) c), rfl, ?_, q H1 (Ex.refl H1)⟩
  unfold nuMin3
  rw [two a b]
  exact two _ c
/-- a list of N marks -/
def mkL (M : Nat → Nat) (N : Nat) : List Nat := (List.range N).map M
theorem mkL_len (M : Nat → Nat) (N : Nat) : (mkL M N).length = N := by unfold mkL; rw [List.length_map, List.length_range]
theorem fn_mkL {M : Nat → Nat} {N x : Nat} (h : x < N) : fn (mkL M N) x = M x := fn_at (by unfold mkL; rw [List.getElem?_map, List.getElem?_range h]; rfl)
theorem mkL_put {f M : Nat → Nat} {N k : Nat} (hk : k < N) (hf : f k < N) (ht : tw k < N) : (((mkL M N).set k (lowM f M k)).set (f k) (lowM f M k)).set (tw k) (lowM f M k) = mkL (putM f M k) N := by
  refine List.ext_getElem? fun x => ?_
  by_cases hx : x < N
  · unfold mkL
    rw [List.getElem?_map (l := List.range N) (f := putM f M k), List.getElem?_range hx]
    show _ = some (putM f M k x)
    unfold putM
    by_cases h3 : x = tw k
    · subst h3
      rw [List.getElem?_set_self (by simp; omega), if_pos (.inr (.inr rfl))]
    · rw [List.getElem?_set_ne (Ne.symm h3)]
      by_cases h2 : x = f k
      · subst h2
        rw [List.getElem?_set_self (by simp; omega), if_pos (.inr (.inl rfl))]
      · rw [List.getElem?_set_ne (Ne.symm h2)]
        by_cases h1 : x = k
        · subst h1
          rw [List.getElem?_set_self (by simp; omega), if_pos (.inl rfl)]
        · rw [List.getElem?_set_ne (Ne.symm h1), if_neg (by rintro (h | h | h) <;> contradiction), List.getElem?_map, List.getElem?_range hx]
          rfl
  · rw [List.getElem?_eq_none (by simp only [List.length_set]; rw [mkL_len]; omega), List.getElem?_eq_none (by rw [mkL_len]; omega)]
theorem piecesL_map (f : Nat → Nat) (N : Nat) : piecesL f N N = ((List.range N).filter (minB N (Rch f))).map (pieceL f N) := rfl
/-- [.. a new list for each x ..] -/
theorem ell_lc {K : PySem.W.Frag} {σ : L2.St} {H : Hp} {tl te : TE} {j : Nat} {a : Addr} {ms : List Nat} {xss : List (List Nat)} (h : Ev tl σ H (.ref a)) (hS : SqL K H a (L ms)) (hl : xss.length = ms.length) (hz : ms.length ≤ 10000) (hw : ∀ x, wipe ((wipe σ [j]).set j (some x)) [j] = wipe σ [j])
    (he : ∀ i H1, Ex H H1 → (hi : i < ms.length) → EvL te ((wipe σ [j]).set j (some (vi (fn ms i)))) H1 (L (xss.getD i []))) : EvLL (tLc (iList K tl) (gName j) tYes te [j]) σ H xss := fun H0 e0 Q q => h H0 e0 _ fun H1 e1 => by
  have e01 := e0.trans e1
  refine ⟨a, rfl, ⟨_, ex_l e01 hS⟩, fun Dl hD => ?_⟩
  have sq : ∀ {H' : Hp}, Ex H1 H' → SqL K H' a (L ms) := fun e => ex_l (e01.trans e) hS
  refine ⟨fun i m H' => m = ms.length - i ∧ i ≤ ms.length ∧ Ex H1 H' ∧ ∃ as : List Addr, H' Dl = some (.lst (as.map V.ref)) ∧ LA H' as (xss.take i) ∧ ∀ a ∈ as, H1 a = none ∧ a ≠ Dl, ⟨_, rfl, Nat.zero_le _, Ex.new hD, [], upd_same, .nil, fun a ha => (nomatch ha)⟩, ?_⟩
  rintro i m H' ⟨rfl, hi, ex, as, d1, d2, d3⟩
  by_cases lt : i < ms.length
  · refine .inr ⟨⟨L ms, vi (fn ms i), sq ex, L_get lt⟩, fun H2 => i + 1 ≤ ms.length ∧ Ex H1 H2 ∧ ∃ as : List Addr, H2 Dl = some (.lst (as.map V.ref)) ∧ LA H2 as (xss.take (i + 1)) ∧ ∀ a ∈ as, H1 a = none ∧ a ≠ Dl, fun H2 ⟨p1, p2, p3⟩ => ⟨_, by omega, rfl, p1, p2, p3⟩, fun x H2 y => ?_⟩
    obtain ⟨e, y⟩ := y
    subst e
    have hx := y _ (sq ex)
    rw [L_get lt] at hx
    obtain rfl := Option.some.inj hx
    refine ⟨hw _, ?_⟩
    unfold tYes
    dsimp only
    rw [if_pos rfl]
    refine he i H2 (e01.trans ex) lt H2 (Ex.refl H2) _ (fun p H3 hp e3 h3 => ?_)
    have al : as.length = (xss.take i).length := Paired.length d2
    rw [List.length_take] at al
    have hpD : p ≠ Dl := (ne_of_none d1 hp).symm
    refine ⟨as.map V.ref, e3 _ _ d1, sz_lt (by rw [List.length_map]; omega), lt, Ex.mut (ex.trans e3) hD, as ++ [p], by rw [upd_same, List.map_append]; rfl, ?_, fun b hb => ?_⟩
    · have ht : xss.take (i + 1) = xss.take i ++ [xss.getD i []] := by
        rw [List.take_add_one, List.getD_eq_getElem?_getD, List.getElem?_eq_getElem (by omega)]
        rfl
      rw [ht]
      refine paired_snoc (LA.upd (LA.ex d2 e3) (fun b hb => (d3 b hb).2)) ?_
      rw [upd_ne hpD]
      exact h3
    · rcases List.mem_append.mp hb with hb | hb
      · exact d3 b hb
      · rw [List.mem_singleton.mp hb]
        exact ⟨fresh_back ex hp, hpD⟩
  · have e : i = ms.length := by omega
    subst e
    rw [List.take_of_length_le (by omega)] at d2
    exact .inl ⟨⟨L ms, sq ex, by rw [L_len]; exact Nat.le_refl _⟩, q Dl H' (fresh_back e1 hD) (e1.trans ex) ⟨as, d1, d2, fun b hb => ⟨fresh_back e1 (d3 b hb).1, (d3 b hb).2⟩⟩⟩
def sp_Lpieces (K : PySem.W.Frag) : Sp := fun vs H Q _ => ∃ (a : Addr) (ns : List Nat), vs = [.ref a] ∧ SqL K H a (L ns) ∧ MP ns ∧ ∀ p H', H p = none → Ex H H' → LLn H H' p (piecesL (fn ns) ns.length ns.length) → Q (.ref p) H'
abbrev nm_Lpieces : List Str := ["_law_nexts_here", "_law_k", "_law_marks", "_law_turn", "_law_lowest", "_law_firsts", "_law_first"]
abbrev pr_Lpieces : List Str := ["_law_nexts_here"]
def t_Lpieces (K : PySem.W.Frag) : TS :=
  (tSeq (tAsg (tLc (iRng1 (tCons (tCB (cLen K) (tCons (tVar 0) tNil)) tNil)) (gName 1) tYes (tVar 1) [1]) (gName 2))
  (tSeq (tFor (iRng1 (tCons (tCB (cLen K) (tCons (tVar 0) tNil)) tNil)) (gName 3) (tFor (iRng1 (tCons (tCB (cLen K) (tCons (tVar 0) tNil)) tNil)) (gName 1) (tSeq (tAsg (tCB (rNuC3 nuMin3) (tCons (tOp (rIxL K) (tVar 2) (tVar 1)) (tCons (tOp (rIxL K) (tVar 2) (tOp (rIxL K) (tVar 0) (tVar 1))) (tCons (tOp (rIxL K) (tVar 2) (tCall (sp_Ltwin K) [] E0 (tCons (tVar 1) tNil))) tNil)))) (gName 4))
        (tSeq (tAsg (tVar 4) (gSub (tVar 2) (tVar 1) rSetL))
        (tSeq (tAsg (tVar 4) (gSub (tVar 2) (tOp (rIxL K) (tVar 0) (tVar 1)) rSetL))
        (tAsg (tVar 4) (gSub (tVar 2) (tCall (sp_Ltwin K) [] E0 (tCons (tVar 1) tNil)) rSetL)))))))
  (tSeq (tAsg (tLc (iRng1 (tCons (tCB (cLen K) (tCons (tVar 0) tNil)) tNil)) (gName 1) (tTest (tOp rEq (tOp (rIxL K) (tVar 2) (tVar 1)) (tVar 1))) (tVar 1) [1]) (gName 5))
  (tRet (tLc (iList K (tVar 5)) (gName 6) tYes (tLc (iRng1 (tCons (tCB (cLen K) (tCons (tVar 0) tNil)) tNil)) (gName 1) (tTest (tOp rEq (tOp (rIxL K) (tVar 2) (tVar 1)) (tVar 6))) (tVar 1) [1]) [6])))))
abbrev Wt_Lpieces (K : PySem.W.Frag) (vs : List V) (H : Hp) (Q : VK) : Prop := t_Lpieces K { nx := fun _ H' => Q .non H', rt := Q } (start nm_Lpieces vs) H
theorem ln_Lpieces {K : PySem.W.Frag} (vs : List V) (H : Hp) (Q : VK) (E : XK) (h : sp_Lpieces K vs H Q E) : vs.length = pr_Lpieces.length := by
  obtain ⟨_, _, rfl, _⟩ := h
  rfl
theorem rd_Lpieces {K : PySem.W.Frag} (F : KF K) (vs : List V) (H : Hp) (Q : VK) (E : XK) (h : sp_Lpieces K vs H Q E) : Wt_Lpieces K vs H Q := by
  obtain ⟨a, ns, rfl, hS, hM, k⟩ := h
  show t_Lpieces K _ [some (.ref a), none, none, none, none, none, none] H
  have P := pf_fn hM.p
  have two := hM.two
  have nl := hM.len
  have hn : ∀ {σ : L2.St} {H1 : Hp}, σ[0]? = some (some (V.ref a)) → Ex H H1 → EvA (tCons (tCB (cLen K) (tCons (tVar 0) tNil)) tNil) σ H1 [.int (ns.length : Int)] := fun s0 e => ea_1 (ev_is (ev_cb (ea_1 (ev_var s0)) (rc_len (ex_l e hS))) (by rw [L_len]))
  have hr : (List.range ns.length).map (fun i => vi i) = L (mkL (fun x => x) ns.length) := by
    unfold mkL L
    rw [List.map_map]
    rfl
  have q0 := el_lcR1 (σ := [some (.ref a), none, none, none, none, none, none]) (H := H) (j := 1) (vs := [1]) (t := tYes) (te := tVar 1) (fun _ => true) (fun i => vi i) (hn rfl (Ex.refl H)) (by omega) (fun _ => rfl) (fun i H1 _ _ => et_yes) (fun i H1 _ _ _ => ev_var rfl)
  rw [given_all, Int.toNat_natCast, hr] at q0
  refine q_asgL q0 (fun m H1 hm e1 h1 => ?_)
  refine q_forR1 (n := (ns.length : Int)) (hn rfl e1) (by omega) (fun t σ' H' => ∃ v1 v3 v4, σ' = [some (.ref a), v1, some (.ref m), v3, v4, none, none] ∧ Ex H H' ∧ H' m = some (.lst (L (mkL (marksM (fn ns) ns.length t) ns.length)))) (fun H2 e2 => ⟨_, _, _, rfl, e1.trans e2, e2 _ _ h1⟩) ?_ ?_
  · rintro t σ' H2 ht ⟨v1, v3, v4, rfl, x2, g⟩
    refine s_forR1 (n := (ns.length : Int)) (hn rfl x2) (by omega) (fun kk σ' H' => ∃ v1 v4, σ' = [some (.ref a), v1, some (.ref m), some (vi t), v4, none, none] ∧ Ex H H' ∧ H' m = some (.lst (L (mkL (sweepM (fn ns) (marksM (fn ns) ns.length t) kk) ns.length)))) (fun H3 e3 => ⟨_, _, rfl, x2.trans e3, e3 _ _ g⟩) ?_ ?_
    · rintro kk σ' H3 hk ⟨w1, w4, rfl, x3, g3⟩
      have hk' : kk < ns.length := by omega
      have hf := P.lt kk hk'
      have ht' := tw_lt two hk'
      generalize hMM : sweepM (fn ns) (marksM (fn ns) ns.length t) kk = M at g3
      have at_ : ∀ {z : Nat}, z < ns.length → atI (L (mkL M ns.length)) (z : Int) = some (vi (M z)) := fun {z} hz => by
        rw [← fn_mkL (M := M) hz]
        exact L_at (by rw [mkL_len]; exact hz)
      have nx : ∀ {w4 : Option V} {H4 : Hp}, Ex H H4 → Ev (tOp (rIxL K) (tVar 0) (tVar 1)) [some (.ref a), some (vi kk), some (.ref m), some (vi t), w4, none, none] H4 (vi (fn ns kk)) := fun e => ev_op (ev_var rfl) (ev_var rfl) (rv_ixL (ex_l e hS) (L_at hk'))
      have tn : ∀ {w4 : Option V} {H4 : Hp}, Ev (tCall (sp_Ltwin K) [] E0 (tCons (tVar 1) tNil)) [some (.ref a), some (vi kk), some (.ref m), some (vi t), w4, none, none] H4 (vi (tw kk)) := ev_call (ea_1 (ev_var rfl)) (spv_Ltwin kk)
      refine q_asg (v := vi (lowM (fn ns) M kk)) (ev_cb (ea_cons (ev_op (ev_var rfl) (ev_var rfl) (rv_ixL (sq_of g3) (at_ hk'))) (ea_2 (ev_op (ev_var rfl) (nx x3) (rv_ixL (sq_of g3) (at_ hf))) (ev_op (ev_var rfl) tn (rv_ixL (sq_of g3) (at_ ht'))))) rc_min3) (fun H4 e4 => ?_)
      have x4 := x3.trans e4
      have g4 := e4 _ _ g3
      have ll : (L (mkL M ns.length)).length = ns.length := by rw [L_len, mkL_len]
      refine q_setL (j := kk) g4 (ev_var rfl) (ev_var rfl) (ev_var rfl) (by rw [ll]; exact hk') (fun H5 e5 => ?_)
      have x5 : Ex H (upd H5 m (.lst ((L (mkL M ns.length)).set kk (vi (lowM (fn ns) M kk))))) := (x4.trans e5).mut hm
      refine q_setL (j := fn ns kk) upd_same (ev_var rfl) (ev_var rfl) (nx x5) (by rw [List.length_set, ll]; exact hf) (fun H6 e6 => ?_)
      refine s_setL (j := tw kk) upd_same (ev_var rfl) (ev_var rfl) tn (by rw [List.length_set, List.length_set, ll]; exact ht') (fun H7 e7 => ?_)
      refine ⟨_, _, rfl, (((x5.trans e6).mut hm).trans e7).mut hm, ?_⟩
      rw [upd_same, L_set, L_set, L_set, mkL_put hk' hf ht', ← hMM]
      rfl
    · rintro σ' H3 ⟨w1, w4, rfl, x3, g3⟩
      rw [Int.toNat_natCast] at g3
      exact ⟨_, _, _, rfl, x3, g3⟩
  · rintro σ' H2 ⟨v1, v3, v4, rfl, x2, g⟩
    rw [Int.toNat_natCast] at g
    have at_ : ∀ {H3 : Hp} {z : Nat}, Ex H2 H3 → z < ns.length → ∀ {σ : L2.St}, σ[2]? = some (some (V.ref m)) → σ[1]? = some (some (vi z)) → Ev (tOp (rIxL K) (tVar 2) (tVar 1)) σ H3 (vi (marksM (fn ns) ns.length ns.length z)) := fun {H3 z} e hz σ s2 s1 => by
      refine ev_op (ev_var s2) (ev_var s1) (rv_ixL (sq_of (e _ _ g)) ?_)
      rw [← fn_mkL (M := marksM (fn ns) ns.length ns.length) hz]
      exact L_at (by rw [mkL_len]; exact hz)
    have q1 := el_lcR1 (σ := [some (.ref a), v1, some (.ref m), v3, v4, none, none]) (H := H2) (j := 1) (vs := [1]) (t := tTest (tOp rEq (tOp (rIxL K) (tVar 2) (tVar 1)) (tVar 1))) (te := tVar 1) (fun i => decide (vi (marksM (fn ns) ns.length ns.length i) = vi i)) (fun i => vi i) (hn rfl x2) (by omega) (fun _ => rfl)
      (fun i H3 e3 hi => et_test (ev_op (at_ e3 (by omega) rfl rfl) (ev_var rfl) (rv_eq rfl))) (fun i H3 _ _ _ => ev_var rfl)
    have f1 : given (ns.length : Int).toNat (fun i => decide (vi (marksM (fn ns) ns.length ns.length i) = vi i)) (fun i => vi i) = L ((List.range ns.length).filter (minB ns.length (Rch (fn ns)))) := by
      unfold given L
      rw [Int.toNat_natCast]
      congr 1
      refine List.filter_congr fun x hx => ?_
      have hx := List.mem_range.mp hx
      rw [vi_eq, Bool.eq_iff_iff, decide_eq_true_iff, minB_iff]
      exact marks_first P two hx
    rw [f1] at q1
    refine q_asgL q1 (fun fp H3 hfp e3 h3 => ?_)
    have x3 := x2.trans e3
    generalize hms : (List.range ns.length).filter (minB ns.length (Rch (fn ns))) = ms at h3
    have mlen : ms.length ≤ ns.length := by
      rw [← hms]
      have := List.length_filter_le (minB ns.length (Rch (fn ns))) (List.range ns.length)
      rw [List.length_range] at this
      exact this
    have hmem : ∀ i, i < ms.length → fn ms i < ns.length ∧ minR ns.length (Rch (fn ns)) (fn ms i) := fun i hi => by
      have z := fn_mem hi
      rw [← hms] at z
      obtain ⟨z1, z2⟩ := List.mem_filter.mp z
      rw [hms] at z1 z2
      exact ⟨List.mem_range.mp z1, minB_iff.mp z2⟩
    have ex : piecesL (fn ns) ns.length ns.length = ms.map (pieceL (fn ns) ns.length) := by rw [piecesL_map, hms]
    refine (ell_lc (σ := [some (.ref a), v1, some (.ref m), v3, v4, some (.ref fp), none]) (xss := piecesL (fn ns) ns.length ns.length) (ms := ms) (ev_var rfl) (sq_of h3) (by rw [ex, List.length_map]) (by omega) (fun _ => rfl) (fun i H4 e4 hi => ?_)) H3 (Ex.refl H3) _ (fun p H4 hp e4 l4 => k p H4 (fresh_back x3 hp) (x3.trans e4) (l4.of x3))
    obtain ⟨c1, c2⟩ := hmem i hi
    have e34 := e3.trans e4
    have q2 := el_lcR1 (σ := [some (.ref a), v1, some (.ref m), v3, v4, some (.ref fp), some (vi (fn ms i))]) (H := H4) (j := 1) (vs := [1]) (t := tTest (tOp rEq (tOp (rIxL K) (tVar 2) (tVar 1)) (tVar 6))) (te := tVar 1) (fun y => decide (vi (marksM (fn ns) ns.length ns.length y) = vi (fn ms i))) (fun y => vi y) (hn rfl (x3.trans e4)) (by omega) (fun _ => rfl)
      (fun y H5 e5 hy => et_test (ev_op (at_ (e34.trans e5) (by omega) rfl rfl) (ev_var rfl) (rv_eq rfl))) (fun y H5 _ _ _ => ev_var rfl)
    have f2 : given (ns.length : Int).toNat (fun y => decide (vi (marksM (fn ns) ns.length ns.length y) = vi (fn ms i))) (fun y => vi y) = L ((piecesL (fn ns) ns.length ns.length).getD i []) := by
      rw [ex, List.getD_eq_getElem?_getD, List.getElem?_map, fn_get hi]
      unfold given L
      rw [Int.toNat_natCast]
      show _ = (pieceL (fn ns) ns.length (fn ms i)).map vi
      unfold pieceL
      congr 1
      refine List.filter_congr fun y hy => ?_
      have hy := List.mem_range.mp hy
      rw [vi_eq, Bool.eq_iff_iff, decide_eq_true_iff, relB_iff]
      exact marks_same P two c1 c2 hy
    rw [f2] at q2
    exact q2
end Hm
/-! d.get(k), d.get(k, v), list(d.values()) -/
namespace Hm
open PySem PySem.Spec PyProof.Rows L2 Evl
theorem relo_getD {a : Option V} {b : Option Value} {x : V} {y : Value} (h : RelO a b) (hx : RelV x y) : RelV (a.getD x) (b.getD y) := by
  cases a <;> cases b
  · exact hx
  · exact h.elim
  · exact h.elim
  · exact h
abbrev rGet1 : V → List V → Hp → VK → Prop := fun x xs H Q => ∃ (a : Addr) (kvs : List (Key × V)) (k : Key), x = .ref a ∧ xs = [kV k] ∧ H a = some (.dK kvs) ∧ Q ((valV kvs k).getD .non) H
abbrev rGet2 : V → List V → Hp → VK → Prop := fun x xs H Q => ∃ (a : Addr) (kvs : List (Key × V)) (k : Key) (dv : V), x = .ref a ∧ xs = [kV k, dv] ∧ H a = some (.dK kvs) ∧ Q ((valV kvs k).getD dv) H
theorem mt_get1 {X : Cx} : MtR X "dict.get" rGet1 := by
  intro pins s σ H x xs v us Q I rx rxs h
  obtain ⟨a, kvs, k, rfl, rfl, ha, q⟩ := h
  cases rx
  cases rxs with
  | cons rb rr =>
    cases rr
    obtain ⟨z1, hd1, vs1, rel1, dd1⟩ := dk_of I.hok ha
    have mp := dd1.mapOf
    refine call_meetsIn PySem.F.slot_dict_get dd1.typeIs PySem.F.entry_dict_get (PySem.F.args_dict_get_2 _ _) (meets_dict_get (mixKind X.prog X.w) a (kV_is rb) hd1) ⟨_, mp, ?_⟩
    show EP X pins σ Q _ _
    refine ⟨(valV kvs k).getD .non, H, I.kept (t' := s.toks + 1) fun b u e => e, relo_getD (rel1.val k) rfl, q⟩
theorem mt_get2 {X : Cx} : MtR X "dict.get" rGet2 := by
  intro pins s σ H x xs v us Q I rx rxs h
  obtain ⟨a, kvs, k, dv, rfl, rfl, ha, q⟩ := h
  cases rx
  cases rxs with
  | cons rb rr =>
    cases rr with
    | cons rc rr =>
      cases rr
      obtain ⟨z1, hd1, vs1, rel1, dd1⟩ := dk_of I.hok ha
      have mp := dd1.mapOf
      refine call_meetsIn PySem.F.slot_dict_get dd1.typeIs PySem.F.entry_dict_get (PySem.F.args_dict_get_3 _ _ _) (meets_dict_get_default (mixKind X.prog X.w) a (kV_is rb) hd1 _) ⟨_, mp, ?_⟩
      show EP X pins σ Q _ _
      exact ⟨(valV kvs k).getD dv, H, I.kept (t' := s.toks + 1) fun b u e => e, relo_getD (rel1.val k) rc, q⟩
abbrev rLenD : CR1 := fun xs H Q => ∃ a kvs, xs = [V.ref a] ∧ H a = some (.dK kvs) ∧ Q (.int kvs.length) H
theorem hu65 {k : Nat} {A : Around} (r : Room k A) : A.units + 65 < cLine := by
  have := r.un
  omega
/-- list(d.values()) -/
def tListVals (te : TE) : TE := fun σ H Q => te σ H fun x H1 => ∃ d kvs, x = V.ref d ∧ H1 d = some (.dK kvs) ∧ ∀ p, H1 p = none → Q (.ref p) (upd H1 p (.lst (kvs.map (·.2))))
theorem kv_snd {κ : Type} [DecidableEq κ] {kvs : List (κ × V)} {vs : List (κ × Value)} (r : KV kvs vs) : Vals (kvs.map (·.2)) (vs.map (·.2)) := by
  induction r with
  | nil => exact .nil
  | cons h t ih => exact .cons h.2 ih
section
variable {X : Cx} {e : Expr} {te : TE} {p pos apos cpos : Pos}
theorem pe_listVals (hc : X.calm = true) (he : PE X e te) (hg : Gl X "list") (hm : X.mg "list" = none) (hv : bootBuiltins "list" = some (.type "list")) (hbase : attributeBase e "values" X.env (eval e X.env) = eval e X.env := by rfl) (hline : (apos.endLine == cpos.line) = true := by rfl)
    (hs : starEach [.Call (.Attribute e "values" apos) [] [] cpos] X.env = (false, eval (.Call (.Attribute e "values" apos) [] [] cpos) X.env) :: starEach [] X.env := by rfl) :
    PE X (.Call (.Name "list" p) [.Call (.Attribute e "values" apos) [] [] cpos] [] pos) (tListVals te) := by
  refine ⟨fun pins s σ H Q I hq => ?_⟩
  refine wpAny_Call_Name_kw (ld_blt I hg hm hv ?_)
  refine PyProof.Rows.callWith_type1 ?_ hs rfl
  rw [hs]
  show wpAny _ _ (spliced ((false, eval (.Call (.Attribute e "values" apos) [] [] cpos) X.env) :: backTo pos (starEach [] X.env))) _ _ s
  refine Calls.spliced_cons ?_
  refine wpAny_Call_method (T := "dict") (id := "dict.values") hbase rfl hline F.plainAttrs_dict F.slot_dict_values F.type_dict_values (thn (he.run pins s σ H _ I hq) fun u s1 ⟨x, H1, I1, rx, d, kvs, ex, hd, q⟩ => ?_)
  subst ex
  obtain rfl : u = Value.ref d := rx
  obtain ⟨hz, hs0, vs, kv, hdo⟩ := dk_of I1.hok hd
  obtain ⟨ep, hat⟩ := hdo.dictAt
  have lk : kvs.length = vs.length := Paired.length kv
  have k1 : ∀ b u, s1.heap.get? b = some u → (s1.heap.push { cls := .type "dict_values", data := .fields #[.ref d] }).get? b = some u := fun b ob q => Heap.get?_push_of_some _ q
  refine ⟨hdo.typeIs, hdo.mapOf.noDict, ?_⟩
  show wpAny _ _ (callWith cpos (.builtin "dict.values") [.ref d] [] []) _ X.xe s1
  refine method_meetsIn F.slot_dict_values F.entry_dict_values rfl (PySem.evalArgs_none ⟨rfl, hdo.typeIs, F.args_dict_values_1 _, _, meets_dict_values (mixKind X.prog X.w) d hs0, ⟨vs, hdo⟩, ?_⟩)
  refine Calls.spliced_nil ?_
  refine PySem.W.kdl_call (PySem.W.kdl_values (knd := mixKind X.prog X.w) (r := s1.heap.objs.size) (d := d) (kvs := vs) (ep := ep)) (I1.ok.hd hc) ⟨⟨_, Heap.get?_push_size _ rfl, rfl, rfl⟩, hat.push _⟩ (by omega) fun h' tk acc c hk hS hacc => ?_
  have hsz : (s1.heap.push { cls := .type "dict_values", data := .fields #[.ref d] }).objs.size = s1.heap.objs.size + 1 := Heap.size_push _ _
  have hn : H1 (s1.heap.objs.size + 1) = none := I1.hok.fresh (by omega)
  rw [hsz] at hS ⊢
  have ev : acc.toList = vs.map (·.2) := PySem.W.kdl_vals_eq acc.toList (by rw [Array.length_toList]; exact hacc.1) fun j v e => hacc.2 j v (by rw [← Array.getElem?_toList]; exact e)
  refine ⟨.ref (s1.heap.objs.size + 1), _, I1.laid (t' := tk) (fun b u e => hk b u (k1 b u e)) (by omega) (o := .lst (kvs.map (·.2))) ⟨by rw [List.length_map]; exact hz, vs.map (·.2), c, kv_snd kv, ?_⟩, rfl, q _ hn⟩
  rw [← ev, Array.toArray_toList]
  exact hS
end
end Hm
namespace Hm
/-! ### renamings, without the program -/
/-- the pairs that a walk meets: both halves move alike -/
inductive RchP (f g : Nat → Nat) (a b : Nat) : Nat → Nat → Prop where
  | refl : RchP f g a b a b
  | nx {x y : Nat} (h : RchP f g a b x y) : RchP f g a b (f x) (g y)
  | tw {x y : Nat} (h : RchP f g a b x y) : RchP f g a b (tw x) (tw y)
def OneP (f g : Nat → Nat) (a b : Nat) : Prop := ∀ x y x' y', RchP f g a b x y → RchP f g a b x' y' → (x = x' ↔ y = y')
structure Ren (f g : Nat → Nat) (N : Nat) (s : Nat → Nat) : Prop where
  lt : ∀ x, x < N → s x < N
  inj : ∀ x y, x < N → y < N → s x = s y → x = y
  nx : ∀ x, x < N → s (f x) = g (s x)
  tw : ∀ x, x < N → s (tw x) = tw (s x)
structure Par (f g : Nat → Nat) (N : Nat) (F : Nat → Nat → Prop) : Prop where
  l1 : ∀ x y, F x y → x < N
  l2 : ∀ x y, F x y → y < N
  one : ∀ x y x' y', F x y → F x' y' → (x = x' ↔ y = y')
  nx : ∀ x y, F x y → F (f x) (g y)
  tw : ∀ x y, F x y → F (tw x) (tw y)
section
variable {f g : Nat → Nat} {N : Nat} {F : Nat → Nat → Prop} {a b : Nat} {s : Nat → Nat}
theorem RchP.l {x y : Nat} (h : RchP f g a b x y) : Rch f a x := by
  induction h with
  | refl => exact .refl a
  | nx _ ih => exact ih.nx
  | tw _ ih => exact ih.tw
theorem RchP.r {x y : Nat} (h : RchP f g a b x y) : Rch g b y := by
  induction h with
  | refl => exact .refl b
  | nx _ ih => exact ih.nx
  | tw _ ih => exact ih.tw
theorem rchP_l {x : Nat} (h : Rch f a x) : ∃ y, RchP f g a b x y := by
  induction h with
  | refl => exact ⟨b, .refl⟩
  | nx _ ih => obtain ⟨y, h⟩ := ih; exact ⟨_, h.nx⟩
  | tw _ ih => obtain ⟨y, h⟩ := ih; exact ⟨_, h.tw⟩
theorem rchP_r {y : Nat} (h : Rch g b y) : ∃ x, RchP f g a b x y := by
  induction h with
  | refl => exact ⟨a, .refl⟩
  | nx _ ih => obtain ⟨y, h⟩ := ih; exact ⟨_, h.nx⟩
  | tw _ ih => obtain ⟨y, h⟩ := ih; exact ⟨_, h.tw⟩
theorem Par.go (h : Par f g N F) (q : F a b) {x y : Nat} (r : RchP f g a b x y) : F x y := by
  induction r with
  | refl => exact q
  | nx _ ih => exact h.nx _ _ ih
  | tw _ ih => exact h.tw _ _ ih
theorem Par.gl (h : Par f g N F) (q : F a b) {x : Nat} (r : Rch f a x) : ∃ y, F x y := by
  obtain ⟨y, r⟩ := rchP_l (g := g) (b := b) r
  exact ⟨y, h.go q r⟩
theorem Par.gr (h : Par f g N F) (q : F a b) {y : Nat} (r : Rch g b y) : ∃ x, F x y := by
  obtain ⟨x, r⟩ := rchP_r (f := f) (a := a) r
  exact ⟨x, h.go q r⟩
theorem rchP_par (P : Pf f N) (P' : Pf g N) (hN : N % 2 = 0) (ha : a < N) (hb : b < N) (o : OneP f g a b) : Par f g N (RchP f g a b) :=
  ⟨fun _ _ h => rch_lt P hN ha h.l, fun _ _ h => rch_lt P' hN hb h.r, o, fun _ _ h => h.nx, fun _ _ h => h.tw⟩
theorem Par.cup (h : Par f g N F) (P : Pf f N) (P' : Pf g N) (hN : N % 2 = 0) (ha : a < N) (hb : b < N) (o : OneP f g a b) (na : ∀ y, ¬ F a y) (nb : ∀ x, ¬ F x b) :
    Par f g N (fun x y => F x y ∨ RchP f g a b x y) := by
  have R := rchP_par P P' hN ha hb o
  have d1 : ∀ {x y z}, F x y → RchP f g a b x z → False := fun {x y z} q r => by
    obtain ⟨w, hw⟩ := h.gl q (rch_symm P hN ha r.l)
    exact na _ hw
  have d2 : ∀ {x y z}, F x y → RchP f g a b z y → False := fun {x y z} q r => by
    obtain ⟨w, hw⟩ := h.gr q (rch_symm P' hN hb r.r)
    exact nb _ hw
  refine ⟨fun x y q => q.elim (h.l1 x y) (R.l1 x y), fun x y q => q.elim (h.l2 x y) (R.l2 x y), fun x y x' y' q q' => ?_, fun x y q => q.imp (h.nx x y) (R.nx x y), fun x y q => q.imp (h.tw x y) (R.tw x y)⟩
  rcases q with q | q <;> rcases q' with q' | q'
  · exact h.one _ _ _ _ q q'
  · exact ⟨fun e => (d1 q (by rw [e]; exact q')).elim, fun e => (d2 q (by rw [e]; exact q')).elim⟩
  · exact ⟨fun e => (d1 q' (by rw [← e]; exact q)).elim, fun e => (d2 q' (by rw [← e]; exact q)).elim⟩
  · exact o _ _ _ _ q q'
theorem Ren.go (S : Ren f g N s) (P : Pf f N) (hN : N % 2 = 0) (ha : a < N) {x y : Nat} (r : RchP f g a (s a) x y) : x < N ∧ y = s x := by
  induction r with
  | refl => exact ⟨ha, rfl⟩
  | nx _ ih =>
    obtain ⟨h, rfl⟩ := ih
    exact ⟨P.lt _ h, (S.nx _ h).symm⟩
  | tw _ ih =>
    obtain ⟨h, rfl⟩ := ih
    exact ⟨tw_lt hN h, (S.tw _ h).symm⟩
theorem Ren.one (S : Ren f g N s) (P : Pf f N) (hN : N % 2 = 0) (ha : a < N) : OneP f g a (s a) := fun x y x' y' r r' => by
  obtain ⟨h, rfl⟩ := S.go P hN ha r
  obtain ⟨h', rfl⟩ := S.go P hN ha r'
  exact ⟨fun e => by rw [e], S.inj _ _ h h'⟩
theorem Ren.back (S : Ren f g N s) (P : Pf f N) (hN : N % 2 = 0) {p y : Nat} (hp : p < N) (r : Rch g (s p) y) : ∃ x, x < N ∧ Rch f p x ∧ y = s x := by
  induction r with
  | refl => exact ⟨p, hp, .refl p, rfl⟩
  | nx _ ih =>
    obtain ⟨x, h, q, rfl⟩ := ih
    exact ⟨_, P.lt _ h, q.nx, (S.nx _ h).symm⟩
  | tw _ ih =>
    obtain ⟨x, h, q, rfl⟩ := ih
    exact ⟨_, tw_lt hN h, q.tw, (S.tw _ h).symm⟩
theorem ren_of {R : Nat → Nat → Prop} (P : Pf f N) (hN : N % 2 = 0) (l2 : ∀ x y, x < N → R x y → y < N) (tot : ∀ x, x < N → ∃ y, R x y) (fn : ∀ x y y', x < N → R x y → R x y' → y = y') (inj : ∀ x x' y, x < N → x' < N → R x y → R x' y → x = x')
    (nx : ∀ x y, x < N → R x y → R (f x) (g y)) (tw : ∀ x y, x < N → R x y → R (tw x) (Hm.tw y)) : ∃ s, Ren f g N s ∧ ∀ x y, x < N → R x y → y = s x := by
  have hs : ∀ x, ∃ y, x < N → R x y := fun x => by
    by_cases h : x < N
    · obtain ⟨y, q⟩ := tot x h
      exact ⟨y, fun _ => q⟩
    · exact ⟨0, fun q => absurd q h⟩
  obtain ⟨s, hs⟩ := Classical.axiomOfChoice hs
  refine ⟨s, ⟨fun x h => l2 _ _ h (hs x h), fun x y hx hy e => inj x y (s x) hx hy (hs x hx) (by rw [e]; exact hs y hy), fun x h => fn _ _ _ (P.lt _ h) (hs _ (P.lt _ h)) (nx _ _ h (hs x h)), fun x h => fn _ _ _ (tw_lt hN h) (hs _ (tw_lt hN h)) (tw _ _ h (hs x h))⟩, fun x y h q => fn _ _ _ h q (hs x h)⟩
theorem Par.ren (h : Par f g N F) (P : Pf f N) (hN : N % 2 = 0) (tot : ∀ x, x < N → ∃ y, F x y) : ∃ s, Ren f g N s ∧ ∀ x y, F x y → y = s x := by
  obtain ⟨s, S, q⟩ := ren_of P hN (fun x y _ r => h.l2 x y r) tot (fun x y y' _ r r' => (h.one _ _ _ _ r r').mp rfl) (fun x x' y _ _ r r' => (h.one _ _ _ _ r r').mpr rfl) (fun x y _ r => h.nx x y r) (fun x y _ r => h.tw x y r)
  exact ⟨s, S, fun x y r => q x y (h.l1 _ _ r) r⟩
/-- where the new piece goes, a full renaming can be bent -/
theorem bend (S : Ren f g N s) (h : Par f g N F) (P : Pf f N) (P' : Pf g N) (hN : N % 2 = 0) (ha : a < N) (hb : b < N) (o : OneP f g a b) (na : ∀ y, ¬ F a y) (nb : ∀ x, ¬ F x b) (ex : ∀ x y, F x y → y = s x) :
    ∃ s', Ren f g N s' ∧ (∀ x y, F x y ∨ RchP f g a b x y → y = s' x) ∧ ∀ x, x < N → ¬ Rch f a x → ¬ Rch g b (s x) → s' x = s x := by
  have R := rchP_par P P' hN ha hb o
  have cf : ∀ {x}, x < N → ¬ Rch f a x → ¬ Rch f a (f x) := fun {x} hx n q => n (q.trans (rch_symm P hN hx (Rch.refl x).nx))
  have ct : ∀ {x}, x < N → ¬ Rch f a x → ¬ Rch f a (tw x) := fun {x} hx n q => n (q.trans (rch_symm P hN hx (Rch.refl x).tw))
  have gf : ∀ {x}, x < N → ¬ Rch g b x → ¬ Rch g b (g x) := fun {x} hx n q => n (q.trans (rch_symm P' hN hx (Rch.refl x).nx))
  have gt : ∀ {x}, x < N → ¬ Rch g b x → ¬ Rch g b (tw x) := fun {x} hx n q => n (q.trans (rch_symm P' hN hx (Rch.refl x).tw))
  have out2 : ∀ x y, (RchP f g a b x y ∨ (¬ Rch f a x ∧ ¬ Rch g b y ∧ (s x = y ∨ ∃ p q, RchP f g a b p q ∧ s x = q ∧ s p = y))) → x < N → y < N := fun x y q hx => by
    rcases q with q | ⟨_, _, rfl | ⟨p, q, r, _, rfl⟩⟩
    · exact R.l2 _ _ q
    · exact S.lt _ hx
    · exact S.lt _ (R.l1 _ _ r)
  obtain ⟨s', S', q⟩ := ren_of (f := f) (g := g) (N := N) (R := fun x y => RchP f g a b x y ∨ (¬ Rch f a x ∧ ¬ Rch g b y ∧ (s x = y ∨ ∃ p q, RchP f g a b p q ∧ s x = q ∧ s p = y))) P hN (fun x y hx q => out2 x y q hx)
    (fun x hx => by
      by_cases c : Rch f a x
      · obtain ⟨y, r⟩ := rchP_l (g := g) (b := b) c
        exact ⟨y, .inl r⟩
      · by_cases d : Rch g b (s x)
        · obtain ⟨p, r⟩ := rchP_r (f := f) (a := a) d
          refine ⟨s p, .inr ⟨c, fun e => ?_, .inr ⟨p, s x, r, rfl, rfl⟩⟩⟩
          have hp := R.l1 _ _ r
          obtain ⟨x', hx', q, e'⟩ := S.back P hN hp ((rch_symm P' hN hb e).trans d)
          rw [S.inj x x' hx hx' e'] at c
          exact c (r.l.trans q)
        · exact ⟨s x, .inr ⟨c, d, .inl rfl⟩⟩)
    (fun x y y' hx q q' => by
      rcases q with q | ⟨c, d, q⟩ <;> rcases q' with q' | ⟨c', d', q'⟩
      · exact (o _ _ _ _ q q').mp rfl
      · exact (c' q.l).elim
      · exact (c q'.l).elim
      · rcases q with rfl | ⟨p, q, r, rfl, rfl⟩ <;> rcases q' with e | ⟨p', q', r', e, rfl⟩
        · exact e
        · exact (d (by rw [e]; exact r'.r)).elim
        · exact (d' (by rw [← e]; exact r.r)).elim
        · rw [(o _ _ _ _ r r').mpr e])
    (fun x x' y hx hx' q q' => by
      rcases q with q | ⟨c, d, q⟩ <;> rcases q' with q' | ⟨c', d', q'⟩
      · exact (o _ _ _ _ q q').mpr rfl
      · exact (d' q.r).elim
      · exact (d q'.r).elim
      · rcases q with rfl | ⟨p, q, r, rfl, rfl⟩ <;> rcases q' with e | ⟨p', q', r', e1, e⟩
        · exact S.inj _ _ hx hx' e.symm
        · exact (c (by rw [← S.inj _ _ (R.l1 _ _ r') hx e]; exact r'.l)).elim
        · exact (c' (by rw [S.inj _ _ hx' (R.l1 _ _ r) e]; exact r.l)).elim
        · have := S.inj _ _ (R.l1 _ _ r') (R.l1 _ _ r) e
          exact S.inj _ _ hx hx' (by rw [e1]; exact (o _ _ _ _ r r').mp this.symm))
    (fun x y hx q => by
      have hy := out2 x y q hx
      rcases q with q | ⟨c, d, q⟩
      · exact .inl q.nx
      · refine .inr ⟨cf hx c, gf hy d, ?_⟩
        rcases q with rfl | ⟨p, q, r, rfl, rfl⟩
        · exact .inl (S.nx _ hx)
        · exact .inr ⟨f p, g (s x), r.nx, S.nx _ hx, S.nx _ (R.l1 _ _ r)⟩)
    (fun x y hx q => by
      have hy := out2 x y q hx
      rcases q with q | ⟨c, d, q⟩
      · exact .inl q.tw
      · refine .inr ⟨ct hx c, gt hy d, ?_⟩
        rcases q with rfl | ⟨p, q, r, rfl, rfl⟩
        · exact .inl (S.tw _ hx)
        · exact .inr ⟨tw p, tw (s x), r.tw, S.tw _ hx, S.tw _ (R.l1 _ _ r)⟩)
  refine ⟨s', S', fun x y z => ?_, fun x hx c d => (q x _ hx (.inr ⟨c, d, .inl rfl⟩)).symm⟩
  rcases z with z | z
  · refine q x y (h.l1 _ _ z) (.inr ⟨fun c => ?_, fun d => ?_, .inl (ex x y z).symm⟩)
    · obtain ⟨w, hw⟩ := h.gl z (rch_symm P hN ha c)
      exact na _ hw
    · obtain ⟨w, hw⟩ := h.gr z (rch_symm P' hN hb d)
      exact nb _ hw
  · exact q x y (R.l1 _ _ z) (.inl z)
end
end Hm
namespace K22
open PySem PySem.Spec PyProof.Rows L2 Evl Hm
/-! ### a dict of numbers to numbers -/
def dP (l : List (Nat × Nat)) : List (Key × V) := l.map fun p => ((.inl (p.1 : Int) : Key), vi p.2)
theorem dP_len (l : List (Nat × Nat)) : (dP l).length = l.length := List.length_map ..
theorem dP_none {x : Nat} : ∀ {l : List (Nat × Nat)}, x ∉ l.map (·.1) → valV (dP l) (.inl (x : Int)) = none
  | [], _ => rfl
  | p :: r, h => by
    have h1 : x ≠ p.1 := fun e => h (by rw [e]; exact List.mem_cons_self ..)
    have h2 : x ∉ r.map (·.1) := fun e => h (List.mem_cons_of_mem _ e)
    show valV (((.inl (p.1 : Int) : Key), vi p.2) :: dP r) (.inl (x : Int)) = none
    have ne : ¬ ((Sum.inl (p.1 : Int) : Key) = Sum.inl (x : Int)) := fun z => h1 (by have := Sum.inl.inj z; omega)
    rw [valV_neg ne, dP_none h2]
theorem dP_some {x y : Nat} : ∀ {l : List (Nat × Nat)}, (l.map (·.1)).Nodup → (x, y) ∈ l → valV (dP l) (.inl (x : Int)) = some (vi y)
  | p :: r, nd, h => by
    show valV (((.inl (p.1 : Int) : Key), vi p.2) :: dP r) (.inl (x : Int)) = _
    rw [List.map_cons, List.nodup_cons] at nd
    rcases List.mem_cons.mp h with rfl | h
    · rw [valV_pos rfl]
    · have m : x ∈ r.map (·.1) := List.mem_map.mpr ⟨_, h, rfl⟩
      have ne : ¬ ((Sum.inl (p.1 : Int) : Key) = Sum.inl (x : Int)) := fun z => nd.1 (by
        have := Sum.inl.inj z
        rw [show p.1 = x by omega]
        exact m)
      rw [valV_neg ne, dP_some nd.2 h]
theorem dP_in {x : Nat} {l : List (Nat × Nat)} (nd : (l.map (·.1)).Nodup) : (valV (dP l) (.inl (x : Int))).isSome = decide (x ∈ l.map (·.1)) := by
  by_cases h : x ∈ l.map (·.1)
  · obtain ⟨p, hp, rfl⟩ := List.mem_map.mp h
    rw [dP_some (y := p.2) nd hp, decide_eq_true h]
    rfl
  · rw [dP_none h, decide_eq_false h]
    rfl
theorem dP_put {x y : Nat} {l : List (Nat × Nat)} (h : x ∉ l.map (·.1)) : putK (dP l) (.inl (x : Int)) (vi y) = dP (l ++ [(x, y)]) := by
  rw [putK_new _ (dP_none h)]
  unfold dP
  rw [List.map_append]
  rfl
theorem dP_snd (l : List (Nat × Nat)) : (dP l).map (·.2) = L (l.map (·.2)) := by
  unfold dP L
  rw [List.map_map, List.map_map]
  rfl
theorem nodup_inj {α β : Type} {f : α → β} : ∀ {l : List α}, (l.map f).Nodup → ∀ {p q : α}, p ∈ l → q ∈ l → f p = f q → p = q
  | x :: r, nd, p, q, hp, hq, e => by
    rw [List.map_cons, List.nodup_cons] at nd
    rcases List.mem_cons.mp hp with h1 | h1 <;> rcases List.mem_cons.mp hq with h2 | h2
    · rw [h1, h2]
    · exact (nd.1 (by rw [← h1, e]; exact List.mem_map_of_mem h2)).elim
    · exact (nd.1 (by rw [← h2, ← e]; exact List.mem_map_of_mem h1)).elim
    · exact nodup_inj nd.2 h1 h2 e
theorem nodup_snoc {l : List Nat} {x : Nat} (nd : l.Nodup) (h : x ∉ l) : (l ++ [x]).Nodup := by
  rw [List.nodup_append]
  exact ⟨nd, by simp, fun a ha b hb e => h (by rw [← List.mem_singleton.mp hb, ← e]; exact ha)⟩
/-! ### what the stack walk keeps -/
structure SpI (f g : Nat → Nat) (a b : Nat) (l ps : List (Nat × Nat)) : Prop where
  st : ∀ p ∈ l, RchP f g a b p.1 p.2
  tt : ∀ p ∈ ps, RchP f g a b p.1 p.2
  s0 : (a, b) ∈ l ∨ (a, b) ∈ ps
  nx : ∀ p ∈ l, (f p.1, g p.2) ∈ l ∨ (f p.1, g p.2) ∈ ps
  tw : ∀ p ∈ l, (Hm.tw p.1, Hm.tw p.2) ∈ l ∨ (Hm.tw p.1, Hm.tw p.2) ∈ ps
  n1 : (l.map (·.1)).Nodup
  n2 : (l.map (·.2)).Nodup
section
variable {f g : Nat → Nat} {a b x y : Nat} {l r : List (Nat × Nat)}
theorem SpI.done (h : SpI f g a b l []) : ∀ x y, (x, y) ∈ l ↔ RchP f g a b x y := fun x y => by
  have no : ∀ z : Nat × Nat, ¬ z ∈ ([] : List (Nat × Nat)) := fun z hz => (nomatch hz)
  refine ⟨fun q => h.st _ q, fun q => ?_⟩
  induction q with
  | refl => exact h.s0.resolve_right (no _)
  | nx _ ih => exact (h.nx _ ih).resolve_right (no _)
  | tw _ ih => exact (h.tw _ ih).resolve_right (no _)
theorem SpI.one (h : SpI f g a b l []) : OneP f g a b := fun x y x' y' q q' => by
  have m := (h.done x y).mpr q
  have m' := (h.done x' y').mpr q'
  exact ⟨fun e => congrArg Prod.snd (nodup_inj h.n1 m m' e), fun e => congrArg Prod.fst (nodup_inj h.n2 m m' e)⟩
theorem SpI.skip (h : SpI f g a b l (r ++ [(x, y)])) (m : (x, y) ∈ l) : SpI f g a b l r := by
  have go : ∀ {z : Nat × Nat}, z ∈ l ∨ z ∈ r ++ [(x, y)] → z ∈ l ∨ z ∈ r := fun {z} q => by
    rcases q with q | q
    · exact .inl q
    · rcases List.mem_append.mp q with q | q
      · exact .inr q
      · rw [List.mem_singleton.mp q]
        exact .inl m
  exact ⟨h.st, fun p hp => h.tt p (List.mem_append_left _ hp), go h.s0, fun p hp => go (h.nx p hp), fun p hp => go (h.tw p hp), h.n1, h.n2⟩
theorem SpI.push (h : SpI f g a b l (r ++ [(x, y)])) (m1 : x ∉ l.map (·.1)) (m2 : y ∉ l.map (·.2)) : SpI f g a b (l ++ [(x, y)]) (r ++ [(f x, g y), (Hm.tw x, Hm.tw y)]) := by
  have go : ∀ {z : Nat × Nat}, z ∈ l ∨ z ∈ r ++ [(x, y)] → z ∈ l ++ [(x, y)] ∨ z ∈ r ++ [(f x, g y), (Hm.tw x, Hm.tw y)] := fun {z} q => by
    rcases q with q | q
    · exact .inl (List.mem_append_left _ q)
    · rcases List.mem_append.mp q with q | q
      · exact .inr (List.mem_append_left _ q)
      · exact .inl (List.mem_append_right _ q)
  have xy := h.tt (x, y) (List.mem_append_right _ (List.mem_singleton.mpr rfl))
  refine ⟨fun p hp => ?_, fun p hp => ?_, go h.s0, fun p hp => ?_, fun p hp => ?_, ?_, ?_⟩
  · rcases List.mem_append.mp hp with hp | hp
    · exact h.st p hp
    · rw [List.mem_singleton.mp hp]
      exact xy
  · rcases List.mem_append.mp hp with hp | hp
    · exact h.tt p (List.mem_append_left _ hp)
    · rcases List.mem_cons.mp hp with rfl | hp
      · exact xy.nx
      · rw [List.mem_singleton.mp hp]
        exact xy.tw
  · rcases List.mem_append.mp hp with hp | hp
    · exact go (h.nx p hp)
    · rw [List.mem_singleton.mp hp]
      exact .inr (List.mem_append_right _ (List.mem_cons_self ..))
  · rcases List.mem_append.mp hp with hp | hp
    · exact go (h.tw p hp)
    · rw [List.mem_singleton.mp hp]
      exact .inr (List.mem_append_right _ (List.mem_cons_of_mem _ (List.mem_cons_self ..)))
  · rw [List.map_append]
    exact nodup_snoc h.n1 m1
  · rw [List.map_append]
    exact nodup_snoc h.n2 m2
theorem SpI.clash (h : SpI f g a b l (r ++ [(x, y)])) (m : x ∈ l.map (·.1) ∨ y ∈ l.map (·.2)) (n : (x, y) ∉ l) : ¬ OneP f g a b := fun o => by
  have xy := h.tt (x, y) (List.mem_append_right _ (List.mem_singleton.mpr rfl))
  rcases m with m | m
  · obtain ⟨p, hp, e⟩ := List.mem_map.mp m
    have e2 : p.2 = y := (o _ _ _ _ (h.st p hp) xy).mp e
    have e1 : p.1 = x := e
    exact n (by rw [← e1, ← e2]; exact hp)
  · obtain ⟨p, hp, e⟩ := List.mem_map.mp m
    have e2 : p.1 = x := (o _ _ _ _ (h.st p hp) xy).mpr e
    have e1 : p.2 = y := e
    exact n (by rw [← e1, ← e2]; exact hp)
theorem SpI.le {N : Nat} {ps : List (Nat × Nat)} (P : Pf f N) (hN : N % 2 = 0) (ha : a < N) (h : SpI f g a b l ps) : l.length ≤ N := by
  have := nodup_le N _ h.n1 (fun x hx => by
    obtain ⟨p, hp, rfl⟩ := List.mem_map.mp hx
    exact rch_lt P hN ha (h.st p hp).l)
  rwa [List.length_map] at this
end
/-! ### lists of tuples of two numbers -/
abbrev TA2 (H : Hp) (as : List Addr) (ps : List (Nat × Nat)) : Prop := Paired (fun a (p : Nat × Nat) => H a = some (.tup [vi p.1, vi p.2])) as ps
theorem TA2.ex {H H' : Hp} {as : List Addr} {ps : List (Nat × Nat)} (h : TA2 H as ps) (e : Ex H H') : TA2 H' as ps := paired_imp h fun a x _ q => e a _ q
theorem TA2.upd {H : Hp} {as : List Addr} {ps : List (Nat × Nat)} {l : Addr} {o : HO} (h : TA2 H as ps) (e : ∀ a ∈ as, a ≠ l) : TA2 (upd H l o) as ps := paired_imp h fun a x m q => by
  rw [upd_ne (e a m)]
  exact q
theorem TA2.ne {H : Hp} {as : List Addr} {ps : List (Nat × Nat)} (h : TA2 H as ps) : ∀ a ∈ as, ∃ u v : Nat, H a = some (.tup [vi u, vi v]) := by
  induction h with
  | nil => intro a ha; cases ha
  | cons r t ih =>
    intro a ha
    rcases List.mem_cons.mp ha with rfl | ha
    · exact ⟨_, _, r⟩
    · exact ih a ha
theorem TA2.off {H : Hp} {as : List Addr} {ps : List (Nat × Nat)} {l : Addr} {o : HO} (h : TA2 H as ps) (hl : H l = some o) (n : ∀ u v : Nat, o ≠ .tup [vi u, vi v]) : ∀ a ∈ as, a ≠ l := fun a ha e => by
  obtain ⟨u, v, q⟩ := h.ne a ha
  rw [e, hl] at q
  exact n u v (Option.some.inj q)
theorem ta2_snoc_inv {H : Hp} : ∀ {as : List Addr} {r : List (Nat × Nat)} {p : Nat × Nat}, TA2 H as (r ++ [p]) → ∃ as' a, as = as' ++ [a] ∧ TA2 H as' r ∧ H a = some (.tup [vi p.1, vi p.2])
  | _, [], _, .cons h .nil => ⟨[], _, rfl, .nil, h⟩
  | _, x :: r, p, .cons h t => by
    obtain ⟨as', a, rfl, h1, h2⟩ := ta2_snoc_inv (r := r) t
    exact ⟨_ :: as', a, rfl, .cons h h1, h2⟩
theorem q_popT {K : PySem.W.Frag} {σ : L2.St} {H : Hp} {te : TE} {tz : TS} {D : Ends} {i j : Nat} {l a : Addr} {xs : List V} {u v : V} (h : Ev te σ H (.ref l)) (hl : H l = some (.lst (xs ++ [.ref a]))) (ha : H a = some (.tup [u, v])) (hal : a ≠ l)
    (k : ∀ H1, Ex H H1 → tz D ((σ.set i (some u)).set j (some v)) (upd H1 l (.lst xs))) : tSeq (tAsg (tBM0 K "list" rPop te) (gTup K 2 (gCons (gName i) (gCons (gName j) gNil)))) tz D σ H := h H (Ex.refl H) _ fun H1 e1 =>
  ⟨Or.inl ⟨rfl, _, sq_of (e1 _ _ hl)⟩, l, _, .ref a, rfl, rfl, e1 _ _ hl, by simp, by
    rw [List.dropLast_concat]
    exact ⟨a, [u, v], rfl, st_of (by rw [upd_ne hal]; exact e1 _ _ ha), rfl, u, [v], rfl, v, [], rfl, rfl, k H1 e1⟩⟩
theorem ev_get1 {K : PySem.W.Frag} {σ : L2.St} {H : Hp} {td ty : TE} {d : Addr} {kvs : List (Key × V)} {i : Int} (hd : Ev td σ H (.ref d)) (hy : Ev ty σ H (.int i)) (h : H d = some (.dK kvs)) (ty0 : ∀ H4, H4 d = some (.dK kvs) → tyV K "dict" (.ref d) H4) :
    Ev (tBM K "dict" rGet1 td (tCons ty tNil)) σ H ((valV kvs (.inl i)).getD .non) := fun H1 e Q q =>
  hd H1 e _ fun H2 e2 => ⟨ty0 H2 ((e.trans e2) _ _ h), hy H2 (e.trans e2) _ fun H3 e3 => ⟨d, kvs, .inl i, rfl, rfl, (e.trans (e2.trans e3)) _ _ h, q H3 (e2.trans e3)⟩⟩
theorem ev_get2 {K : PySem.W.Frag} {σ : L2.St} {H : Hp} {td ty tv : TE} {d : Addr} {kvs : List (Key × V)} {i : Int} {v : V} (hd : Ev td σ H (.ref d)) (hy : Ev ty σ H (.int i)) (hv : Ev tv σ H v) (h : H d = some (.dK kvs)) (ty0 : ∀ H4, H4 d = some (.dK kvs) → tyV K "dict" (.ref d) H4) :
    Ev (tBM K "dict" rGet2 td (tCons ty (tCons tv tNil))) σ H ((valV kvs (.inl i)).getD v) := fun H1 e Q q =>
  hd H1 e _ fun H2 e2 => ⟨ty0 H2 ((e.trans e2) _ _ h), hy H2 (e.trans e2) _ fun H3 e3 => hv H3 ((e.trans e2).trans e3) _ fun H4 e4 => ⟨d, kvs, .inl i, v, rfl, rfl, ((e.trans (e2.trans e3)).trans e4) _ _ h, q H4 ((e2.trans e3).trans e4)⟩⟩
theorem q_lst1U {σ : L2.St} {H : Hp} {te : TE} {tz : TS} {D : Ends} {i : Nat} {xs : List V} (h : EvU te σ H xs) (k : ∀ u t H1, H u = none → Ex H H1 → H1 t = none → H1 u = some (.tup xs) → tz D (σ.set i (some (.ref t))) (upd H1 t (.lst [.ref u]))) : tSeq (tAsg (tLst (tCons te tNil)) (gName i)) tz D σ H :=
  h H (Ex.refl H) _ fun u H1 hu e1 h1 => ⟨by show 1 ≤ sizeLine; decide, fun t ht => k u t H1 hu e1 ht h1⟩
theorem ty_dK {K : PySem.W.Frag} {H : Hp} {d : Addr} {kvs : List (Key × V)} (h : H d = some (.dK kvs)) : tyV K "dict" (.ref d) H := .inr (.inr (.inl ⟨rfl, .inl ⟨_, h⟩⟩))
theorem dP_val {o : Nat} {v : V} : ∀ {l : List (Nat × Nat)}, valV (dP l) (.inl (o : Int)) = some v → ∃ m : Nat, v = vi m
  | p :: r, h => by
    have h : valV (((.inl (p.1 : Int) : Key), vi p.2) :: dP r) (.inl (o : Int)) = some v := h
    by_cases e : (Sum.inl (p.1 : Int) : Key) = Sum.inl (o : Int)
    · rw [valV_pos e] at h
      exact ⟨p.2, (Option.some.inj h).symm⟩
    · rw [valV_neg e] at h
      exact dP_val h
theorem sc_get (kvs : List (Nat × Nat)) (o : Nat) {n : Nat} : scal ((valV (dP kvs) (.inl (o : Int))).getD .non) (vi n) = true := by
  cases h : valV (dP kvs) (.inl (o : Int)) with
  | none => rfl
  | some v =>
    obtain ⟨m, rfl⟩ := dP_val h
    rfl
theorem get_ne {l : List (Nat × Nat)} {o n : Nat} (nd : (l.map (·.1)).Nodup) : V.bl (!decide ((valV (dP l) (.inl (o : Int))).getD .non = vi n)) = .bl (!decide ((o, n) ∈ l)) := by
  by_cases h : (o, n) ∈ l
  · rw [dP_some nd h, decide_eq_true h]
    show V.bl (!decide (vi n = vi n)) = _
    rw [decide_eq_true rfl]
  · rw [decide_eq_false h, decide_eq_false]
    intro e
    cases c : valV (dP l) (.inl (o : Int)) with
    | none =>
      rw [c] at e
      cases e
    | some v =>
      rw [c] at e
      have e : v = vi n := e
      by_cases m : o ∈ l.map (·.1)
      · obtain ⟨p, hp, rfl⟩ := List.mem_map.mp m
        rw [dP_some (y := p.2) nd hp] at c
        have e2 := Option.some.inj c
        rw [e] at e2
        have e3 : p.2 = n := by
          have := V.int.inj e2
          omega
        exact h (by rw [← e3]; exact hp)
      · rw [dP_none m] at c
        cases c
def sp_spread (K : PySem.W.Frag) : Sp := fun vs H Q _ => ∃ (x y : Addr) (ns ms : List Nat) (a b : Nat), vs = [.ref x, .ref y, vi a, vi b] ∧ MeshAt K H x ns ∧ MeshAt K H y ms ∧ MP ns ∧ MP ms ∧ a < ns.length ∧ b < ms.length ∧
  (∀ p l H', H p = none → Ex H H' → H' p = some (.dK (dP l)) → (l.map (·.1)).Nodup → (∀ x y, (x, y) ∈ l ↔ RchP (fn ns) (fn ms) a b x y) → OneP (fn ns) (fn ms) a b → Q (.ref p) H') ∧
  (∀ H', Ex H H' → ¬ OneP (fn ns) (fn ms) a b → Q .non H')
abbrev nm_spread : List Str := ["first", "second", "half", "image", "part", "images", "todo", "old", "new"]
abbrev pr_spread : List Str := ["first", "second", "half", "image"]
def t_spread (K : PySem.W.Frag) : TS :=
  (tSeq (tAsg tDNewK (gName 4))
  (tSeq (tAsg tDNewK (gName 5))
  (tSeq (tAsg (tLst (tCons (tTup (tCons (tVar 2) (tCons (tVar 3) tNil))) tNil)) (gName 6))
  (tSeq (tWhile (tTruL K (tVar 6)) (tSeq (tAsg (tBM0 K "list" rPop (tVar 6)) (gTup K 2 (gCons (gName 7) (gCons (gName 8) gNil))))
      (tIfS (tAnd (tB (tDNotIn (tVar 7) (tVar 4))) (tB (tDNotIn (tVar 8) (tVar 5)))) (tSeq (sDPut (tVar 4) (tVar 7) (tVar 8))
        (tSeq (sDPut (tVar 5) (tVar 8) (tC (.bl true)))
        (tSeq (tDrop (tBM K "list" rAppend (tVar 6) (tCons (tTup (tCons (tMeth (He.ga K "Mesh") "after" (sp_Meshafter K) [] E0 (tVar 0) (tCons (tVar 7) tNil)) (tCons (tMeth (He.ga K "Mesh") "after" (sp_Meshafter K) [] E0 (tVar 1) (tCons (tVar 8) tNil)) tNil))) tNil)))
        (tDrop (tBM K "list" rAppend (tVar 6) (tCons (tTup (tCons (tMeth (He.ga K "Mesh") "twin" (sp_Meshtwin K) [] E0 (tVar 0) (tCons (tVar 7) tNil)) (tCons (tMeth (He.ga K "Mesh") "twin" (sp_Meshtwin K) [] E0 (tVar 1) (tCons (tVar 8) tNil)) tNil))) tNil)))))) (tIfS (tTest (tOp rNe (tBM K "dict" rGet1 (tVar 4) (tCons (tVar 7) tNil)) (tVar 8))) (tRet (tC .non)) tNext))))
  (tRet (tVar 4))))))
abbrev Wt_spread (K : PySem.W.Frag) (vs : List V) (H : Hp) (Q : VK) : Prop := t_spread K { nx := fun _ H' => Q .non H', rt := Q } (start nm_spread vs) H
theorem ln_spread {K : PySem.W.Frag} (vs : List V) (H : Hp) (Q : VK) (E : XK) (h : sp_spread K vs H Q E) : vs.length = pr_spread.length := by
  obtain ⟨_, _, _, _, _, _, rfl, _⟩ := h
  rfl
theorem rd_spread {K : PySem.W.Frag} (F : KF K) (vs : List V) (H : Hp) (Q : VK) (E : XK) (h : sp_spread K vs H Q E) : Wt_spread K vs H Q := by
  obtain ⟨x, y, ns, ms, a, b, rfl, hx, hy, hN, hM, ha, hbm, k1, k2⟩ := h
  show t_spread K _ [some (.ref x), some (.ref y), some (vi a), some (vi b), none, none, none, none, none] H
  have P := pf_fn hN.p
  have P' := pf_fn hM.p
  refine q_asgD (fun d hd => ?_)
  refine q_asgD (fun m hm => ?_)
  have hdm : d ≠ m := ne_of_none upd_same hm
  have hm0 : H m = none := fresh_back (Ex.new hd) hm
  have x0 : Ex H (upd (upd H d (.dK [])) m (.dK [])) := (Ex.new hd).mut hm0
  have m0 : (upd (upd H d (.dK [])) m (.dK [])) m = some (.dK []) := upd_same
  have d0 : (upd (upd H d (.dK [])) m (.dK [])) d = some (.dK []) := by
    rw [upd_ne hdm]
    exact upd_same
  refine q_lst1U (eu_tup (ea_2 (ev_var rfl) (ev_var rfl)) (by show 2 ≤ 100000; decide)) (fun u t H1 hu eu ht h1 => ?_)
  have et : Ex H1 (upd H1 t (.lst [.ref u])) := Ex.new ht
  have x1 : Ex H (upd H1 t (.lst [.ref u])) := x0.trans (eu.trans et)
  have h2 : (upd H1 t (.lst [.ref u])) t = some (.lst [.ref u]) := upd_same
  have h1 : (upd H1 t (.lst [.ref u])) u = some (.tup [vi a, vi b]) := et _ _ h1
  have ht0 : H t = none := fresh_back (x0.trans eu) ht
  have hdt : d ≠ t := ne_of_none (eu _ _ d0) ht
  have hmt : m ≠ t := ne_of_none (eu _ _ m0) ht
  refine q_while (fun mm σ' H' => ∃ (l ps : List (Nat × Nat)) (as : List Addr) (v7 v8 : Option V), mm = 3 * (ns.length - l.length) + ps.length ∧ SpI (fn ns) (fn ms) a b l ps ∧ ps.length ≤ 2 * l.length + 1 ∧ TA2 H' as ps ∧
    σ' = [some (.ref x), some (.ref y), some (vi a), some (vi b), some (.ref d), some (.ref m), some (.ref t), v7, v8] ∧ Ex H H' ∧ H' d = some (.dK (dP l)) ∧ H' m = some (.dK (kdT (l.map (·.2)))) ∧ H' t = some (.lst (as.map V.ref))) _
    ⟨[], [(a, b)], [u], none, none, rfl, ⟨fun _ h => (nomatch h), fun p hp => by rw [List.mem_singleton.mp hp]; exact .refl, .inr (List.mem_singleton.mpr rfl), fun _ h => (nomatch h), fun _ h => (nomatch h), .nil, .nil⟩, by show 1 ≤ 2 * 0 + 1; omega, .cons h1 .nil, rfl, x1, (eu.trans et) _ _ d0, (eu.trans et) _ _ m0, h2⟩ ?_
  rintro mm σ' H2 ⟨l, ps, as, v7, v8, rfl, S, pz, ta, rfl, x2, a1, a2, a3⟩
  have ll := S.le P hN.two ha
  have nl := hN.len
  refine ⟨!(as.map V.ref).isEmpty, et_truL (ev_var rfl) (sq_of a3), fun hb H3 e3 => ?_, fun hb H3 e3 => ?_⟩
  · rcases List.eq_nil_or_concat ps with rfl | ⟨r, z, ec⟩
    · cases ta
      cases hb
    rw [List.concat_eq_append] at ec
    subst ec
    obtain ⟨o, n⟩ := z
    obtain ⟨as', c, rfl, tr, hc⟩ := ta2_snoc_inv ta
    have on := S.tt (o, n) (List.mem_append_right _ (List.mem_singleton.mpr rfl))
    have ho : o < ns.length := rch_lt P hN.two ha on.l
    have hn : n < ms.length := rch_lt P' hM.two hbm on.r
    have offt := ta.off a3 (fun _ _ => by intro h; cases h)
    have hct : c ≠ t := offt c (List.mem_append_right _ (List.mem_singleton.mpr rfl))
    refine ⟨_, fun σ2 H2 hw => hw, ?_⟩
    have a3' : H3 t = some (.lst (as'.map V.ref ++ [.ref c])) := by
      rw [e3 _ _ a3, List.map_append]
      rfl
    refine q_popT (ev_var rfl) a3' (e3 _ _ hc) hct (fun H4 e4 => ?_)
    have x4 : Ex H (upd H4 t (.lst (as'.map V.ref))) := ((x2.trans e3).trans e4).mut ht0
    have d4 : (upd H4 t (.lst (as'.map V.ref))) d = some (.dK (dP l)) := by
      rw [upd_ne hdt]
      exact e4 _ _ (e3 _ _ a1)
    have m4 : (upd H4 t (.lst (as'.map V.ref))) m = some (.dK (kdT (l.map (·.2)))) := by
      rw [upd_ne hmt]
      exact e4 _ _ (e3 _ _ a2)
    have ta4 : TA2 (upd H4 t (.lst (as'.map V.ref))) as' r := TA2.upd (TA2.ex tr (e3.trans e4)) (fun q hq => offt q (List.mem_append_left _ hq))
    have pz' : r.length + 1 ≤ 2 * l.length + 1 := by
      rw [List.length_append] at pz
      exact pz
    refine s_if (b := !decide (o ∈ l.map (·.1)) && !decide (n ∈ l.map (·.2))) (et_and (et_B (ev_is (ev_dnin (ev_var rfl) (ev_var rfl) d4) (by rw [dP_in S.n1]))) fun _ => et_B (ev_is (ev_dnin (ev_var rfl) (ev_var rfl) m4) (by rw [kdT_val]))) (fun hb H5 e5 => ?_) (fun hb H5 e5 => ?_)
    · rw [Bool.and_eq_true, Bool.not_eq_true', Bool.not_eq_true'] at hb
      have q1 : o ∉ l.map (·.1) := of_decide_eq_false hb.1
      have q2 : n ∉ l.map (·.2) := of_decide_eq_false hb.2
      have S' := S.push q1 q2
      have ll' := S'.le P hN.two ha
      rw [List.length_append] at ll'
      have ll2 : l.length + 1 ≤ ns.length := ll'
      have x5 := x4.trans e5
      refine q_dput (ev_var rfl) (ev_var rfl) (ev_var rfl) (e5 _ _ d4) (by rw [dP_len]; omega) (fun H6 e6 => ?_)
      rw [dP_put q1]
      have x6 : Ex H (upd H6 d (.dK (dP (l ++ [(o, n)])))) := (x5.trans e6).mut hd
      have m6 : (upd H6 d (.dK (dP (l ++ [(o, n)])))) m = some (.dK (kdT (l.map (·.2)))) := by
        rw [upd_ne hdm.symm]
        exact e6 _ _ (e5 _ _ m4)
      have t6 : (upd H6 d (.dK (dP (l ++ [(o, n)])))) t = some (.lst (as'.map V.ref)) := by
        rw [upd_ne hdt.symm]
        exact e6 _ _ (e5 _ _ upd_same)
      have offd := TA2.off ta4 d4 (fun _ _ => by intro h; cases h)
      have offm := TA2.off ta4 m4 (fun _ _ => by intro h; cases h)
      have offt' := TA2.off ta4 (upd_same) (fun _ _ => by intro h; cases h)
      have ta6 : TA2 (upd H6 d (.dK (dP (l ++ [(o, n)])))) as' r := TA2.upd (TA2.ex ta4 (e5.trans e6)) offd
      refine q_dput ev_c (ev_var rfl) (ev_var rfl) m6 (by rw [kdT_len, List.length_map]; omega) (fun H7 e7 => ?_)
      rw [kdT_put q2]
      have x7 : Ex H (upd H7 m (.dK (kdT (l.map (·.2) ++ [n])))) := (x6.trans e7).mut hm0
      have d7 : (upd H7 m (.dK (kdT (l.map (·.2) ++ [n])))) d = some (.dK (dP (l ++ [(o, n)]))) := by
        rw [upd_ne hdm]
        exact e7 _ _ upd_same
      have t7 : (upd H7 m (.dK (kdT (l.map (·.2) ++ [n])))) t = some (.lst (as'.map V.ref)) := by
        rw [upd_ne hmt.symm]
        exact e7 _ _ t6
      have ta7 : TA2 (upd H7 m (.dK (kdT (l.map (·.2) ++ [n])))) as' r := TA2.upd (TA2.ex ta6 e7) offm
      have lenas : as'.length = r.length := Paired.length tr
      refine q_appU t7 (ev_var rfl) (eu_tup (ea_2 (ev_mm (hx.ex x7) (ev_var rfl) (by decide +kernel) (ea_1 (ev_var rfl)) (spv_Meshafter (hx.ex x7) ho)) (ev_mm (hy.ex x7) (ev_var rfl) (by decide +kernel) (ea_1 (ev_var rfl)) (spv_Meshafter (hy.ex x7) hn))) (by show 2 ≤ 100000; decide)) (by rw [List.length_map]; omega) (fun u1 H8 hu1 e8 h8 => ?_)
      have u1t : u1 ≠ t := (ne_of_none t7 hu1).symm
      have x8 : Ex H (upd H8 t (.lst (as'.map V.ref ++ [.ref u1]))) := (x7.trans e8).mut ht0
      have ta8 : TA2 (upd H8 t (.lst (as'.map V.ref ++ [.ref u1]))) (as' ++ [u1]) (r ++ [(fn ns o, fn ms n)]) := paired_snoc (TA2.upd (TA2.ex ta7 e8) offt') (by rw [upd_ne u1t]; exact h8)
      have t8 : (upd H8 t (.lst (as'.map V.ref ++ [.ref u1]))) t = some (.lst ((as' ++ [u1]).map V.ref)) := by
        rw [upd_same, List.map_append]
        rfl
      have offt8 := TA2.off ta8 t8 (fun _ _ => by intro h; cases h)
      refine s_appU t8 (ev_var rfl) (eu_tup (ea_2 (ev_mm (hx.ex x8) (ev_var rfl) (by decide +kernel) (ea_1 (ev_var rfl)) spv_Meshtwin) (ev_mm (hy.ex x8) (ev_var rfl) (by decide +kernel) (ea_1 (ev_var rfl)) spv_Meshtwin)) (by show 2 ≤ 100000; decide)) (by rw [List.length_map, List.length_append]; show as'.length + 1 < 100000; omega) (fun u2 H9 hu2 e9 h9 => ?_)
      have u2t : u2 ≠ t := (ne_of_none t8 hu2).symm
      refine ⟨_, ?_, l ++ [(o, n)], r ++ [(fn ns o, fn ms n), (tw o, tw n)], as' ++ [u1] ++ [u2], _, _, rfl, S', ?_, ?_, rfl, (x8.trans e9).mut ht0, ?_, ?_, ?_⟩
      · rw [List.length_append, List.length_append, List.length_append]
        show 3 * (ns.length - (l.length + 1)) + (r.length + 2) < 3 * (ns.length - l.length) + (r.length + 1)
        omega
      · rw [List.length_append, List.length_append]
        show r.length + 2 ≤ 2 * (l.length + 1) + 1
        omega
      · have q := paired_snoc (TA2.upd (l := t) (o := .lst ((as' ++ [u1]).map V.ref ++ [.ref u2])) (TA2.ex ta8 e9) offt8) (a := u2) (x := (tw o, tw n)) (by rw [upd_ne u2t]; exact h9)
        rw [List.append_assoc r] at q
        exact q
      · rw [upd_ne hdt]
        refine e9 _ _ ?_
        rw [upd_ne hdt]
        exact e8 _ _ d7
      · rw [upd_ne hmt, List.map_append]
        refine e9 _ _ ?_
        rw [upd_ne hmt]
        exact e8 _ _ upd_same
      · rw [upd_same, List.map_append (l₂ := [u2])]
        rfl
    · have mem : o ∈ l.map (·.1) ∨ n ∈ l.map (·.2) := by
        by_cases q1 : o ∈ l.map (·.1)
        · exact .inl q1
        · by_cases q2 : n ∈ l.map (·.2)
          · exact .inr q2
          · rw [decide_eq_false q1, decide_eq_false q2] at hb
            cases hb
      have x5 := x4.trans e5
      refine s_when (b := !decide ((o, n) ∈ l)) (et_test (ev_is (ev_op (ev_get1 (ev_var rfl) (ev_var rfl) (e5 _ _ d4) (fun H4 h4 => ty_dK h4)) (ev_var rfl) (rv_ne (sc_get _ _))) ?_)) (fun hb H6 e6 => ?_) (fun hb H6 e6 => ?_)
      · rw [get_ne S.n1]
      · refine s_ret ev_c (fun H7 e7 => ?_)
        exact k2 H7 ((x5.trans e6).trans e7) (S.clash mem (of_decide_eq_false (by simpa using hb)))
      · have q : (o, n) ∈ l := by
          by_cases q : (o, n) ∈ l
          · exact q
          · rw [decide_eq_false q] at hb
            cases hb
        refine ⟨_, ?_, l, r, as', _, _, rfl, S.skip q, ?_, TA2.ex ta4 (e5.trans e6), rfl, x5.trans e6, e6 _ _ (e5 _ _ d4), e6 _ _ (e5 _ _ m4), e6 _ _ (e5 _ _ upd_same)⟩
        · rw [List.length_append]
          show _ < _ + (r.length + 1)
          omega
        · omega
  · have e0 : ps = [] := by
      cases ta with
      | nil => rfl
      | cons _ _ => cases hb
    subst e0
    refine s_ret (ev_var rfl) (fun H4 e4 => ?_)
    exact k1 d l H4 hd ((x2.trans e3).trans e4) (e4 _ _ (e3 _ _ a1)) S.n1 S.done S.one
end K22
namespace Hm
open PySem PySem.Spec PyProof.Rows L2 Evl
theorem inV_L (h : Nat) : ∀ ord : List Nat, inV (vi h) (L ord) = decide (h ∈ ord)
  | [] => rfl
  | a :: r => by
    have ih := inV_L h r
    unfold inV at ih ⊢
    show (eqV (vi a) (vi h) || (L r).any fun y => eqV y (vi h)) = _
    rw [ih]
    have e : eqV (vi a) (vi h) = decide (a = h) := by
      show decide ((a : Int) = (h : Int)) = _
      by_cases q : a = h
      · rw [q, decide_eq_true rfl, decide_eq_true rfl]
      · rw [decide_eq_false q, decide_eq_false (fun z => q (by omega))]
    rw [e]
    by_cases q : a = h
    · simp [q]
    · by_cases z : h ∈ r
      · simp [q, z]
      · simp [q, z, Ne.symm q]
theorem flat_L : ∀ ord : List Nat, (L ord).all flatV = true
  | [] => rfl
  | a :: r => by
    show (flatV (vi a) && (L r).all flatV) = true
    rw [flat_L r]
    rfl
theorem only_one {l : List Nat} {a : Nat} (nd : l.Nodup) (h : ∀ x, x ∈ l ↔ x = a) : l = [a] := by
  cases l with
  | nil => exact absurd ((h a).mpr rfl) (by simp)
  | cons b r =>
    obtain rfl := (h b).mp (List.mem_cons_self ..)
    cases r with
    | nil => rfl
    | cons c s =>
      obtain rfl := (h c).mp (List.mem_cons_of_mem _ (List.mem_cons_self ..))
      simp at nd
theorem given_idx {O : List Nat} (nd : O.Nodup) {z : Nat} (hz : z ∈ O) : given O.length (fun i => decide (vi (fn O i) = vi z)) (fun i => vi i) = [vi (O.idxOf z)] := by
  unfold given
  have e : (List.range O.length).filter (fun i => decide (vi (fn O i) = vi z)) = [O.idxOf z] := by
    refine only_one (List.nodup_range.filter _) fun x => ?_
    rw [List.mem_filter, List.mem_range]
    constructor
    · rintro ⟨h1, h2⟩
      have h3 : (fn O x : Int) = (z : Int) := V.int.inj (of_decide_eq_true h2)
      have h4 : fn O x = z := Int.ofNat.inj h3
      exact (idx_of nd (by rw [fn_get h1, h4])).symm
    · rintro rfl
      refine ⟨List.idxOf_lt_length_iff.mpr hz, ?_⟩
      rw [fn_at (idx_at hz)]
      exact decide_eq_true rfl
  rw [e]
  rfl
section
variable {K : PySem.W.Frag} {σ : L2.St} {H : Hp} {ta tb te : TE} {D : Ends} {tz : TS} {E : XK}
theorem el_catV {a : Addr} {xs ys : List V} (ha : Ev ta σ H (.ref a)) (hS : H a = some (.lst xs)) (hb : EvL tb σ H ys) (hz : xs.length + ys.length ≤ 100000) : EvL (tOp rCat ta tb) σ H (xs ++ ys) := fun H1 e Q q =>
  ha H1 e _ fun H2 e2 => hb H2 (e.trans e2) _ fun p' H3 _ e3 h3 => ⟨a, p', xs, ys, rfl, rfl, e3 _ _ (e2 _ _ (e _ _ hS)), h3, sz_of hz, fun r hr => q r _ (fresh_back (e2.trans e3) hr) ((e2.trans e3).trans (Ex.new hr)) upd_same⟩
theorem set_same {σ : L2.St} {i : Nat} {v : V} (h : σ[i]? = some (some v)) : σ.set i (some v) = σ := by
  refine List.ext_getElem? fun j => ?_
  by_cases e : i = j
  · subst e
    rw [List.getElem?_set_self (List.getElem?_eq_some_iff.mp h).1, h]
  · rw [List.getElem?_set_ne e]
/-- if y not in order: order = order + [y, twin(y)] -/
theorem q_addLaw {i j : Nat} {o : Addr} {ord : List Nat} {h : Nat} (s2 : σ[i]? = some (some (.ref o))) (sj : σ[j]? = some (some (vi h))) (ho : H o = some (.lst (L ord))) (hz : ord.length ≤ 10000)
    (k : ∀ o' H1, Ex H H1 → H1 o' = some (.lst (L (addE ord h))) → tz D (σ.set i (some (.ref o'))) H1) :
    tSeq (tIfS (tTest (tOp (rIn K true) (tVar j) (tVar i))) (tAsg (tOp rCat (tVar i) (tLst (tCons (tVar j) (tCons (tCall (sp_Ltwin K) [] E0 (tCons (tVar j) tNil)) tNil)))) (gName i)) tNext) tz D σ H := by
  refine q_when (et_test (ev_op (ev_var sj) (ev_var s2) (rv_niL (sq_of ho) rfl (flat_L ord)))) (fun hb H1 e1 => ?_) (fun hb H1 e1 => ?_)
  · rw [inV_L] at hb
    have q : h ∉ ord := fun z => by
      rw [decide_eq_true z] at hb
      cases hb
    refine s_asgL (el_catV (ev_var s2) (e1 _ _ ho) (el_lst (ea_2 (ev_var sj) (ev_call (ea_1 (ev_var sj)) (spv_Ltwin h))) (by show 2 ≤ 100000; decide)) (by rw [L_len]; show ord.length + 2 ≤ 100000; omega)) (fun p H2 hp e2 h2 => ?_)
    refine k p H2 (e1.trans e2) ?_
    rw [addE_out q, L_app]
    exact h2
  · rw [inV_L] at hb
    have q : h ∈ ord := Classical.byContradiction fun z => by
      rw [decide_eq_false z] at hb
      cases hb
    have := k o H1 e1 (by rw [addE_in q]; exact e1 _ _ ho)
    rw [set_same s2] at this
    exact this
theorem s_retL2 {x : V} {ys : List V} (ha : Ev ta σ H x) (hb : EvL tb σ H ys) (k : ∀ T q H1 , H T = none → H q = none → Ex H H1 → H1 T = some (.lst [x, .ref q]) → H1 q = some (.lst ys) → D.rt (.ref T) H1) : tRet (tLst (tCons ta (tCons tb tNil))) D σ H :=
  ha H (Ex.refl H) _ fun H1 e1 => hb H1 e1 _ fun q H2 hq e2 h2 => ⟨by show 2 ≤ sizeLine; decide, fun T hT => k T q _ (fresh_back (e1.trans e2) hT) (fresh_back e1 hq) ((e1.trans e2).trans (Ex.new hT)) upd_same ((Ex.new hT) _ _ h2)⟩
end
end Hm
namespace K22
open PySem PySem.Spec PyProof.Rows L2 Evl Hm
theorem el_listVals {σ : L2.St} {H : Hp} {td : TE} {d : Addr} {kvs : List (Key × V)} (hd : Ev td σ H (.ref d)) (h : H d = some (.dK kvs)) : EvL (tListVals td) σ H (kvs.map (·.2)) := fun H1 e Q q =>
  hd H1 e _ fun H2 e2 => ⟨d, kvs, rfl, e2 _ _ (e _ _ h), fun p hp => q p _ (fresh_back e2 hp) (e2.trans (Ex.new hp)) upd_same⟩
theorem mesh_exd {K : PySem.W.Frag} {H H' : Hp} {x d : Addr} {ns : List Nat} {kvs : List (Key × V)} (h : MeshAt K H x ns) (hd : H d = some (.dK kvs)) (e : ExO d H H') : MeshAt K H' x ns := by
  obtain ⟨dx, l1, l2, l3, q1, q2, q3, q4⟩ := h
  have ne : ∀ {b : Addr} {o : HO}, H b = some o → (∀ kvs, o ≠ .dK kvs) → b ≠ d := fun hb n e => by
    rw [e, hd] at hb
    exact n _ (Option.some.inj hb).symm
  exact ⟨dx, l1, l2, l3, e _ _ (ne q1 (fun _ => by intro h; cases h)) q1, e _ _ (ne q2 (fun _ => by intro h; cases h)) q2, e _ _ (ne q3 (fun _ => by intro h; cases h)) q3, e _ _ (ne q4 (fun _ => by intro h; cases h)) q4⟩
theorem rv_isN0 {H : Hp} {x : V} {b : Bool} (h : decide (x = .non) = b) : RV rIsNon x .non H (.bl b) := fun H1 _ _ q => ⟨rfl, by
  rw [h]
  exact q H1 (Ex.refl H1)⟩
/-- the pairs of a list, as a relation -/
def Fl (l : List (Nat × Nat)) (x y : Nat) : Prop := (x, y) ∈ l
structure DP (ns ms : List Nat) (l : List (Nat × Nat)) : Prop where
  nd : (l.map (·.1)).Nodup
  par : Par (fn ns) (fn ms) ns.length (Fl l)
def OkP (ns ms : List Nat) (F : Nat → Nat → Prop) (a b : Nat) : Prop := F a b ∨ ((∀ y, ¬ F a y) ∧ (∀ x, ¬ F x b) ∧ OneP (fn ns) (fn ms) a b)
section
variable {ns ms : List Nat} {l : List (Nat × Nat)} {a b : Nat}
theorem DP.le (h : DP ns ms l) : l.length ≤ ns.length := by
  have := nodup_le ns.length _ h.nd (fun x hx => by
    obtain ⟨p, hp, rfl⟩ := List.mem_map.mp hx
    exact h.par.l1 _ _ hp)
  rwa [List.length_map] at this
theorem mem_fst {x : Nat} : x ∈ l.map (·.1) ↔ ∃ y, Fl l x y := ⟨fun h => by
  obtain ⟨p, hp, rfl⟩ := List.mem_map.mp h
  exact ⟨p.2, hp⟩, fun ⟨y, h⟩ => List.mem_map.mpr ⟨(x, y), h, rfl⟩⟩
theorem mem_snd {y : Nat} : y ∈ l.map (·.2) ↔ ∃ x, Fl l x y := ⟨fun h => by
  obtain ⟨p, hp, rfl⟩ := List.mem_map.mp h
  exact ⟨p.1, hp⟩, fun ⟨x, h⟩ => List.mem_map.mpr ⟨(x, y), h, rfl⟩⟩
theorem dP_merge : ∀ {r l : List (Nat × Nat)}, (r.map (·.1)).Nodup → (∀ x ∈ r.map (·.1), x ∉ l.map (·.1)) → mergeK (dP l) (dP r) = dP (l ++ r)
  | [], l, _, _ => by
    rw [List.append_nil]
    rfl
  | p :: r, l, nd, h => by
    rw [List.map_cons, List.nodup_cons] at nd
    show mergeK (putK (dP l) (.inl (p.1 : Int)) (vi p.2)) (dP r) = _
    rw [dP_put (h p.1 (List.mem_cons_self ..)), dP_merge nd.2 (fun x hx m => by
      rw [List.map_append] at m
      rcases List.mem_append.mp m with m | m
      · exact h x (List.mem_cons_of_mem _ hx) m
      · have e : x = p.1 := List.mem_singleton.mp m
        exact nd.1 (by rw [← e]; exact hx)), List.append_assoc]
    rfl
theorem DP.add {r : List (Nat × Nat)} (h : DP ns ms l) (hN : MP ns) (hM : MP ms) (hl : ns.length = ms.length) (ha : a < ns.length) (hb : b < ns.length) (na : ∀ y, ¬ Fl l a y) (nb : ∀ x, ¬ Fl l x b) (o : OneP (fn ns) (fn ms) a b)
    (nd : (r.map (·.1)).Nodup) (hr : ∀ x y, (x, y) ∈ r ↔ RchP (fn ns) (fn ms) a b x y) : DP ns ms (l ++ r) ∧ (∀ x y, Fl (l ++ r) x y ↔ Fl l x y ∨ RchP (fn ns) (fn ms) a b x y) ∧ ∀ x ∈ r.map (·.1), x ∉ l.map (·.1) := by
  have P := pf_fn hN.p
  have P' := pf_fn hM.p
  rw [← hl] at P'
  have fl : ∀ x y, Fl (l ++ r) x y ↔ Fl l x y ∨ RchP (fn ns) (fn ms) a b x y := fun x y => by
    unfold Fl
    rw [List.mem_append, hr]
  have dis : ∀ x ∈ r.map (·.1), x ∉ l.map (·.1) := fun x hx hm => by
    obtain ⟨y, q⟩ := mem_fst.mp hm
    obtain ⟨p, hp, rfl⟩ := List.mem_map.mp hx
    obtain ⟨w, hw⟩ := h.par.gl q (rch_symm P hN.two ha ((hr p.1 p.2).mp hp).l)
    exact na _ hw
  refine ⟨⟨?_, ?_⟩, fl, dis⟩
  · rw [List.map_append, List.nodup_append]
    exact ⟨h.nd, nd, fun x hx y hy e => dis y hy (by rw [← e]; exact hx)⟩
  · have q := h.par.cup P P' hN.two ha hb o na nb
    have e : Fl (l ++ r) = fun x y => Fl l x y ∨ RchP (fn ns) (fn ms) a b x y := by
      funext x y
      exact propext (fl x y)
    rw [e]
    exact q
end
def sp_place (K : PySem.W.Frag) : Sp := fun vs H Q _ => ∃ (x y d : Addr) (ns ms : List Nat) (a b : Nat) (l : List (Nat × Nat)), vs = [.ref x, .ref y, vi a, vi b, .ref d] ∧ MeshAt K H x ns ∧ MeshAt K H y ms ∧ MP ns ∧ MP ms ∧ ns.length = ms.length ∧ a < ns.length ∧ b < ns.length ∧
  H d = some (.dK (dP l)) ∧ DP ns ms l ∧
  (∀ l' H', ExO d H H' → H' d = some (.dK (dP l')) → DP ns ms l' → (∀ x y, Fl l' x y ↔ Fl l x y ∨ RchP (fn ns) (fn ms) a b x y) → OkP ns ms (Fl l) a b → Q (.bl true) H') ∧
  (∀ H', ExO d H H' → H' d = some (.dK (dP l)) → ¬ OkP ns ms (Fl l) a b → Q (.bl false) H')
abbrev nm_place : List Str := ["first", "second", "half", "image", "found", "part"]
abbrev pr_place : List Str := ["first", "second", "half", "image", "found"]
def t_place (K : PySem.W.Frag) : TS :=
  (tSeq (tIfS (tB (tDIn (tVar 2) (tVar 4))) (tRet (tOp rEq (tDGet (tVar 4) (tVar 2)) (tVar 3))) tNext)
  (tSeq (tIfS (tTest (tOp (rIn K false) (tVar 3) (tListVals (tVar 4)))) (tRet (tC (.bl false))) tNext)
  (tSeq (tAsg (tCall (sp_spread K) [] E0 (tCons (tVar 0) (tCons (tVar 1) (tCons (tVar 2) (tCons (tVar 3) tNil))))) (gName 5))
  (tSeq (tIfS (tTest (tOp rIsNon (tVar 5) (tC .non))) (tRet (tC (.bl false))) tNext)
  (tSeq (tDrop (tBM K "dict" rUpd (tVar 4) (tCons (tVar 5) tNil)))
  (tRet (tC (.bl true))))))))
abbrev Wt_place (K : PySem.W.Frag) (vs : List V) (H : Hp) (Q : VK) : Prop := t_place K { nx := fun _ H' => Q .non H', rt := Q } (start nm_place vs) H
theorem ln_place {K : PySem.W.Frag} (vs : List V) (H : Hp) (Q : VK) (E : XK) (h : sp_place K vs H Q E) : vs.length = pr_place.length := by
  obtain ⟨_, _, _, _, _, _, _, _, rfl, _⟩ := h
  rfl
theorem rd_place {K : PySem.W.Frag} (F : KF K) (vs : List V) (H : Hp) (Q : VK) (E : XK) (h : sp_place K vs H Q E) : Wt_place K vs H Q := by
  obtain ⟨x, y, d, ns, ms, a, b, l, rfl, hx, hy, hN, hM, hl, ha, hb, hd, D, k1, k2⟩ := h
  show t_place K _ [some (.ref x), some (.ref y), some (vi a), some (vi b), some (.ref d), none] H
  refine q_when (et_B (ev_is (ev_din (ev_var rfl) (ev_var rfl) hd) (by rw [dP_in D.nd]))) (fun hm H1 e1 => ?_) (fun hm H1 e1 => ?_)
  · obtain ⟨w, hw⟩ := mem_fst.mp (of_decide_eq_true hm)
    refine s_ret (v := .bl (decide (vi w = vi b))) (ev_op (ev_dget (ev_var rfl) (ev_var rfl) (e1 _ _ hd) (dP_some D.nd hw)) (ev_var rfl) (rv_eq rfl)) (fun H2 e2 => ?_)
    by_cases c : w = b
    · subst c
      rw [decide_eq_true rfl]
      exact k1 l H2 (ExO.of (e1.trans e2)) (e2 _ _ (e1 _ _ hd)) D (fun x y => ⟨.inl, fun q => q.elim id fun q => D.par.go hw q⟩) (.inl hw)
    · rw [decide_eq_false (fun e => c (by have := V.int.inj e; omega))]
      refine k2 H2 (ExO.of (e1.trans e2)) (e2 _ _ (e1 _ _ hd)) (fun o => ?_)
      rcases o with o | ⟨o, _⟩
      · exact c ((D.par.one _ _ _ _ hw o).mp rfl)
      · exact o w hw
  · have na : ∀ y, ¬ Fl l a y := fun y q => (of_decide_eq_false hm) (mem_fst.mpr ⟨y, q⟩)
    refine q_when (et_test (ev_opL (z := .bl (decide (b ∈ l.map (·.2)))) (ev_var rfl) (el_listVals (ev_var rfl) (e1 _ _ hd)) (fun p H2 h2 e2 => ?_))) (fun hm2 H2 e2 => ?_) (fun hm2 H2 e2 => ?_)
    · rw [dP_snd] at h2
      have q := rv_isL (K := K) (H := H2) (p := p) (x := vi b) (sq_of h2) rfl (flat_L _)
      rw [inV_L] at q
      exact q
    · refine s_ret ev_c (fun H3 e3 => ?_)
      have e := (e1.trans e2).trans e3
      refine k2 H3 (ExO.of e) (e _ _ hd) (fun o => ?_)
      obtain ⟨w, hw⟩ := mem_snd.mp (of_decide_eq_true hm2)
      rcases o with o | ⟨_, o, _⟩
      · exact na _ o
      · exact o w hw
    · have nb : ∀ x, ¬ Fl l x b := fun x q => (of_decide_eq_false hm2) (mem_snd.mpr ⟨x, q⟩)
      have x2 := e1.trans e2
      refine q_asgC (vs := [.ref x, .ref y, vi a, vi b]) (ea_cons (ev_var rfl) (ea_cons (ev_var rfl) (ea_2 (ev_var rfl) (ev_var rfl)))) (fun H3 e3 => ?_)
      have x3 := x2.trans e3
      refine ⟨x, y, ns, ms, a, b, rfl, hx.ex x3, hy.ex x3, hN, hM, ha, by omega, fun p r H4 hp e4 h4 nd hr o => ?_, fun H4 e4 no => ?_⟩
      · have x4 := x3.trans e4
        refine q_when (et_test (ev_op (z := .bl false) (ev_var rfl) ev_c (rv_isN0 rfl))) (fun hc => absurd hc (by decide)) (fun _ H5 e5 => ?_)
        obtain ⟨D', fl, dis⟩ := D.add hN hM hl ha hb na nb o nd hr
        have hd5 := e5 _ _ (x4 _ _ hd)
        have hp5 := e5 _ _ h4
        have hdp : d ≠ p := (ne_of_none (x3 _ _ hd) hp)
        have lr : r.length ≤ ns.length := by
          have := D'.le
          rw [List.length_append] at this
          omega
        have := D.le
        have := hN.len
        refine q_upd (ev_var rfl) hd5 (fun H4 h4 => ty_dK h4) (fun H6 e6 => ?_)
        refine ⟨_, rfl, d, p, dP l, dP r, rfl, rfl, hdp, e6 _ _ hd5, e6 _ _ hp5, by rw [dP_len, dP_len]; omega, ?_⟩
        rw [dP_merge nd dis]
        refine s_ret ev_c (fun H7 e7 => ?_)
        exact k1 (l ++ r) H7 ((ExO.of ((x4.trans e5).trans e6)).upd.trans (ExO.of e7)) (e7 _ _ upd_same) D' fl (.inr ⟨na, nb, o⟩)
      · refine q_when (et_test (ev_op (z := .bl true) (ev_var rfl) ev_c (rv_isN0 rfl))) (fun _ H5 e5 => ?_) (fun hc => absurd hc (by decide))
        refine s_ret ev_c (fun H6 e6 => ?_)
        have e := ((x3.trans e4).trans e5).trans e6
        refine k2 H6 (ExO.of e) (e _ _ hd) (fun o => ?_)
        rcases o with o | ⟨_, _, o⟩
        · exact na _ o
        · exact no o
end K22
namespace K22
open PySem PySem.Spec PyProof.Rows L2 Evl Hm
section
variable {σ : L2.St} {H : Hp} {D : Ends} {tu tw tz : TS} {sp : Sp} {E : XK} {ta : TA} {vs : List V} {t1 : TT} {b1 : Bool}
/-- if f(..): .. -/
theorem s_ifC (h : EvA ta σ H vs) (k : ∀ H1, Ex H H1 → sp vs H1 (fun v H2 => ∃ b, v = .bl b ∧ (if b = true then tu D σ H2 else tw D σ H2)) E) : tIfS (tB (tCall sp [] E ta)) tu tw D σ H :=
  h H (Ex.refl H) _ fun H1 e => by
    show sp (vs ++ []) H1 _ E
    rw [List.append_nil]
    exact k H1 e
theorem q_ifNC (h : EvA ta σ H vs) (k : ∀ H1, Ex H H1 → sp vs H1 (fun v H2 => ∃ b, v = .bl b ∧ (if (!b) = true then tu { D with nx := tz D } σ H2 else tw { D with nx := tz D } σ H2)) E) : tSeq (tIfS (tNot (tB (tCall sp [] E ta))) tu tw) tz D σ H :=
  h H (Ex.refl H) _ fun H1 e => by
    show sp (vs ++ []) H1 _ E
    rw [List.append_nil]
    exact k H1 e
theorem s_ifNC (h : EvA ta σ H vs) (k : ∀ H1, Ex H H1 → sp vs H1 (fun v H2 => ∃ b, v = .bl b ∧ (if (!b) = true then tu D σ H2 else tw D σ H2)) E) : tIfS (tNot (tB (tCall sp [] E ta))) tu tw D σ H :=
  h H (Ex.refl H) _ fun H1 e => by
    show sp (vs ++ []) H1 _ E
    rw [List.append_nil]
    exact k H1 e
/-- if c and not f(..): .. -/
theorem s_ifAndNC (h1 : EvT t1 σ H b1) (k0 : b1 = false → ∀ H1, Ex H H1 → tw D σ H1) (h : b1 = true → EvA ta σ H vs) (k : b1 = true → ∀ H1, Ex H H1 → sp vs H1 (fun v H2 => ∃ b, v = .bl b ∧ (if (!b) = true then tu D σ H2 else tw D σ H2)) E) :
    tIfS (tAnd t1 (tNot (tB (tCall sp [] E ta)))) tu tw D σ H := h1 H (Ex.refl H) _ fun H1 e1 => by
  cases b1 with
  | false =>
    show if false = true then _ else _
    rw [if_neg (by decide)]
    show if false = true then _ else _
    rw [if_neg (by decide)]
    exact k0 rfl H1 e1
  | true =>
    show if true = true then _ else _
    rw [if_pos rfl]
    refine h rfl H1 e1 _ fun H2 e2 => ?_
    show sp (vs ++ []) H2 _ E
    rw [List.append_nil]
    exact k rfl H2 (e1.trans e2)
end
theorem q_forNLL {K : PySem.W.Frag} {σ : L2.St} {H : Hp} {te : TE} {tu tz : TS} {D : Ends} {j : Nat} {xss : List (List Nat)} (h : EvLL te σ H xss) (Pv : List Addr → Addr → Nat → L2.St → Hp → Prop)
    (h0 : ∀ as p H1, H p = none → Ex H H1 → H1 p = some (.lst (as.map V.ref)) → LA H1 as xss → (∀ a ∈ as, H a = none ∧ a ≠ p) → Pv as p 0 σ H1) (hl : ∀ as p i σ' H', Pv as p i σ' H' → H' p = some (.lst (as.map V.ref)))
    (hs : ∀ as p i a xs σ' H', as[i]? = some a → xss[i]? = some xs → Pv as p i σ' H' → tu { D with nx := Pv as p (i + 1), ct := Pv as p (i + 1), bk := tz D } (σ'.set j (some (.ref a))) H') (hd : ∀ as p σ' H', Pv as p xss.length σ' H' → tz D σ' H') :
    tSeq (tFor (iList K te) (gName j) tu) tz D σ H := h H (Ex.refl H) _ fun p H1 hp e l => by
  obtain ⟨as, h1, la, fr⟩ := l
  have ll : (as.map V.ref).length = xss.length := by rw [List.length_map, Paired.length la]
  refine ⟨p, rfl, ⟨_, sq_of h1⟩, for_list (xs := as.map V.ref) (Pv as p) (h0 as p H1 hp e h1 la fr) (fun i σ' H' _ q => sq_of (hl as p i σ' H' q)) (fun i x σ' H' hx q => ?_) (fun σ' H' q => hd as p σ' H' (by rw [← ll]; exact q))⟩
  rw [List.getElem?_map] at hx
  obtain ⟨a, ha, rfl⟩ := Option.map_eq_some_iff.mp hx
  have hi : i < xss.length := by
    have := (List.getElem?_eq_some_iff.mp ha).1
    rw [← Paired.length la]
    exact this
  exact hs as p i a xss[i] σ' H' ha (List.getElem?_eq_getElem hi) q
theorem spll_pieces {K : PySem.W.Frag} {H : Hp} {x : Addr} {ns : List Nat} (m : MeshAt K H x ns) (hM : MP ns) (h : ns.length < 64) : SpLL (sp_Meshpieces K) [.ref x] H (piecesL (fn ns) ns.length ns.length) := fun H1 e Q q E =>
  ⟨x, ns, rfl, m.ex e, hM, h, fun p H' hp ex l => q p H' hp ex l⟩
theorem spll_Lpieces {K : PySem.W.Frag} {H : Hp} {a : Addr} {ns : List Nat} (hS : SqL K H a (L ns)) (hM : MP ns) : SpLL (sp_Lpieces K) [.ref a] H (piecesL (fn ns) ns.length ns.length) := fun H1 e Q q E => ⟨a, ns, rfl, ex_l e hS, hM, fun p H' hp ex l => q p H' hp ex l⟩
theorem LA.off {H : Hp} {as : List Addr} {xss : List (List Nat)} {l : Addr} {o : HO} (h : LA H as xss) (hl : H l = some o) (n : ∀ v, o ≠ .lst v) : ∀ a ∈ as, a ≠ l := fun a ha e => by
  obtain ⟨xs, _, q⟩ := h.items a ha
  rw [e, hl] at q
  exact n _ (Option.some.inj q)
theorem at0 (z : Nat) (r : List Nat) : atI (L (z :: r)) 0 = some (vi z) := L_at (ns := z :: r) (i := 0) (Nat.succ_pos _)
def sp_placesomewhere (K : PySem.W.Frag) : Sp := fun vs H Q _ => ∃ (x y d : Addr) (ns ms : List Nat) (a : Nat) (l : List (Nat × Nat)), vs = [.ref x, .ref y, vi a, .ref d] ∧ MeshAt K H x ns ∧ MeshAt K H y ms ∧ MP ns ∧ MP ms ∧ ns.length = ms.length ∧ a < ns.length ∧
  H d = some (.dK (dP l)) ∧ DP ns ms l ∧
  (∀ b l' H', b < ns.length → ExO d H H' → H' d = some (.dK (dP l')) → DP ns ms l' → (∀ x y, Fl l' x y ↔ Fl l x y ∨ RchP (fn ns) (fn ms) a b x y) → OkP ns ms (Fl l) a b → Q (.bl true) H') ∧
  (∀ H', ExO d H H' → H' d = some (.dK (dP l)) → (∀ b, b < ns.length → ¬ OkP ns ms (Fl l) a b) → Q (.bl false) H')
abbrev nm_placesomewhere : List Str := ["first", "second", "half", "found", "image"]
abbrev pr_placesomewhere : List Str := ["first", "second", "half", "found"]
def t_placesomewhere (K : PySem.W.Frag) : TS :=
  (tSeq (tFor (iRng1 (tCons (tCB (rOwnLen (He.ga K "Mesh") (sp_Meshlen K) E0) (tCons (tVar 1) tNil)) tNil)) (gName 4) (tIfS (tB (tCall (sp_place K) [] E0 (tCons (tVar 0) (tCons (tVar 1) (tCons (tVar 2) (tCons (tVar 4) (tCons (tVar 3) tNil))))))) (tRet (tC (.bl true))) tNext))
  (tRet (tC (.bl false))))
abbrev Wt_placesomewhere (K : PySem.W.Frag) (vs : List V) (H : Hp) (Q : VK) : Prop := t_placesomewhere K { nx := fun _ H' => Q .non H', rt := Q } (start nm_placesomewhere vs) H
theorem ln_placesomewhere {K : PySem.W.Frag} (vs : List V) (H : Hp) (Q : VK) (E : XK) (h : sp_placesomewhere K vs H Q E) : vs.length = pr_placesomewhere.length := by
  obtain ⟨_, _, _, _, _, _, _, rfl, _⟩ := h
  rfl
theorem rd_placesomewhere {K : PySem.W.Frag} (F : KF K) (vs : List V) (H : Hp) (Q : VK) (E : XK) (h : sp_placesomewhere K vs H Q E) : Wt_placesomewhere K vs H Q := by
  obtain ⟨x, y, d, ns, ms, a, l, rfl, hx, hy, hN, hM, hl, ha, hd, D, k1, k2⟩ := h
  show t_placesomewhere K _ [some (.ref x), some (.ref y), some (vi a), some (.ref d), none] H
  have := hM.len
  refine q_forR1 (n := (ms.length : Int)) (ea_1 (ev_cb (ea_1 (ev_var rfl)) (rc_ownLen hy (by omega)))) (by omega) (fun i σ' H' => ∃ v, σ' = [some (.ref x), some (.ref y), some (vi a), some (.ref d), v] ∧ ExO d H H' ∧ H' d = some (.dK (dP l)) ∧ ∀ b, b < i → ¬ OkP ns ms (Fl l) a b) ?_ ?_ ?_
  · intro H1 e1
    exact ⟨_, rfl, ExO.of e1, e1 _ _ hd, fun b hb => absurd hb (Nat.not_lt_zero b)⟩
  · rintro i σ' H' hi ⟨v, rfl, ex, hd', no⟩
    refine s_ifC (vs := [.ref x, .ref y, vi a, vi i, .ref d]) (ea_cons (ev_var rfl) (ea_cons (ev_var rfl) (ea_cons (ev_var rfl) (ea_2 (ev_var rfl) (ev_var rfl))))) (fun H2 e2 => ?_)
    have x2 := ex.trans (ExO.of e2)
    refine ⟨x, y, d, ns, ms, a, i, l, rfl, mesh_exd hx hd x2, mesh_exd hy hd x2, hN, hM, hl, ha, by omega, e2 _ _ hd', D, fun l' H3 x3 h3 D' fl ok => ⟨true, rfl, ?_⟩, fun H3 x3 h3 nk => ⟨false, rfl, ?_⟩⟩
    · rw [if_pos rfl]
      exact s_ret ev_c (fun H4 e4 => k1 i l' H4 (by omega) ((x2.trans x3).trans (ExO.of e4)) (e4 _ _ h3) D' fl ok)
    · rw [if_neg (by decide)]
      refine ⟨_, rfl, x2.trans x3, h3, fun b hb => ?_⟩
      by_cases c : b = i
      · rw [c]
        exact nk
      · exact no b (by omega)
  · rintro σ' H' ⟨v, rfl, ex, hd', no⟩
    refine s_ret ev_c (fun H4 e4 => k2 H4 (ex.trans (ExO.of e4)) (e4 _ _ hd') (fun b hb => no b ?_))
    have : ((ms.length : Int).toNat) = ms.length := Int.toNat_natCast _
    omega
/-- a full renaming that keeps these pairs -/
def FullR (ns ms : List Nat) (ps : List (Nat × Nat)) (s : Nat → Nat) : Prop := Ren (fn ns) (fn ms) ns.length s ∧ ∀ p ∈ ps, s p.1 = p.2
def sp_renaming (K : PySem.W.Frag) : Sp := fun vs H Q _ => ∃ (x y q : Addr) (ns ms : List Nat) (as : List Addr) (ps : List (Nat × Nat)), vs = [.ref x, .ref y, .ref q] ∧ MeshAt K H x ns ∧ MeshAt K H y ms ∧ MP ns ∧ MP ms ∧ ns.length < 64 ∧ SqL K H q (as.map V.ref) ∧ TA2 H as ps ∧
  (ns.length = ms.length → ∀ p ∈ ps, p.1 < ns.length ∧ p.2 < ns.length) ∧
  (∀ d l H', H d = none → Ex H H' → H' d = some (.dK (dP l)) → ns.length = ms.length → DP ns ms l → (∀ x, x < ns.length → ∃ y, Fl l x y) → (∀ p ∈ ps, Fl l p.1 p.2) → Q (.ref d) H') ∧
  (∀ H', Ex H H' → (ns.length = ms.length → ∀ s, ¬ FullR ns ms ps s) → Q .non H')
abbrev nm_renaming : List Str := ["first", "second", "pairs", "found", "half", "image", "piece"]
abbrev pr_renaming : List Str := ["first", "second", "pairs"]
def t_renaming (K : PySem.W.Frag) : TS :=
  (tSeq (tIfS (tTest (tOp rNe (tCB (rOwnLen (He.ga K "Mesh") (sp_Meshlen K) E0) (tCons (tVar 0) tNil)) (tCB (rOwnLen (He.ga K "Mesh") (sp_Meshlen K) E0) (tCons (tVar 1) tNil)))) (tRet (tC .non)) tNext)
  (tSeq (tAsg tDNewK (gName 3))
  (tSeq (tFor (iList K (tVar 2)) (gTup K 2 (gCons (gName 4) (gCons (gName 5) gNil))) (tIfS (tNot (tB (tCall (sp_place K) [] E0 (tCons (tVar 0) (tCons (tVar 1) (tCons (tVar 4) (tCons (tVar 5) (tCons (tVar 3) tNil)))))))) (tRet (tC .non)) tNext))
  (tSeq (tFor (iList K (tMeth (He.ga K "Mesh") "pieces" (sp_Meshpieces K) [] E0 (tVar 0) tNil)) (gName 6) (tIfS (tAnd (tB (tDNotIn (tOp (rIxL K) (tVar 6) (tC (.int 0))) (tVar 3))) (tNot (tB (tCall (sp_placesomewhere K) [] E0 (tCons (tVar 0) (tCons (tVar 1) (tCons (tOp (rIxL K) (tVar 6) (tC (.int 0))) (tCons (tVar 3) tNil)))))))) (tRet (tC .non)) tNext))
  (tRet (tVar 3))))))
abbrev Wt_renaming (K : PySem.W.Frag) (vs : List V) (H : Hp) (Q : VK) : Prop := t_renaming K { nx := fun _ H' => Q .non H', rt := Q } (start nm_renaming vs) H
theorem ln_renaming {K : PySem.W.Frag} (vs : List V) (H : Hp) (Q : VK) (E : XK) (h : sp_renaming K vs H Q E) : vs.length = pr_renaming.length := by
  obtain ⟨_, _, _, _, _, _, _, rfl, _⟩ := h
  rfl
theorem okP_of {ns ms : List Nat} {F : Nat → Nat → Prop} {s : Nat → Nat} {a : Nat} (hN : MP ns) (S : Ren (fn ns) (fn ms) ns.length s) (l1 : ∀ x y, F x y → x < ns.length) (h : ∀ x y, F x y → y = s x) (ha : a < ns.length) : OkP ns ms F a (s a) := by
  by_cases c : ∃ y, F a y
  · obtain ⟨y, q⟩ := c
    rw [← h a y q]
    exact .inl q
  · have na : ∀ y, ¬ F a y := fun y q => c ⟨y, q⟩
    refine .inr ⟨na, fun x q => ?_, S.one (pf_fn hN.p) hN.two ha⟩
    have e := S.inj a x ha (l1 _ _ q) (h x _ q)
    rw [← e] at q
    exact na _ q
theorem paired_ix {α β : Type} {F : α → β → Prop} : ∀ {xs : List α} {ys : List β}, Paired F xs ys → ∀ {i : Nat} {x : α} {y : β}, xs[i]? = some x → ys[i]? = some y → F x y
  | _, _, .cons h t, 0, x, y, hx, hy => by
    obtain rfl := Option.some.inj hx
    obtain rfl := Option.some.inj hy
    exact h
  | _, _, .cons h t, i + 1, x, y, hx, hy => paired_ix t (i := i) hx hy
theorem exd_of {H H' H2 : Hp} {d : Addr} (a : Ex H H') (hd : H d = none) (e : ExO d H' H2) : Ex H H2 := fun b o h => e b o (ne_of_none h hd) (a b o h)
theorem rd_renaming {K : PySem.W.Frag} (F : KF K) (vs : List V) (H : Hp) (Q : VK) (E : XK) (h : sp_renaming K vs H Q E) : Wt_renaming K vs H Q := by
  obtain ⟨x, y, q, ns, ms, as, ps, rfl, hx, hy, hN, hM, h64, hq, ta, hb, k1, k2⟩ := h
  show t_renaming K _ [some (.ref x), some (.ref y), some (.ref q), none, none, none, none] H
  have l1 := hN.len
  have l2 := hM.len
  have P := pf_fn hN.p
  refine q_when (b := !decide (ns.length = ms.length)) (et_test (ev_is (ev_op (ev_cb (ea_1 (ev_var rfl)) (rc_ownLen hx (by omega))) (ev_cb (ea_1 (ev_var rfl)) (rc_ownLen hy (by omega))) (rv_ne rfl)) ?_)) (fun hc H1 e1 => ?_) (fun hc H1 e1 => ?_)
  · congr 2
    by_cases c : ns.length = ms.length
    · rw [c, decide_eq_true rfl, decide_eq_true rfl]
    · rw [decide_eq_false c, decide_eq_false (fun e => c (by have := V.int.inj e; omega))]
  · refine s_ret ev_c (fun H2 e2 => k2 H2 (e1.trans e2) (fun c => ?_))
    rw [decide_eq_true c] at hc
    cases hc
  have hl : ns.length = ms.length := by
    by_cases c : ns.length = ms.length
    · exact c
    · rw [decide_eq_false c] at hc
      cases hc
  have hb := hb hl
  have P' := pf_fn hM.p
  rw [← hl] at P'
  refine q_asgD (fun d hd1 => ?_)
  have hd : H d = none := fresh_back e1 hd1
  have x1 : Ex H (upd H1 d (.dK [])) := e1.mut hd
  have lenps : as.length = ps.length := Paired.length ta
  refine q_forL (a := q) (xs := as.map V.ref) (ev_var rfl) (ex_l x1 hq) (fun i σ' H' => ∃ (v4 v5 : Option V) (l : List (Nat × Nat)), σ' = [some (.ref x), some (.ref y), some (.ref q), some (.ref d), v4, v5, none] ∧ Ex H H' ∧ H' d = some (.dK (dP l)) ∧ DP ns ms l ∧ (∀ p ∈ ps.take i, Fl l p.1 p.2) ∧
    (∀ s, FullR ns ms ps s → ∀ x y, Fl l x y → y = s x)) ?_ ?_ ?_ ?_
  · intro H2 e2
    exact ⟨_, _, [], rfl, x1.trans e2, e2 _ _ upd_same, ⟨.nil, ⟨fun _ _ h => (nomatch h), fun _ _ h => (nomatch h), fun _ _ _ _ h => (nomatch h), fun _ _ h => (nomatch h), fun _ _ h => (nomatch h)⟩⟩, fun p hp => (nomatch hp), fun _ _ _ _ h => (nomatch h)⟩
  · rintro i σ' H' _ ⟨v4, v5, l, rfl, ex, _⟩
    exact ex_l ex hq
  · rintro i v σ' H' hv ⟨v4, v5, l, rfl, ex, hd', D, pl, fu⟩
    rw [List.getElem?_map] at hv
    obtain ⟨u, hu, rfl⟩ := Option.map_eq_some_iff.mp hv
    have hi : i < ps.length := by
      rw [← lenps]
      exact (List.getElem?_eq_some_iff.mp hu).1
    have hp : ps[i]? = some ps[i] := List.getElem?_eq_getElem hi
    have ht := paired_ix ta hu hp
    have mem : ps[i] ∈ ps := List.getElem_mem hi
    generalize ps[i] = p at hp ht mem
    obtain ⟨a, b⟩ := p
    refine ⟨u, [vi a, vi b], rfl, st_of (ex _ _ ht), rfl, vi a, [vi b], rfl, vi b, [], rfl, rfl, ?_⟩
    show tIfS _ _ _ _ [some (.ref x), some (.ref y), some (.ref q), some (.ref d), some (vi a), some (vi b), none] H'
    refine s_ifNC (vs := [.ref x, .ref y, vi a, vi b, .ref d]) (ea_cons (ev_var rfl) (ea_cons (ev_var rfl) (ea_cons (ev_var rfl) (ea_2 (ev_var rfl) (ev_var rfl))))) (fun H2 e2 => ?_)
    have x2 := ex.trans e2
    refine ⟨x, y, d, ns, ms, a, b, l, rfl, hx.ex x2, hy.ex x2, hN, hM, hl, (hb _ mem).1, (hb _ mem).2, e2 _ _ hd', D, fun l' H3 x3 h3 D' fl ok => ⟨true, rfl, ?_⟩, fun H3 x3 h3 nk => ⟨false, rfl, ?_⟩⟩
    · rw [if_neg (by decide)]
      refine ⟨_, _, l', rfl, exd_of x2 hd x3, h3, D', fun p hp => ?_, fun s S => ?_⟩
      · rw [List.take_add_one, ‹ps[i]? = some (a, b)›] at hp
        rcases List.mem_append.mp hp with hp | hp
        · exact (fl _ _).mpr (.inl (pl p hp))
        · rw [show p = (a, b) from List.mem_singleton.mp hp]
          exact (fl _ _).mpr (.inr .refl)
      · intro x y h
        rcases (fl x y).mp h with h | h
        · exact fu s S x y h
        · have e : s a = b := S.2 _ mem
          rw [← e] at h
          exact (S.1.go P hN.two (hb _ mem).1 h).2
    · rw [if_pos (show (!false) = true from rfl)]
      refine s_ret ev_c (fun H4 e4 => k2 H4 ((exd_of x2 hd x3).trans e4) (fun _ s S => nk ?_))
      have e : s a = b := S.2 _ mem
      rw [← e]
      exact okP_of hN S.1 D.par.l1 (fu s S) (hb _ mem).1
  · rintro σ' H' ⟨v4, v5, l, rfl, ex, hd', D, pl, fu⟩
    have pl : ∀ p ∈ ps, Fl l p.1 p.2 := fun p hp => pl p (by
      rw [List.take_of_length_le (by rw [List.length_map]; omega)]
      exact hp)
    refine q_forNLL (ell_mm (hx.ex ex) (ev_var rfl) (by decide +kernel) ea_nil (spll_pieces (hx.ex ex) hN h64)) (fun as' p i σ2 H2 => ∃ (v6 : Option V) (l : List (Nat × Nat)), σ2 = [some (.ref x), some (.ref y), some (.ref q), some (.ref d), v4, v5, v6] ∧ Ex H H2 ∧ H2 p = some (.lst (as'.map V.ref)) ∧ LA H2 as' (piecesL (fn ns) ns.length ns.length) ∧
      H2 d = some (.dK (dP l)) ∧ DP ns ms l ∧ (∀ p ∈ ps, Fl l p.1 p.2) ∧ ((∃ s, FullR ns ms ps s) → ∃ s, Ren (fn ns) (fn ms) ns.length s ∧ ∀ x y, Fl l x y → y = s x) ∧
      ∀ j xs, j < i → (piecesL (fn ns) ns.length ns.length)[j]? = some xs → ∃ z w, z ∈ xs ∧ Fl l z w) ?_ ?_ ?_ ?_
    · intro as' p H2 hp e2 h2 la fr
      exact ⟨_, l, rfl, ex.trans e2, h2, la, e2 _ _ hd', D, pl, fun ⟨s, S⟩ => ⟨s, S.1, fu s S⟩, fun j xs hj _ => absurd hj (Nat.not_lt_zero j)⟩
    · rintro as' p i σ2 H2 ⟨v6, l, rfl, ex, h2, _⟩
      exact h2
    · rintro as' p i u xs σ2 H2 hu hxs ⟨v6, l, rfl, ex, h2, la, hd', D, pl, fu, dn⟩
      have hu' := paired_ix la hu hxs
      have hm : xs ∈ piecesL (fn ns) ns.length ns.length := List.mem_of_getElem? hxs
      rw [piecesL_map] at hm
      obtain ⟨m, hm, exs⟩ := List.mem_map.mp hm
      have hmN : m < ns.length := List.mem_range.mp (List.mem_filter.mp hm).1
      have mm : m ∈ xs := by
        rw [← exs, mem_piece]
        exact ⟨hmN, .refl m⟩
      obtain ⟨z, r, rfl⟩ : ∃ z r, xs = z :: r := by
        cases xs with
        | nil => cases mm
        | cons z r => exact ⟨z, r, rfl⟩
      have hz : z < ns.length := by
        have : z ∈ pieceL (fn ns) ns.length m := by
          rw [exs]
          exact List.mem_cons_self ..
        exact (mem_piece.mp this).1
      have ez : ∀ {H3 : Hp} {σ : L2.St}, Ex H2 H3 → σ[6]? = some (some (.ref u)) → Ev (tOp (rIxL K) (tVar 6) (tC (.int 0))) σ H3 (vi z) := fun e hs => ev_op (ev_var hs) ev_c (rv_ixL (sq_of (e _ _ hu')) (at0 z r))
      have pd : ∀ o, H2 d = some o → p ≠ d := fun o ho e => by
        rw [e, hd'] at h2
        cases h2
      refine s_ifAndNC (vs := [.ref x, .ref y, vi z, .ref d]) (et_B (ev_is (ev_dnin (ez (Ex.refl H2) rfl) (ev_var rfl) hd') (by rw [dP_in D.nd]))) (fun hc H3 e3 => ?_) (fun _ => ea_cons (ev_var rfl) (ea_cons (ev_var rfl) (ea_2 (ez (Ex.refl H2) rfl) (ev_var rfl)))) (fun hc H3 e3 => ?_)
      · refine ⟨_, l, rfl, ex.trans e3, e3 _ _ h2, LA.ex la e3, e3 _ _ hd', D, pl, fu, fun j xs hj hx => ?_⟩
        by_cases c : j = i
        · rw [c, hxs] at hx
          obtain rfl := Option.some.inj hx
          have : z ∈ l.map (·.1) := by
            by_cases c : z ∈ l.map (·.1)
            · exact c
            · rw [decide_eq_false c] at hc
              cases hc
          obtain ⟨w, hw⟩ := mem_fst.mp this
          exact ⟨z, w, List.mem_cons_self .., hw⟩
        · exact dn j xs (by omega) hx
      · have na : ∀ y, ¬ Fl l z y := fun y hy => by
          rw [decide_eq_true (mem_fst.mpr ⟨y, hy⟩)] at hc
          cases hc
        have x3 := ex.trans e3
        have la3 := LA.ex la e3
        refine ⟨x, y, d, ns, ms, z, l, rfl, hx.ex x3, hy.ex x3, hN, hM, hl, hz, e3 _ _ hd', D, fun b l' H4 hbN x4 h4 D' fl ok => ⟨true, rfl, ?_⟩, fun H4 x4 h4 nk => ⟨false, rfl, ?_⟩⟩
        · rw [if_neg (by decide)]
          have offd := LA.off la3 (e3 _ _ hd') (fun _ => by intro h; cases h)
          refine ⟨_, l', rfl, exd_of x3 hd x4, x4 _ _ (pd _ hd') (e3 _ _ h2), paired_imp la3 (fun a xs ha q => x4 _ _ (offd a ha) q), h4, D', fun p hp => (fl _ _).mpr (.inl (pl p hp)), fun S0 => ?_, fun j xs hj hx => ?_⟩
          · obtain ⟨s, S, sl⟩ := fu S0
            rcases ok with ok | ⟨_, nb, o⟩
            · exact absurd ok (na b)
            · obtain ⟨s', S', q, _⟩ := bend S D.par P P' hN.two hz hbN o na nb sl
              exact ⟨s', S', fun x y h => q x y ((fl x y).mp h)⟩
          · by_cases c : j = i
            · rw [c, hxs] at hx
              obtain rfl := Option.some.inj hx
              exact ⟨z, b, List.mem_cons_self .., (fl _ _).mpr (.inr .refl)⟩
            · obtain ⟨z', w, hz', hw⟩ := dn j xs (by omega) hx
              exact ⟨z', w, hz', (fl _ _).mpr (.inl hw)⟩
        · rw [if_pos (show (!false) = true from rfl)]
          refine s_ret ev_c (fun H5 e5 => k2 H5 ((exd_of x3 hd x4).trans e5) (fun _ s S => ?_))
          obtain ⟨s', S', sl⟩ := fu ⟨s, S⟩
          exact nk (s' z) (S'.lt z hz) (okP_of hN S' D.par.l1 sl hz)
    · rintro as' p σ2 H2 ⟨v6, l, rfl, ex, h2, la, hd', D, pl, fu, dn⟩
      refine s_ret (ev_var rfl) (fun H3 e3 => k1 d l H3 hd (ex.trans e3) (e3 _ _ hd') hl D (fun x hx => ?_) pl)
      obtain ⟨m, hm, hr, hmin, _⟩ := piece_min P hN.two hx
      have hmem : pieceL (fn ns) ns.length m ∈ piecesL (fn ns) ns.length ns.length := by
        rw [piecesL_map]
        exact List.mem_map.mpr ⟨m, List.mem_filter.mpr ⟨List.mem_range.mpr hm, minB_iff.mpr hmin⟩, rfl⟩
      obtain ⟨j, hj, ej⟩ := List.mem_iff_getElem.mp hmem
      obtain ⟨z, w, hz, hw⟩ := dn j _ hj (by rw [List.getElem?_eq_getElem hj, ej])
      have hz := mem_piece.mp hz
      exact D.par.gl hw ((rch_symm P hN.two hm hz.2).trans hr)
end K22
namespace K22
open PySem PySem.Spec PyProof.Rows L2 Evl Hm
theorem q_opC {σ : L2.St} {H : Hp} {A : TE} {tp : TA} {sp : Sp} {E : XK} {r : R2} {x : V} {vs : List V} {i : Nat} {D : Ends} {tz : TS} (hA : Ev A σ H x) (hp : EvA tp σ H vs)
    (k : ∀ H1, Ex H H1 → sp vs H1 (fun v H2 => r x v H2 (fun u H3 => tz D (σ.set i (some u)) H3)) E) : tSeq (tAsg (tOp r A (tCall sp [] E tp)) (gName i)) tz D σ H :=
  hA H (Ex.refl H) _ fun H1 e1 => hp H1 e1 _ fun H2 e2 => by
    have q := k H2 (e1.trans e2)
    rw [← List.append_nil vs] at q
    exact q
theorem s_ret2 {σ : L2.St} {H : Hp} {ta tb : TE} {x y : V} {D : Ends} (ha : Ev ta σ H x) (hb : Ev tb σ H y) (k : ∀ T H1, H T = none → Ex H H1 → H1 T = some (.lst [x, y]) → D.rt (.ref T) H1) : tRet (tLst (tCons ta (tCons tb tNil))) D σ H :=
  s_retL (el_lst (ea_2 ha hb) (by show 2 ≤ 100000; decide)) k
theorem fn_set_at {os : List Nat} {j v : Nat} (h : j < os.length) : fn (os.set j v) j = v := fn_at (List.getElem?_set_self h)
theorem fn_set_ne {os : List Nat} {j v x : Nat} (h : j ≠ x) : fn (os.set j v) x = fn os x := by
  unfold fn
  rw [List.getD_eq_getElem?_getD, List.getD_eq_getElem?_getD, List.getElem?_set_ne h]
theorem isP_ext {os : List Nat} {N : Nat} (hl : os.length = N) (P : Pf (fn os) N) : IsP os := by
  have e : os = (List.range N).map (fn os) := by
    refine List.ext_getElem? fun x => ?_
    by_cases hx : x < os.length
    · rw [List.getElem?_map, List.getElem?_range (by omega), fn_get hx]
      rfl
    · rw [List.getElem?_eq_none (by omega), List.getElem?_eq_none (by rw [List.length_map, List.length_range]; omega)]
  rw [e]
  exact isP_of P
theorem isP_moved {ns names os : List Nat} (hN : IsP ns) (hM : IsP names) (h1 : names.length = ns.length) (h2 : os.length = ns.length) (h : ∀ x, x < ns.length → fn os (fn names x) = fn names (fn ns x)) : IsP os := by
  have P := pf_fn hN
  have M := pf_fn hM
  rw [h1] at M
  have sur : ∀ x, x < ns.length → ∃ y, y < ns.length ∧ fn names y = x := fun x hx => ⟨bk names x, by rw [← h1]; exact bk_lt hM (by omega), fn_bk hM (by omega)⟩
  refine isP_ext h2 ⟨fun x hx => ?_, fun x y hx hy e => ?_⟩
  · obtain ⟨j, hj, rfl⟩ := sur x hx
    rw [h j hj]
    exact M.lt _ (P.lt _ hj)
  · obtain ⟨i, hi, rfl⟩ := sur x hx
    obtain ⟨j, hj, rfl⟩ := sur y hy
    rw [h i hi, h j hj] at e
    rw [P.inj _ _ hi hj (M.inj _ _ (P.lt _ hi) (P.lt _ hj) e)]
structure Mvd (m i : Nat) (left names : List Nat) : Prop where
  nd : left.Nodup
  lt : ∀ z ∈ left, z < m
  ll : i + left.length = m
  nl : names.length = 2 * i
  nn : names.Nodup
  nf : ∀ x ∈ names, x / 2 < m ∧ x / 2 ∉ left
theorem Mvd.next {m i j b : Nat} {left names : List Nat} (h : Mvd m i left names) (hj : j < left.length) (hb : b < 2) : Mvd m (i + 1) (left.take j ++ left.drop (j + 1)) (names ++ [2 * fn left j + b, tw (2 * fn left j + b)]) := by
  have pm := perm_out hj
  have nd := pm.symm.nodup h.nd
  rw [List.nodup_cons] at nd
  have zl := fn_mem hj
  have hz := h.lt _ zl
  have hu : (2 * fn left j + b) / 2 = fn left j := by omega
  have ht : tw (2 * fn left j + b) / 2 = fn left j := by
    unfold tw
    split <;> omega
  have sub : ∀ z, z ∈ left.take j ++ left.drop (j + 1) → z ∈ left := fun z hz => pm.mem_iff.mp (List.mem_cons_of_mem _ hz)
  have hne : 2 * fn left j + b ≠ tw (2 * fn left j + b) := by
    unfold tw
    split <;> omega
  have out : ∀ x ∈ names, x ≠ 2 * fn left j + b ∧ x ≠ tw (2 * fn left j + b) := fun x hx => ⟨fun e => (h.nf x hx).2 (by rw [e, hu]; exact zl), fun e => (h.nf x hx).2 (by rw [e, ht]; exact zl)⟩
  refine ⟨nd.2, fun z hz => h.lt z (sub z hz), ?_, ?_, ?_, fun x hx => ?_⟩
  · have := pm.length_eq
    rw [List.length_cons] at this
    have := h.ll
    omega
  · rw [List.length_append, h.nl]
    show 2 * i + 2 = _
    omega
  · rw [List.nodup_append]
    refine ⟨h.nn, ?_, fun x hx y hy e => ?_⟩
    · rw [List.nodup_cons]
      exact ⟨fun z => hne (List.mem_singleton.mp z), by simp⟩
    · rcases List.mem_cons.mp hy with hy | hy
      · exact (out x hx).1 (by rw [e, hy])
      · exact (out x hx).2 (by rw [e, List.mem_singleton.mp hy])
  · rcases List.mem_append.mp hx with hx | hx
    · exact ⟨(h.nf x hx).1, fun z => (h.nf x hx).2 (sub _ z)⟩
    · have e : x / 2 = fn left j := by
        rcases List.mem_cons.mp hx with hx | hx
        · rw [hx, hu]
        · rw [List.mem_singleton.mp hx, ht]
      rw [e]
      exact ⟨hz, nd.1⟩
def sp_Lmoved (K : PySem.W.Frag) : Sp := fun vs H Q _ => ∃ (t a : Addr) (ns : List Nat), vs = [.ref t, .ref a] ∧ Tp (H t) ∧ H a = some (.lst (L ns)) ∧ a ≠ t ∧ MP ns ∧
  ∀ p u v names os H', H p = none → H u = none → H v = none → H' p = some (.lst [.ref u, .ref v]) → H' u = some (.lst (L names)) → H' v = some (.lst (L os)) → u ≠ v → names.length = ns.length → (∀ x ∈ names, x < ns.length) → IsP os → os.length = ns.length →
    Tp (H' t) → ExO t H H' → Q (.ref p) H'
abbrev nm_Lmoved : List Str := ["_law_tape_here", "_law_nexts_here", "_law_k", "_law_left", "_law_names", "_law_at", "_law_first", "_law_half", "_law_others"]
abbrev pr_Lmoved : List Str := ["_law_tape_here", "_law_nexts_here"]
def t_Lmoved (K : PySem.W.Frag) : TS :=
  (tSeq (tAsg (tLc (iRng1 (tCons (tOp zDiv (tCB (cLen K) (tCons (tVar 1) tNil)) (tC (.int 2))) tNil)) (gName 2) tYes (tVar 2) [2]) (gName 3))
  (tSeq (tAsg (tLst tNil) (gName 4))
  (tSeq (tFor (iRng1 (tCons (tOp zDiv (tCB (cLen K) (tCons (tVar 1) tNil)) (tC (.int 2))) tNil)) (gName 2) (tSeq (tAsg (tCall (sp_Lpick K) [] E0 (tCons (tVar 0) (tCons (tCB (cLen K) (tCons (tVar 3) tNil)) tNil))) (gName 5))
      (tSeq (tAsg (tOp zAdd (tOp zMul (tC (.int 2)) (tOp (rIxL K) (tVar 3) (tVar 5))) (tCall (sp_Lpick K) [] E0 (tCons (tVar 0) (tCons (tC (.int 2)) tNil)))) (gName 6))
      (tSeq (tAsg (tOp rCat (tVar 4) (tLst (tCons (tVar 6) (tCons (tCall (sp_Ltwin K) [] E0 (tCons (tVar 6) tNil)) tNil)))) (gName 4))
      (tAsg (tOp rCat (tSl (rSlL K) (tVar 3) tNoPart (tPart (tVar 5))) (tSl (rSlL K) (tVar 3) (tPart (tOp zAdd (tVar 5) (tC (.int 1)))) tNoPart)) (gName 3))))))
  (tSeq (tAsg (tLc (iList K (tVar 1)) (gName 7) tYes (tC (.int 0)) [7]) (gName 8))
  (tSeq (tFor (iRng1 (tCons (tCB (cLen K) (tCons (tVar 1) tNil)) tNil)) (gName 7) (tAsg (tOp (rIxL K) (tVar 4) (tOp (rIxL K) (tVar 1) (tVar 7))) (gSub (tVar 8) (tOp (rIxL K) (tVar 4) (tVar 7)) rSetL)))
  (tRet (tLst (tCons (tVar 4) (tCons (tVar 8) tNil)))))))))
abbrev Wt_Lmoved (K : PySem.W.Frag) (vs : List V) (H : Hp) (Q : VK) : Prop := t_Lmoved K { nx := fun _ H' => Q .non H', rt := Q } (start nm_Lmoved vs) H
theorem ln_Lmoved {K : PySem.W.Frag} (vs : List V) (H : Hp) (Q : VK) (E : XK) (h : sp_Lmoved K vs H Q E) : vs.length = pr_Lmoved.length := by
  obtain ⟨_, _, _, rfl, _⟩ := h
  rfl
theorem rd_Lmoved {K : PySem.W.Frag} (F : KF K) (vs : List V) (H : Hp) (Q : VK) (E : XK) (h : sp_Lmoved K vs H Q E) : Wt_Lmoved K vs H Q := by
  obtain ⟨t, a, ns, rfl, ht, ha, hat, hM, k⟩ := h
  show t_Lmoved K _ [some (.ref t), some (.ref a), none, none, none, none, none, none, none] H
  have l1 := hM.len
  have two := hM.two
  have hn : ∀ {σ : L2.St} {H1 : Hp}, σ[1]? = some (some (.ref a)) → H1 a = some (.lst (L ns)) → EvA (tCons (tOp zDiv (tCB (cLen K) (tCons (tVar 1) tNil)) (tC (.int 2))) tNil) σ H1 [vi (ns.length / 2)] := fun hs h1 =>
    ea_1 (ev_is (ev_op (ev_cb (ea_1 (ev_var hs)) (rc_len (sq_of h1))) ev_c (rv_I ⟨by decide, by decide⟩)) (by
      rw [L_len]
      congr 1
      rw [Int.fdiv_eq_ediv_of_nonneg _ (by decide)]
      omega))
  refine q_asgL (xs := L (List.range (ns.length / 2))) ?_ (fun pl H1 hpl e1 h1 => ?_)
  · have := el_lcR1 (σ := [some (.ref t), some (.ref a), none, none, none, none, none, none, none]) (H := H) (j := 2) (vs := [2]) (t := tYes) (te := tVar 2) (fun _ => true) (fun i => vi i) (hn rfl ha) (by omega) (fun _ => rfl) (fun i H1 _ _ => et_yes) (fun i H1 _ _ _ => ev_var rfl)
    rw [given_all, Int.toNat_natCast] at this
    exact this
  refine q_asgL (el_lst ea_nil (Nat.zero_le _)) (fun pn H2 hpn e2 hp2 => ?_)
  have x2 := e1.trans e2
  refine q_forR1 (hn rfl (x2 _ _ ha)) (by omega) (fun i σ' H' => ∃ (left names : List Nat) (pl pn : Addr) (v2 v5 v6 : Option V), σ' = [some (.ref t), some (.ref a), v2, some (.ref pl), some (.ref pn), v5, v6, none, none] ∧
      H' pl = some (.lst (L left)) ∧ H' pn = some (.lst (L names)) ∧ pl ≠ t ∧ pn ≠ t ∧ H pn = none ∧ Tp (H' t) ∧ ExO t H H' ∧ Mvd (ns.length / 2) i left names) ?_ ?_ ?_
  · intro H3 e3
    refine ⟨List.range (ns.length / 2), [], pl, pn, _, _, _, rfl, e3 _ _ (e2 _ _ h1), e3 _ _ hp2, tp_ne ht hpl, tp_ne ht (fresh_back e1 hpn), fresh_back e1 hpn, tp_ex ht (x2.trans e3), ExO.of (x2.trans e3), List.nodup_range, fun z hz => List.mem_range.mp hz, by rw [List.length_range]; omega, rfl, .nil, fun _ h => (nomatch h)⟩
  · rintro i σ' H' hi ⟨left, names, pl, pn, v2, v5, v6, rfl, a1, a2, a3, a4, a4', a5, a6, M⟩
    have := M.ll
    have hleft : 0 < left.length := by omega
    refine q_asgC (ea_2 (ev_var rfl) (ev_cb (ea_1 (ev_var rfl)) (rc_len (sq_of a1)))) (fun H1 e1 => ?_)
    refine ⟨t, _, rfl, tp_ex a5 e1, by rw [L_len]; omega, by rw [L_len]; omega, fun d H2 d0 d1 t2 y2 => ?_⟩
    rw [L_len] at d1
    obtain ⟨j, rfl⟩ : ∃ j : Nat, d = (j : Int) := ⟨d.toNat, by omega⟩
    have hj : j < left.length := by omega
    have b1 : H2 pl = some (.lst (L left)) := y2 _ _ a3 (e1 _ _ a1)
    have b2 : H2 pn = some (.lst (L names)) := y2 _ _ a4 (e1 _ _ a2)
    have z2 : ExO t H H2 := a6.trans ((ExO.of e1).trans y2)
    refine q_opC (x := .int (2 * (fn left j : Int))) (ev_op ev_c (ev_op (ev_var rfl) (ev_var rfl) (rv_ixL (sq_of b1) (L_at hj))) (rv_I (Or.inl ⟨by decide, by decide⟩))) (ea_2 (ev_var rfl) ev_c) (fun H3 e3 => ?_)
    refine ⟨t, 2, rfl, tp_ex t2 e3, by decide, by decide, fun d H4 c0 c1 t4 y4 => ?_⟩
    obtain ⟨b, rfl⟩ : ∃ b : Nat, d = (b : Int) := ⟨d.toNat, by omega⟩
    have hb : b < 2 := by omega
    refine ⟨_, _, rfl, rfl, ?_⟩
    have eu : (2 * (fn left j : Int) + (b : Int)) = ((2 * fn left j + b : Nat) : Int) := by omega
    dsimp only
    rw [eu]
    have z4 : ExO t H H4 := z2.trans ((ExO.of e3).trans y4)
    have c1 : H4 pl = some (.lst (L left)) := y4 _ _ a3 (e3 _ _ b1)
    have c2 : H4 pn = some (.lst (L names)) := y4 _ _ a4 (e3 _ _ b2)
    have := M.nl
    refine q_asgL (el_catV (ys := L [2 * fn left j + b, tw (2 * fn left j + b)]) (ev_var rfl) c2 (el_lst (ea_2 (ev_var rfl) (ev_call (ea_1 (ev_var rfl)) (spv_Ltwin _))) (by show 2 ≤ 100000; decide)) (by rw [L_len]; show names.length + 2 ≤ 100000; omega)) (fun pn2 H5 hpn2 e5 h5 => ?_)
    have d1 := e5 _ _ c1
    have el1 := el_sl (K := K) (te := tVar 3) (tl := tNoPart) (th := tPart (tVar 5)) (σ := [some (.ref t), some (.ref a), some (vi i), some (.ref pl), some (.ref pn2), some (vi j), some (vi (2 * fn left j + b)), none, none]) (ev_var rfl) eo_none (eo_some (ev_var rfl)) (sq_of d1)
    have el2 := el_sl (K := K) (te := tVar 3) (tl := tPart (tOp zAdd (tVar 5) (tC (.int 1)))) (th := tNoPart) (σ := [some (.ref t), some (.ref a), some (vi i), some (.ref pl), some (.ref pn2), some (vi j), some (vi (2 * fn left j + b)), none, none]) (ev_var rfl) (eo_some (ev_op (ev_var rfl) ev_c rv_I0)) eo_none (sq_of d1)
    have ej : ((j : Int) + 1) = ((j + 1 : Nat) : Int) := by omega
    rw [cut_to (by rw [L_len]; omega), L_take] at el1
    simp only [ej] at el2
    rw [cut_from (by rw [L_len]; omega), L_drop] at el2
    refine s_asgL (el_cat el1 el2 (by rw [L_len, L_len, List.length_take, List.length_drop]; omega)) (fun pq H6 hpq e6 h6 => ?_)
    have t5 := tp_ex t4 e5
    refine ⟨left.take j ++ left.drop (j + 1), names ++ [2 * fn left j + b, tw (2 * fn left j + b)], pq, pn2, _, _, _, rfl, by rw [h6, L_app], by rw [e6 _ _ h5, L_app], tp_ne t5 hpq, tp_ne t4 hpn2, ?_, tp_ex t5 e6, z4.trans (ExO.of (e5.trans e6)), M.next hj hb⟩
    cases c : H pn2 with
    | none => rfl
    | some o =>
      have := z4 pn2 o (tp_ne t4 hpn2) c
      rw [hpn2] at this
      cases this
  · rintro σ' H' ⟨left, names, pl, pn, v2, v5, v6, rfl, a1, a2, a3, a4, a4', a5, a6, M⟩
    rw [Int.toNat_natCast] at M
    have ml := M.ll
    have mn := M.nl
    have hl0 : left = [] := List.eq_nil_of_length_eq_zero (by omega)
    have nl : names.length = ns.length := by omega
    have nb : ∀ x ∈ names, x < ns.length := fun x hx => by
      have := (M.nf x hx).1
      omega
    have ip : IsP names := isP_below M.nn (fun x hx => by rw [nl]; exact nb x hx)
    have ha' := a6 _ _ hat ha
    refine q_asgL (xs := L (List.replicate ns.length 0)) ?_ (fun po H3 hpo e3 h3 => ?_)
    · have := el_lcL (K := K) (σ := [some (.ref t), some (.ref a), v2, some (.ref pl), some (.ref pn), v5, v6, none, none]) (H := H') (j := 7) (vs := [7]) (tl := tVar 1) (t := tYes) (te := tC (.int 0)) (fun _ => true) (fun i => .int 0) (ev_var rfl) (sq_of ha') (by rw [L_len]; omega) (fun _ => rfl) (fun i x H1 _ _ => et_yes) (fun i x H1 _ _ _ => ev_c)
      rw [given_all, L_len] at this
      have e : (List.range ns.length).map (fun _ => V.int 0) = L (List.replicate ns.length 0) := by
        unfold L
        rw [List.map_replicate]
        refine List.eq_replicate_iff.mpr ⟨by rw [List.length_map, List.length_range], fun b hb => ?_⟩
        obtain ⟨i, _, rfl⟩ := List.mem_map.mp hb
        rfl
      rw [e] at this
      exact this
    have P := pf_fn hM.p
    have Mn := pf_fn ip
    have po0 : H po = none := by
      cases c : H po with
      | none => rfl
      | some o =>
        have := a6 po o (tp_ne a5 hpo) c
        rw [hpo] at this
        cases this
    have hpopn : pn ≠ po := ne_of_none a2 hpo
    have hpoa : a ≠ po := ne_of_none ha' hpo
    refine q_forR1 (n := (ns.length : Int)) (ea_1 (ev_is (ev_cb (ea_1 (ev_var rfl)) (rc_len (sq_of (e3 _ _ ha')))) (by rw [L_len]))) (by omega) (fun i σ2 H2 => ∃ (os : List Nat) (v7 : Option V), σ2 = [some (.ref t), some (.ref a), v2, some (.ref pl), some (.ref pn), v5, v6, v7, some (.ref po)] ∧
      Ex H' H2 ∧ H2 po = some (.lst (L os)) ∧ os.length = ns.length ∧ ∀ x, x < i → fn os (fn names x) = fn names (fn ns x)) ?_ ?_ ?_
    · intro H4 e4
      exact ⟨List.replicate ns.length 0, _, rfl, e3.trans e4, e4 _ _ h3, List.length_replicate .., fun x hx => absurd hx (Nat.not_lt_zero x)⟩
    · rintro i σ2 H2 hi ⟨os, v7, rfl, ex, ho, ol, hs⟩
      have hi' : i < ns.length := by omega
      have q1 : fn names i < ns.length := nb _ (fn_mem (by omega))
      refine s_setL ho (ev_op (ev_var rfl) (ev_op (ev_var rfl) (ev_var rfl) (rv_ixL (sq_of (ex _ _ ha')) (L_at hi'))) (rv_ixL (sq_of (ex _ _ a2)) (L_at (by rw [nl]; exact P.lt _ hi')))) (ev_var rfl) (ev_op (ev_var rfl) (ev_var rfl) (rv_ixL (sq_of (ex _ _ a2)) (L_at (by omega)))) (by rw [L_len, ol]; exact q1) (fun H4 e4 => ?_)
      rw [L_set]
      refine ⟨os.set (fn names i) (fn names (fn ns i)), _, rfl, (ex.trans e4).mut hpo, upd_same, by rw [List.length_set, ol], fun x hx => ?_⟩
      by_cases c : x = i
      · rw [c, fn_set_at (by rw [ol]; exact q1)]
      · rw [fn_set_ne (fun e => c (Mn.inj x i (by omega) (by omega) e.symm)), hs x (by omega)]
    · rintro σ2 H2 ⟨os, v7, rfl, ex, ho, ol, hs⟩
      rw [Int.toNat_natCast] at hs
      refine s_ret2 (ev_var rfl) (ev_var rfl) (fun T H3 hT e3 h3 => ?_)
      have x3 := ex.trans e3
      have T0 : H T = none := by
        cases c : H T with
        | none => rfl
        | some o =>
          by_cases c2 : T = t
          · obtain ⟨_, _, z, _⟩ := tp_ex a5 ex
            rw [← c2, hT] at z
            cases z
          · have := ex _ _ (a6 T o c2 c)
            rw [hT] at this
            cases this
      exact k T pn po names os H3 T0 a4' po0 h3 (x3 _ _ a2) (e3 _ _ ho) hpopn nl nb (isP_moved hM.p ip nl ol hs) ol (tp_ex a5 x3) (a6.trans (ExO.of x3))
end K22
namespace K22
open PySem PySem.Spec PyProof.Rows L2 Evl Hm
def pl (p : Nat × Nat) : List Nat := [p.1, p.2]
theorem pl_inj {p q : Nat × Nat} (h : pl p = pl q) : p = q := by
  obtain ⟨a, b⟩ := p
  obtain ⟨c, d⟩ := q
  cases h
  rfl
/-- what the queue walk keeps: the first k entries are done -/
structure QI (f g : Nat → Nat) (a b : Nat) (l : List (Nat × Nat)) (k : Nat) : Prop where
  st : ∀ p ∈ l, RchP f g a b p.1 p.2
  s0 : (a, b) ∈ l
  nx : ∀ i p, i < k → l[i]? = some p → (f p.1, g p.2) ∈ l
  tw : ∀ i p, i < k → l[i]? = some p → (Hm.tw p.1, Hm.tw p.2) ∈ l
  n1 : (l.map (·.1)).Nodup
  n2 : (l.map (·.2)).Nodup
section
variable {f g : Nat → Nat} {a b x y k : Nat} {l : List (Nat × Nat)}
theorem QI.done (h : QI f g a b l l.length) : ∀ x y, (x, y) ∈ l ↔ RchP f g a b x y := fun x y => by
  refine ⟨fun q => h.st _ q, fun q => ?_⟩
  have at' : ∀ {p}, p ∈ l → ∃ i, i < l.length ∧ l[i]? = some p := fun {p} hp => by
    obtain ⟨i, hi, e⟩ := List.mem_iff_getElem.mp hp
    exact ⟨i, hi, by rw [List.getElem?_eq_getElem hi, e]⟩
  induction q with
  | refl => exact h.s0
  | nx _ ih =>
    obtain ⟨i, hi, e⟩ := at' ih
    exact h.nx i _ hi e
  | tw _ ih =>
    obtain ⟨i, hi, e⟩ := at' ih
    exact h.tw i _ hi e
theorem QI.one (h : QI f g a b l l.length) : OneP f g a b := fun x y x' y' q q' => by
  have m := (h.done x y).mpr q
  have m' := (h.done x' y').mpr q'
  exact ⟨fun e => congrArg Prod.snd (nodup_inj h.n1 m m' e), fun e => congrArg Prod.fst (nodup_inj h.n2 m m' e)⟩
theorem QI.le {N : Nat} (P : Pf f N) (hN : N % 2 = 0) (ha : a < N) (h : QI f g a b l k) : l.length ≤ N := by
  have := nodup_le N _ h.n1 (fun x hx => by
    obtain ⟨p, hp, rfl⟩ := List.mem_map.mp hx
    exact rch_lt P hN ha (h.st p hp).l)
  rwa [List.length_map] at this
theorem QI.push (h : QI f g a b l k) (r : RchP f g a b x y) (m1 : x ∉ l.map (·.1)) (m2 : y ∉ l.map (·.2)) (hk : k ≤ l.length) : QI f g a b (l ++ [(x, y)]) k := by
  have old : ∀ {i p}, i < k → (l ++ [(x, y)])[i]? = some p → l[i]? = some p := fun {i p} hi e => by
    rw [List.getElem?_append_left (by omega)] at e
    exact e
  refine ⟨fun p hp => ?_, List.mem_append_left _ h.s0, fun i p hi e => List.mem_append_left _ (h.nx i p hi (old hi e)), fun i p hi e => List.mem_append_left _ (h.tw i p hi (old hi e)), ?_, ?_⟩
  · rcases List.mem_append.mp hp with hp | hp
    · exact h.st p hp
    · rw [List.mem_singleton.mp hp]
      exact r
  · rw [List.map_append]
    exact nodup_snoc h.n1 m1
  · rw [List.map_append]
    exact nodup_snoc h.n2 m2
theorem QI.next (h : QI f g a b l k) (e : l[k]? = some (x, y)) (h1 : (Hm.tw x, Hm.tw y) ∈ l) (h2 : (f x, g y) ∈ l) : QI f g a b l (k + 1) := by
  refine ⟨h.st, h.s0, fun i p hi q => ?_, fun i p hi q => ?_, h.n1, h.n2⟩
  · by_cases c : i = k
    · rw [c, e] at q
      obtain rfl := Option.some.inj q
      exact h2
    · exact h.nx i p (by omega) q
  · by_cases c : i = k
    · rw [c, e] at q
      obtain rfl := Option.some.inj q
      exact h1
    · exact h.tw i p (by omega) q
/-- the entries that share a half with (x, y) -/
def shr (x y : Nat) (e : Nat × Nat) : Bool := decide (e.1 = x) || decide (e.2 = y)
theorem shr_nil (h : l.filter (shr x y) = []) : x ∉ l.map (·.1) ∧ y ∉ l.map (·.2) := by
  have no : ∀ p ∈ l, shr x y p = false := fun p hp => by
    cases c : shr x y p with
    | false => rfl
    | true =>
      have : p ∈ l.filter (shr x y) := List.mem_filter.mpr ⟨hp, c⟩
      rw [h] at this
      cases this
  refine ⟨fun m => ?_, fun m => ?_⟩
  · obtain ⟨p, hp, e⟩ := List.mem_map.mp m
    have := no p hp
    unfold shr at this
    rw [decide_eq_true e] at this
    cases this
  · obtain ⟨p, hp, e⟩ := List.mem_map.mp m
    have := no p hp
    unfold shr at this
    rw [decide_eq_true e, Bool.or_true] at this
    cases this
theorem all_same {z : Nat × Nat} : ∀ {l : List (Nat × Nat)}, l.Nodup → (∀ p ∈ l, p = z) → l ≠ [] → l = [z]
  | [], _, _, h => (h rfl).elim
  | [p], _, h, _ => by rw [h p (List.mem_cons_self ..)]
  | p :: q :: r, nd, h, _ => by
    have e1 := h p (List.mem_cons_self ..)
    have e2 := h q (List.mem_cons_of_mem _ (List.mem_cons_self ..))
    rw [List.nodup_cons] at nd
    exact (nd.1 (by rw [e1, ← e2]; exact List.mem_cons_self ..)).elim
theorem nodup_of_map {α β : Type} {f : α → β} : ∀ {l : List α}, (l.map f).Nodup → l.Nodup
  | [], _ => .nil
  | p :: r, nd => by
    rw [List.map_cons, List.nodup_cons] at nd
    rw [List.nodup_cons]
    exact ⟨fun h => nd.1 (List.mem_map_of_mem h), nodup_of_map nd.2⟩
theorem QI.clash (h : QI f g a b l k) (r : RchP f g a b x y) (n0 : l.filter (shr x y) ≠ []) (n1 : l.filter (shr x y) ≠ [(x, y)]) : ¬ OneP f g a b := fun o => by
  refine n1 (all_same ((nodup_of_map h.n1).filter _) (fun p hp => ?_) n0)
  obtain ⟨hp, c⟩ := List.mem_filter.mp hp
  unfold shr at c
  rw [Bool.or_eq_true, decide_eq_true_iff, decide_eq_true_iff] at c
  have := o _ _ _ _ (h.st p hp) r
  obtain ⟨u, v⟩ := p
  rcases c with c | c
  · rw [show u = x from c, show v = y from this.mp c]
  · rw [show v = y from c, show u = x from this.mpr c]
end
theorem given_filter {as : List Addr} {l : List (Nat × Nat)} (g : Nat × Nat → Bool) (hl : as.length = l.length) : ∀ n, n ≤ l.length →
    ∃ as', given n (fun i => g (l.getD i (0, 0))) (fun i => V.ref (as.getD i 0)) = as'.map V.ref ∧ (∀ H, LA H as (l.map pl) → LA H as' (((l.take n).filter g).map pl))
  | 0, _ => ⟨[], rfl, fun _ _ => .nil⟩
  | n + 1, hn => by
    obtain ⟨as', e, h⟩ := given_filter g hl n (by omega)
    have hx : l[n]? = some l[n] := List.getElem?_eq_getElem hn
    have ha : as[n]? = some as[n] := List.getElem?_eq_getElem (by omega)
    have tk : l.take (n + 1) = l.take n ++ [l[n]] := by
      rw [List.take_add_one, hx]
      rfl
    have dx : l.getD n (0, 0) = l[n] := by
      rw [List.getD_eq_getElem?_getD, hx]
      rfl
    have da : as.getD n 0 = as[n] := by
      rw [List.getD_eq_getElem?_getD, ha]
      rfl
    cases c : g l[n] with
    | true =>
      refine ⟨as' ++ [as[n]], ?_, fun H la => ?_⟩
      · rw [given_yes (by rw [dx]; exact c), e, List.map_append, da]
        rfl
      · rw [tk, List.filter_append, List.filter_cons, if_pos c, List.map_append]
        refine paired_snoc (h H la) ?_
        exact paired_ix la (i := n) ha (by rw [List.getElem?_map, hx]; rfl)
    | false =>
      refine ⟨as', ?_, fun H la => ?_⟩
      · rw [given_no (by rw [dx]; exact c), e]
      · rw [tk, List.filter_append, List.filter_cons, if_neg (by rw [c]; decide), List.filter_nil, List.append_nil]
        exact h H la
section
variable {K : PySem.W.Frag} {σ : L2.St} {H : Hp} {ta tb te : TE} {D : Ends} {tz tu : TS}
theorem ell_lst2 {xs ys : List Nat} (ha : EvL ta σ H (L xs)) (hb : EvL tb σ H (L ys)) : EvLL (tLst (tCons ta (tCons tb tNil))) σ H [xs, ys] := fun H1 e Q q =>
  ha H1 e _ fun p H2 hp e2 h2 => hb H2 (e.trans e2) _ fun r H3 hr e3 h3 => ⟨by show 2 ≤ sizeLine; decide, fun T hT => by
    refine q T _ (fresh_back (e2.trans e3) hT) ((e2.trans e3).trans (Ex.new hT)) ⟨[p, r], upd_same, .cons ((Ex.new hT) _ _ (e3 _ _ h2)) (.cons ((Ex.new hT) _ _ h3) .nil), fun a ha => ?_⟩
    rcases List.mem_cons.mp ha with ha | ha
    · rw [ha]
      exact ⟨hp, ne_of_none (e3 _ _ h2) hT⟩
    · rw [List.mem_singleton.mp ha]
      exact ⟨fresh_back e2 hr, ne_of_none h3 hT⟩⟩
theorem q_lst1L {i : Nat} {xs : List V} (h : EvL te σ H xs) (k : ∀ u t H1, H u = none → Ex H H1 → H1 t = none → H1 u = some (.lst xs) → tz D (σ.set i (some (.ref t))) (upd H1 t (.lst [.ref u]))) : tSeq (tAsg (tLst (tCons te tNil)) (gName i)) tz D σ H :=
  h H (Ex.refl H) _ fun u H1 hu e1 h1 => ⟨by show 1 ≤ sizeLine; decide, fun t ht => k u t H1 hu e1 ht h1⟩
theorem q_unp2L {i j : Nat} {a : Addr} {u v : V} (h : Ev te σ H (.ref a)) (hS : SqL K H a [u, v]) (k : ∀ H1, Ex H H1 → tz D ((σ.set i (some u)).set j (some v)) H1) : tSeq (tAsg te (gLst K 2 (gCons (gName i) (gCons (gName j) gNil)))) tz D σ H :=
  h H (Ex.refl H) _ fun H1 e1 => ⟨a, [u, v], rfl, ex_l e1 hS, rfl, u, [v], rfl, v, [], rfl, rfl, k H1 e1⟩
end
theorem at1 (z w : Nat) : atI (L [z, w]) 1 = some (vi w) := L_at (ns := [z, w]) (i := 1) (by show 1 < 2; omega)
def sp_Lspread (K : PySem.W.Frag) : Sp := fun vs H Q _ => ∃ (p1 p2 : Addr) (ns ms : List Nat) (a b : Nat), vs = [.ref p1, .ref p2, vi a, vi b] ∧ SqL K H p1 (L ns) ∧ SqL K H p2 (L ms) ∧ MP ns ∧ MP ms ∧ a < ns.length ∧ b < ms.length ∧
  (∀ (p : Addr) (l : List (Nat × Nat)) H', H p = none → Ex H H' → LL H' p (l.map pl) → (l.map (·.1)).Nodup → (∀ x y, (x, y) ∈ l ↔ RchP (fn ns) (fn ms) a b x y) → OneP (fn ns) (fn ms) a b → Q (.ref p) H') ∧
  (∀ H', Ex H H' → ¬ OneP (fn ns) (fn ms) a b → Q .non H')
abbrev nm_Lspread : List Str := ["_law_nexts_here", "_law_others", "_law_half", "_law_other", "_law_pairs", "_law_at", "_law_old", "_law_new", "_law_pair", "_law_known", "_law_entry"]
abbrev pr_Lspread : List Str := ["_law_nexts_here", "_law_others", "_law_half", "_law_other"]
def t_Lspread (K : PySem.W.Frag) : TS :=
  (tSeq (tAsg (tLst (tCons (tLst (tCons (tVar 2) (tCons (tVar 3) tNil))) tNil)) (gName 4))
  (tSeq (tAsg (tC (.int 0)) (gName 5))
  (tSeq (tWhile (tAnd (tTest (tOp zLt (tVar 5) (tCB (cLen K) (tCons (tVar 4) tNil)))) (tTest (tOp zLe (tVar 5) (tCB (cLen K) (tCons (tVar 0) tNil))))) (tSeq (tAsg (tOp (rIxL K) (tVar 4) (tVar 5)) (gLst K 2 (gCons (gName 6) (gCons (gName 7) gNil))))
      (tSeq (tFor (iList K (tLst (tCons (tLst (tCons (tCall (sp_Ltwin K) [] E0 (tCons (tVar 6) tNil)) (tCons (tCall (sp_Ltwin K) [] E0 (tCons (tVar 7) tNil)) tNil))) (tCons (tLst (tCons (tOp (rIxL K) (tVar 0) (tVar 6)) (tCons (tOp (rIxL K) (tVar 1) (tVar 7)) tNil))) tNil)))) (gName 8) (tSeq (tAsg (tLc (iList K (tVar 4)) (gName 10) (tOr (tTest (tOp rEq (tOp (rIxL K) (tVar 10) (tC (.int 0))) (tOp (rIxL K) (tVar 8) (tC (.int 0))))) (tTest (tOp rEq (tOp (rIxL K) (tVar 10) (tC (.int 1))) (tOp (rIxL K) (tVar 8) (tC (.int 1)))))) (tVar 10) [10]) (gName 9))
          (tIfS (tTest (tOp (rEqD K) (tVar 9) (tLst tNil))) (tDrop (tBM K "list" rAppend (tVar 4) (tCons (tVar 8) tNil))) (tIfS (tTest (tOp (rNeD K) (tVar 9) (tLst (tCons (tVar 8) tNil)))) (tRet (tC .non)) tNext))))
      (tAsg (tOp zAdd (tVar 5) (tC (.int 1))) (gName 5)))))
  (tRet (tVar 4)))))
abbrev Wt_Lspread (K : PySem.W.Frag) (vs : List V) (H : Hp) (Q : VK) : Prop := t_Lspread K { nx := fun _ H' => Q .non H', rt := Q } (start nm_Lspread vs) H
theorem ln_Lspread {K : PySem.W.Frag} (vs : List V) (H : Hp) (Q : VK) (E : XK) (h : sp_Lspread K vs H Q E) : vs.length = pr_Lspread.length := by
  obtain ⟨_, _, _, _, _, _, rfl, _⟩ := h
  rfl
theorem rd_Lspread {K : PySem.W.Frag} (F : KF K) (vs : List V) (H : Hp) (Q : VK) (E : XK) (h : sp_Lspread K vs H Q E) : Wt_Lspread K vs H Q := by
  obtain ⟨p1, p2, ns, ms, a, b, rfl, h1, h2, hN, hM, ha, hbm, k1, k2⟩ := h
  show t_Lspread K _ [some (.ref p1), some (.ref p2), some (vi a), some (vi b), none, none, none, none, none, none, none] H
  have P := pf_fn hN.p
  have P' := pf_fn hM.p
  have nl := hN.len
  refine q_lst1L (xs := L [a, b]) (el_lst (ea_2 (ev_var rfl) (ev_var rfl)) (by show 2 ≤ 100000; decide)) (fun u t H1 hu e1 ht hu1 => ?_)
  have ht0 : H t = none := fresh_back e1 ht
  refine q_asg ev_c (fun H2 e2 => ?_)
  have x2 : Ex H H2 := (e1.trans (Ex.new ht)).trans e2
  refine q_while (fun mm σ' H' => ∃ (l : List (Nat × Nat)) (as : List Addr) (k : Nat) (v6 v7 v8 v9 : Option V), mm = ns.length - k ∧ k ≤ l.length ∧ QI (fn ns) (fn ms) a b l k ∧
    σ' = [some (.ref p1), some (.ref p2), some (vi a), some (vi b), some (.ref t), some (vi k), v6, v7, v8, v9, none] ∧ Ex H H' ∧ H' t = some (.lst (as.map V.ref)) ∧ LA H' as (l.map pl)) _
    ⟨[(a, b)], [u], 0, none, none, none, none, rfl, Nat.zero_le _, ⟨fun p hp => by rw [List.mem_singleton.mp hp]; exact .refl, List.mem_singleton.mpr rfl, fun i _ h => absurd h (Nat.not_lt_zero i), fun i _ h => absurd h (Nat.not_lt_zero i), by simp, by simp⟩, rfl, x2, e2 _ _ upd_same, .cons (e2 _ _ ((Ex.new ht) _ _ hu1)) .nil⟩ ?_
  rintro mm σ' H3 ⟨l, as, k, v6, v7, v8, v9, rfl, hk, S, rfl, x3, at3, la⟩
  have ll := S.le P hN.two ha
  have al : as.length = l.length := by
    have := Paired.length la
    rwa [List.length_map] at this
  refine ⟨decide (k < l.length) && true, et_and (et_test (ev_is (ev_op (ev_var rfl) (ev_cb (ea_1 (ev_var rfl)) (rc_len (sq_of at3))) rv_I0) ?_)) (fun _ => et_test (ev_is (ev_op (ev_var rfl) (ev_cb (ea_1 (ev_var rfl)) (rc_len (ex_l x3 h1))) rv_I0) ?_)), fun hb H4 e4 => ?_, fun hb H4 e4 => ?_⟩
  · rw [List.length_map, al]
    congr 1
    rw [decide_eq_decide]
    omega
  · rw [L_len]
    congr 1
    rw [decide_eq_true_iff]
    omega
  · rw [Bool.and_true, decide_eq_true_iff] at hb
    have hkp : l[k]? = some l[k] := List.getElem?_eq_getElem hb
    have hka : as[k]? = some as[k] := List.getElem?_eq_getElem (by omega)
    generalize hz : l[k] = z at hkp
    generalize hc : as[k] = c at hka
    obtain ⟨o, n⟩ := z
    have on := S.st (o, n) (List.mem_of_getElem? hkp)
    have ho : o < ns.length := rch_lt P hN.two ha on.l
    have hn : n < ms.length := rch_lt P' hM.two hbm on.r
    have x4 := x3.trans e4
    have la4 := LA.ex la e4
    have hcl : H4 c = some (.lst (L [o, n])) := paired_ix la4 hka (by rw [List.getElem?_map, hkp]; rfl)
    refine ⟨_, fun σ2 H2 hw => hw, ?_⟩
    refine q_unp2L (u := vi o) (v := vi n) (ev_op (ev_var rfl) (ev_var rfl) (rv_ixL (v := .ref c) (sq_of (e4 _ _ at3)) (atI_nat (by rw [List.getElem?_map, hka]; rfl)))) (sq_of hcl) (fun H5 e5 => ?_)
    have x5 := x4.trans e5
    refine q_forNLL (K := K) (xss := [[tw o, tw n], [fn ns o, fn ms n]]) (ell_lst2 (el_lst (ea_2 (ev_call (ea_1 (ev_var rfl)) (spv_Ltwin _)) (ev_call (ea_1 (ev_var rfl)) (spv_Ltwin _))) (by show 2 ≤ 100000; decide)) (el_lst (ea_2 (ev_op (ev_var rfl) (ev_var rfl) (rv_ixL (ex_l x5 h1) (L_at ho))) (ev_op (ev_var rfl) (ev_var rfl) (rv_ixL (ex_l x5 h2) (L_at hn)))) (by show 2 ≤ 100000; decide)))
      (fun bs q i σ2 H' => ∃ (l : List (Nat × Nat)) (as : List Addr) (v8 v9 : Option V), k < l.length ∧ l[k]? = some (o, n) ∧ QI (fn ns) (fn ms) a b l k ∧ (0 < i → (tw o, tw n) ∈ l) ∧ (1 < i → (fn ns o, fn ms n) ∈ l) ∧
        σ2 = [some (.ref p1), some (.ref p2), some (vi a), some (vi b), some (.ref t), some (vi k), some (vi o), some (vi n), v8, v9, none] ∧ Ex H H' ∧ H' t = some (.lst (as.map V.ref)) ∧ LA H' as (l.map pl) ∧ H' q = some (.lst (bs.map V.ref)) ∧ q ≠ t ∧ LA H' bs [[tw o, tw n], [fn ns o, fn ms n]] ∧ ∀ c ∈ bs, c ≠ t) ?_ ?_ ?_ ?_
    · intro bs q H6 hq e6 h6 lb fr
      have at5 := e5 _ _ (e4 _ _ at3)
      exact ⟨l, as, _, _, hb, hkp, S, fun h => absurd h (Nat.lt_irrefl 0), fun h => absurd h (by omega), rfl, x5.trans e6, e6 _ _ at5, LA.ex la4 (e5.trans e6), h6, (ne_of_none at5 hq).symm, lb, fun c hc => (ne_of_none at5 (fr c hc).1).symm⟩
    · rintro bs q i σ2 H' ⟨_, _, _, _, _, _, _, _, _, _, _, _, _, h, _⟩
      exact h
    · rintro bs q i d xs σ2 H' hd hxs ⟨l, as, v8, v9, hkl, hkp, S, g1, g2, rfl, x6, at6, la6, hq6, hqt, lb, fb⟩
      obtain ⟨x, y, rfl, r, g1', g2'⟩ : ∃ x y : Nat, xs = [x, y] ∧ RchP (fn ns) (fn ms) a b x y ∧ (∀ l' : List (Nat × Nat), (∀ z ∈ l, z ∈ l') → (x, y) ∈ l' → 0 < i + 1 → (tw o, tw n) ∈ l') ∧ (∀ l' : List (Nat × Nat), (∀ z ∈ l, z ∈ l') → (x, y) ∈ l' → 1 < i + 1 → (fn ns o, fn ms n) ∈ l') := by
        match i, hxs with
        | 0, hxs =>
          obtain rfl := Option.some.inj hxs
          exact ⟨_, _, rfl, on.tw, fun l' _ m _ => m, fun l' _ _ h => absurd h (by omega)⟩
        | 1, hxs =>
          obtain rfl := Option.some.inj hxs
          exact ⟨_, _, rfl, on.nx, fun l' s _ _ => s _ (g1 (by omega)), fun l' _ m _ => m⟩
        | i + 2, hxs => cases hxs
      have hd6 : H' d = some (.lst (L [x, y])) := paired_ix lb hd hxs
      have hdt : d ≠ t := fb d (List.mem_of_getElem? hd)
      have ll := S.le P hN.two ha
      have al : as.length = l.length := by
        have := Paired.length la6
        rwa [List.length_map] at this
      obtain ⟨as', eg, lf⟩ := given_filter (shr x y) al l.length (Nat.le_refl _)
      rw [List.take_length] at lf
      have el := el_lcL (K := K) (σ := [some (.ref p1), some (.ref p2), some (vi a), some (vi b), some (.ref t), some (vi k), some (vi o), some (vi n), some (.ref d), v9, none]) (H := H') (j := 10) (vs := [10]) (tl := tVar 4) (te := tVar 10)
        (t := tOr (tTest (tOp rEq (tOp (rIxL K) (tVar 10) (tC (.int 0))) (tOp (rIxL K) (tVar 8) (tC (.int 0))))) (tTest (tOp rEq (tOp (rIxL K) (tVar 10) (tC (.int 1))) (tOp (rIxL K) (tVar 8) (tC (.int 1))))))
        (fun i => shr x y (l.getD i (0, 0))) (fun i => V.ref (as.getD i 0)) (ev_var rfl) (sq_of at6) (by rw [List.length_map]; omega) (fun _ => rfl) (fun i v H1 ex hv => by
          rw [List.getElem?_map] at hv
          obtain ⟨c, hc, rfl⟩ := Option.map_eq_some_iff.mp hv
          have hi : i < l.length := by
            rw [← al]
            exact (List.getElem?_eq_some_iff.mp hc).1
          have hli : l[i]? = some l[i] := List.getElem?_eq_getElem hi
          have hcl := paired_ix la6 hc (by rw [List.getElem?_map, hli]; rfl)
          have dx : l.getD i (0, 0) = l[i] := by
            rw [List.getD_eq_getElem?_getD, hli]
            rfl
          have two : ∀ {p : Addr} {u w : Nat} {j : Nat}, H' p = some (.lst (L [u, w])) → SqL K H1 p (L [u, w]) := fun h => sq_of (ex _ _ h)
          refine et_is (et_or (et_test (ev_op (ev_op (ev_var rfl) ev_c (rv_ixL (sq_of (ex _ _ hcl)) (at0 _ _))) (ev_op (ev_var rfl) ev_c (rv_ixL (sq_of (ex _ _ hd6)) (at0 _ _))) (rv_eq rfl))) fun _ => et_test (ev_op (ev_op (ev_var rfl) ev_c (rv_ixL (sq_of (ex _ _ hcl)) (at1 _ _))) (ev_op (ev_var rfl) ev_c (rv_ixL (sq_of (ex _ _ hd6)) (at1 _ _))) (rv_eq rfl))) ?_
          rw [vi_eq, vi_eq]
          rw [dx]
          rfl) (fun i v H1 ex hv _ => by
          rw [List.getElem?_map] at hv
          obtain ⟨c, hc, rfl⟩ := Option.map_eq_some_iff.mp hv
          have da : as.getD i 0 = c := by
            rw [List.getD_eq_getElem?_getD, hc]
            rfl
          rw [da]
          exact ev_var rfl)
      rw [List.length_map, al, eg] at el
      refine q_asgL el (fun w H7 hw e7 h7 => ?_)
      have x7 := x6.trans e7
      have lw : LL H7 w ((l.filter (shr x y)).map pl) := ⟨as', h7, lf _ (LA.ex la6 e7)⟩
      refine s_if (b := decide ((l.filter (shr x y)).map pl = [])) (et_test (ev_opL (ev_var rfl) (el_lst ea_nil (Nat.zero_le _)) (fun p H8 h8 e8 => rv_eqNN (lw.ex e8) ⟨[], h8, .nil⟩))) (fun hc H8 e8 => ?_) (fun hc H8 e8 => ?_)
      · have fn0 : l.filter (shr x y) = [] := List.map_eq_nil_iff.mp (of_decide_eq_true hc)
        obtain ⟨m1, m2⟩ := shr_nil fn0
        have S' := S.push r m1 m2 (by omega)
        refine s_app (e8 _ _ (e7 _ _ at6)) (ev_var rfl) (ev_var rfl) (by rw [List.length_map]; omega) (fun H9 e9 => ?_)
        have e79 := (e7.trans e8).trans e9
        have offt : ∀ c ∈ as, c ≠ t := fun c hc e => by
          obtain ⟨xs, _, q⟩ := la6.items c hc
          rw [e, at6] at q
          have q := HO.lst.inj (Option.some.inj q)
          cases as with
          | nil => cases hc
          | cons a0 r0 =>
            cases xs with
            | nil => cases q
            | cons b0 s0 => cases q
        have offb := fb
        refine ⟨l ++ [(x, y)], as ++ [d], _, _, by rw [List.length_append]; omega, by rw [List.getElem?_append_left hkl]; exact hkp, S', g1' _ (fun z hz => List.mem_append_left _ hz) (List.mem_append_right _ (List.mem_singleton.mpr rfl)), g2' _ (fun z hz => List.mem_append_left _ hz) (List.mem_append_right _ (List.mem_singleton.mpr rfl)), rfl,
          (x6.trans e79).mut ht0, by rw [upd_same, List.map_append]; rfl, ?_, by rw [upd_ne hqt]; exact e79 _ _ hq6, hqt, LA.upd (LA.ex lb e79) fb, fb⟩
        rw [List.map_append]
        refine paired_snoc (LA.upd (LA.ex la6 e79) offt) ?_
        show (upd H9 t _) d = _
        rw [upd_ne hdt]
        exact e79 _ _ hd6
      · have n0 : l.filter (shr x y) ≠ [] := fun e => by
          rw [e] at hc
          exact absurd hc (by decide)
        have lw8 := lw.ex e8
        refine s_when (b := !decide ((l.filter (shr x y)).map pl = [pl (x, y)])) (et_test (ev_opL (ev_var rfl) (el_lst (ea_1 (ev_var rfl)) (by show 1 ≤ 100000; decide)) (fun p H9 h9 e9 => rv_neNN (lw8.ex e9) ⟨[d], h9, .cons (e9 _ _ (e8 _ _ (e7 _ _ hd6))) .nil⟩))) (fun hc2 H9 e9 => ?_) (fun hc2 H9 e9 => ?_)
        · refine s_ret ev_c (fun H10 e10 => k2 H10 (((x7.trans e8).trans e9).trans e10) (S.clash r n0 (fun e => ?_)))
          rw [e] at hc2
          exact absurd hc2 (by simp)
        · have e1 : (l.filter (shr x y)).map pl = [(x, y)].map pl := by
            by_cases c : (l.filter (shr x y)).map pl = [pl (x, y)]
            · exact c
            · rw [decide_eq_false c] at hc2
              cases hc2
          have m : (x, y) ∈ l := by
            have : pl (x, y) ∈ (l.filter (shr x y)).map pl := by
              rw [e1]
              exact List.mem_cons_self ..
            obtain ⟨p, hp, e⟩ := List.mem_map.mp this
            rw [← pl_inj e]
            exact (List.mem_filter.mp hp).1
          have e79 := (e7.trans e8).trans e9
          exact ⟨l, as, _, _, hkl, hkp, S, g1' _ (fun z hz => hz) m, g2' _ (fun z hz => hz) m, rfl, x6.trans e79, e79 _ _ at6, LA.ex la6 e79, e79 _ _ hq6, hqt, LA.ex lb e79, fb⟩
    · rintro bs q σ2 H' ⟨l, as, v8, v9, hkl, hkp, S, g1, g2, rfl, x6, at6, la6, hq6, hqt, lb, fb⟩
      have ll := S.le P hN.two ha
      refine s_asg (ev_is (w := vi (k + 1)) (ev_op (ev_var rfl) ev_c rv_I0) rfl) (fun H7 e7 => ?_)
      exact ⟨_, by omega, l, as, k + 1, _, _, _, _, rfl, hkl, S.next hkp (g1 (by show 0 < 2; omega)) (g2 (by show 1 < 2; omega)), rfl, x6.trans e7, e7 _ _ at6, LA.ex la6 e7⟩
  · have e0 : k = l.length := by
      rw [Bool.and_true, decide_eq_false_iff_not] at hb
      omega
    subst e0
    refine s_ret (ev_var rfl) (fun H5 e5 => ?_)
    exact k1 t l H5 ht0 ((x3.trans e4).trans e5) ⟨as, e5 _ _ (e4 _ _ at3), LA.ex la (e4.trans e5)⟩ S.n1 S.done S.one
end K22
namespace K22
open PySem PySem.Spec PyProof.Rows L2 Evl Hm
theorem at0T (v w : V) : atI [v, w] 0 = some v := atI_nat (xs := [v, w]) (j := 0) rfl
theorem at1T (v w : V) : atI [v, w] 1 = some w := atI_nat (xs := [v, w]) (j := 1) rfl
theorem rv_notN0 {H : Hp} {x : V} {b : Bool} (h : (!decide (x = .non)) = b) : RV rNotNon x .non H (.bl b) := fun H1 _ _ q => ⟨rfl, by
  rw [h]
  exact q H1 (Ex.refl H1)⟩
/-- what an image of a piece has to keep -/
def okI (ns ms fx1 : List Nat) (fx : List (Nat × Nat)) (z b : Nat) : Prop := OneP (fn ns) (fn ms) z b ∧ ∀ x y, RchP (fn ns) (fn ms) z b x y → y ∉ fx1 ∧ ∀ p ∈ fx, p.1 = x → p.2 = y
def gdP (tk : List Nat) (fx : List (Nat × Nat)) (p : Nat × Nat) : Prop := p.2 ∉ tk ∧ ∀ e ∈ fx, e.1 = p.1 → e.2 = p.2
def sp_Limage (K : PySem.W.Frag) : Sp := fun vs H Q _ => ∃ (p1 p2 p3 p4 p5 : Addr) (ns ms mem tk : List Nat) (as : List Addr) (fx : List (Nat × Nat)) (z : Nat) (r : List Nat), vs = [.ref p1, .ref p2, .ref p3, .ref p4, .ref p5] ∧ SqL K H p1 (L ns) ∧ SqL K H p2 (L ms) ∧ SqL K H p3 (L mem) ∧ SqL K H p4 (as.map V.ref) ∧ TA2 H as fx ∧ SqL K H p5 (L tk) ∧
  MP ns ∧ MP ms ∧ mem = z :: r ∧ mem.Nodup ∧ (∀ x ∈ mem, x < ns.length) ∧ (∀ x, x ∈ mem ↔ Rch (fn ns) z x) ∧
  (∀ (q : Addr) (b : Nat) (im : List Nat) H', b < ms.length → H q = none → Ex H H' → H' q = some (.lst (L im)) → okI ns ms tk fx z b → (∀ y, y ∈ im ↔ ∃ x, RchP (fn ns) (fn ms) z b x y) → im.length ≤ ns.length → Q (.ref q) H') ∧
  (∀ H', Ex H H' → (∀ b, b < ms.length → ¬ okI ns ms tk fx z b) → Q .non H')
abbrev nm_Limage : List Str := ["_law_nexts_here", "_law_others", "_law_members", "_law_fixed", "_law_taken", "_law_other", "_law_pairs", "_law_right_here", "_law_pair", "_law_entry"]
abbrev pr_Limage : List Str := ["_law_nexts_here", "_law_others", "_law_members", "_law_fixed", "_law_taken"]
def t_Limage (K : PySem.W.Frag) : TS :=
  (tSeq (tFor (iRng1 (tCons (tCB (cLen K) (tCons (tVar 1) tNil)) tNil)) (gName 5) (tSeq (tAsg (tCall (sp_Lspread K) [] E0 (tCons (tVar 0) (tCons (tVar 1) (tCons (tOp (rIxL K) (tVar 2) (tC (.int 0))) (tCons (tVar 5) tNil))))) (gName 6))
      (tIfS (tAnd (tTest (tOp rNotNon (tVar 6) (tC .non))) (tTest (tOp rEq (tCB (cLen K) (tCons (tVar 6) tNil)) (tCB (cLen K) (tCons (tVar 2) tNil))))) (tSeq (tAsg (tC (.bl true)) (gName 7))
        (tSeq (tFor (iList K (tVar 6)) (gName 8) (tSeq (tIfS (tTest (tOp (rIn K false) (tOp (rIxL K) (tVar 8) (tC (.int 1))) (tVar 4))) (tAsg (tC (.bl false)) (gName 7)) tNext)
            (tFor (iList K (tVar 3)) (gName 9) (tIfS (tAnd (tTest (tOp rEq (tOp (rIxT K) (tVar 9) (tC (.int 0))) (tOp (rIxL K) (tVar 8) (tC (.int 0))))) (tTest (tOp rNe (tOp (rIxT K) (tVar 9) (tC (.int 1))) (tOp (rIxL K) (tVar 8) (tC (.int 1)))))) (tAsg (tC (.bl false)) (gName 7)) tNext))))
        (tIfS (tB (tVar 7)) (tRet (tLc (iList K (tVar 6)) (gName 8) tYes (tOp (rIxL K) (tVar 8) (tC (.int 1))) [8])) tNext))) tNext)))
  (tRet (tC .non)))
abbrev Wt_Limage (K : PySem.W.Frag) (vs : List V) (H : Hp) (Q : VK) : Prop := t_Limage K { nx := fun _ H' => Q .non H', rt := Q } (start nm_Limage vs) H
theorem ln_Limage {K : PySem.W.Frag} (vs : List V) (H : Hp) (Q : VK) (E : XK) (h : sp_Limage K vs H Q E) : vs.length = pr_Limage.length := by
  obtain ⟨_, _, _, _, _, _, _, _, _, _, _, _, _, rfl, _⟩ := h
  rfl
theorem take_step {α : Type} {l : List α} {i : Nat} {p : α} (h : l[i]? = some p) {P : α → Prop} : (∀ q ∈ l.take (i + 1), P q) ↔ (∀ q ∈ l.take i, P q) ∧ P p := by
  rw [List.take_add_one, h]
  refine ⟨fun k => ⟨fun q hq => k q (List.mem_append_left _ hq), k p (List.mem_append_right _ (List.mem_singleton.mpr rfl))⟩, fun ⟨k1, k2⟩ q hq => ?_⟩
  rcases List.mem_append.mp hq with hq | hq
  · exact k1 q hq
  · rw [show q = p from List.mem_singleton.mp hq]
    exact k2
theorem given_snd (l : List (Nat × Nat)) : given l.length (fun _ => true) (fun i => vi (l.getD i (0, 0)).2) = L (l.map (·.2)) := by
  rw [given_all]
  refine List.ext_getElem? fun i => ?_
  unfold L
  by_cases h : i < l.length
  · rw [List.getElem?_map, List.getElem?_range h, List.getElem?_map, List.getElem?_map, List.getElem?_eq_getElem h]
    show some (vi (l.getD i (0, 0)).2) = _
    rw [List.getD_eq_getElem?_getD, List.getElem?_eq_getElem h]
    rfl
  · rw [List.getElem?_eq_none (by rw [List.length_map, List.length_range]; omega), List.getElem?_eq_none (by rw [List.length_map, List.length_map]; omega)]
theorem rd_Limage {K : PySem.W.Frag} (F : KF K) (vs : List V) (H : Hp) (Q : VK) (E : XK) (h : sp_Limage K vs H Q E) : Wt_Limage K vs H Q := by
  obtain ⟨p1, p2, p3, p4, p5, ns, ms, mem, tk, as, fx, z, r, rfl, h1, h2, h3, h4, ta, h5, hN, hM, hmem, nd, mlt, mrch, k1, k2⟩ := h
  show t_Limage K _ [some (.ref p1), some (.ref p2), some (.ref p3), some (.ref p4), some (.ref p5), none, none, none, none, none] H
  have P := pf_fn hN.p
  have nl := hN.len
  have ml := hM.len
  have hz : z < ns.length := mlt z (by rw [hmem]; exact List.mem_cons_self ..)
  have lenfx : as.length = fx.length := Paired.length ta
  refine q_forR1 (n := (ms.length : Int)) (ea_1 (ev_is (ev_cb (ea_1 (ev_var rfl)) (rc_len h2)) (by rw [L_len]))) (by omega) (fun i σ' H' => ∃ (v5 v6 v7 v8 v9 : Option V), σ' = [some (.ref p1), some (.ref p2), some (.ref p3), some (.ref p4), some (.ref p5), v5, v6, v7, v8, v9] ∧ Ex H H' ∧ ∀ b, b < i → ¬ okI ns ms tk fx z b) ?_ ?_ ?_
  · intro H1 e1
    exact ⟨_, _, _, _, _, rfl, e1, fun b hb => absurd hb (Nat.not_lt_zero b)⟩
  · rintro i σ' H' hi ⟨v5, v6, v7, v8, v9, rfl, ex, no⟩
    have hi' : i < ms.length := by omega
    have more : ∀ {P : Nat → Prop}, (∀ b, b < i → ¬ P b) → ¬ P i → ∀ b, b < i + 1 → ¬ P b := fun {P} a c b hb => by
      by_cases e : b = i
      · rw [e]
        exact c
      · exact a b (by omega)
    refine q_asgC (vs := [.ref p1, .ref p2, vi z, vi i]) (ea_cons (ev_var rfl) (ea_cons (ev_var rfl) (ea_2 (ev_op (ev_var rfl) ev_c (rv_ixL (ex_l ex h3) (by rw [hmem]; exact at0 z r))) (ev_var rfl)))) (fun H2 e2 => ?_)
    have x2 := ex.trans e2
    refine ⟨p1, p2, ns, ms, z, i, rfl, ex_l x2 h1, ex_l x2 h2, hN, hM, hz, hi', fun q l H3 hq e3 hl nl1 lm o => ?_, fun H3 e3 no1 => ?_⟩
    · have x3 := x2.trans e3
      obtain ⟨bs, hq3, lb⟩ := hl
      have bl : bs.length = l.length := by
        have := Paired.length lb
        rwa [List.length_map] at this
      have len : l.length = mem.length := by
        have e : (l.map (·.1)).Perm mem := (List.perm_ext_iff_of_nodup nl1 nd).mpr fun x => by
          rw [mrch]
          refine ⟨fun hx => ?_, fun hx => ?_⟩
          · obtain ⟨p, hp, rfl⟩ := List.mem_map.mp hx
            exact ((lm p.1 p.2).mp hp).l
          · obtain ⟨y, hy⟩ := rchP_l (g := fn ms) (b := i) hx
            exact List.mem_map.mpr ⟨(x, y), (lm x y).mpr hy, rfl⟩
        have := e.length_eq
        rwa [List.length_map] at this
      have lN : l.length ≤ ns.length := by
        rw [len]
        exact nodup_le _ _ nd mlt
      refine s_if (b := true && true) (et_and (et_test (ev_op (ev_var rfl) ev_c (rv_notN0 rfl))) fun _ => et_test (ev_is (ev_op (ev_cb (ea_1 (ev_var rfl)) (rc_len (sq_of hq3))) (ev_cb (ea_1 (ev_var rfl)) (rc_len (ex_l x3 h3))) (rv_eq rfl)) ?_)) (fun _ H4 e4 => ?_) (fun hc => absurd hc (by decide))
      · rw [List.length_map, L_len, bl, len, decide_eq_true rfl]
      refine q_asg ev_c (fun H5 e5 => ?_)
      have x5 := (x3.trans e4).trans e5
      have q5 := e5 _ _ (e4 _ _ hq3)
      have lb5 := LA.ex lb (e4.trans e5)
      refine q_forLn (a := q) (xs := bs.map V.ref) (ev_var rfl) (sq_of q5) (fun j σ2 H6 => ∃ (rb : Bool) (v8 v9 : Option V), σ2 = [some (.ref p1), some (.ref p2), some (.ref p3), some (.ref p4), some (.ref p5), some (vi i), some (.ref q), some (.bl rb), v8, v9] ∧ Ex H5 H6 ∧ (rb = true ↔ ∀ p ∈ l.take j, gdP tk fx p)) ?_ ?_ ?_ ?_
      · intro H6 e6
        exact ⟨true, _, _, rfl, e6, ⟨fun _ p hp => (nomatch hp), fun _ => rfl⟩⟩
      · rintro j σ2 H6 _ ⟨rb, v8, v9, rfl, x6, _⟩
        exact sq_of (x6 _ _ q5)
      · rintro j v σ2 H6 hv ⟨rb, v8, v9, rfl, x6, g⟩
        rw [List.getElem?_map] at hv
        obtain ⟨c, hc, rfl⟩ := Option.map_eq_some_iff.mp hv
        have hj : j < l.length := by
          rw [← bl]
          exact (List.getElem?_eq_some_iff.mp hc).1
        have hlj : l[j]? = some l[j] := List.getElem?_eq_getElem hj
        generalize l[j] = p at hlj
        obtain ⟨x, y⟩ := p
        have hcl : H5 c = some (.lst (L [x, y])) := paired_ix lb5 hc (by rw [List.getElem?_map, hlj]; rfl)
        refine q_ifAsg (b := decide (y ∈ tk)) (i := 7) (v := .bl (rb && !decide (y ∈ tk))) (et_test (ev_is (ev_op (ev_op (ev_var rfl) ev_c (rv_ixL (sq_of (x6 _ _ hcl)) (at1 x y))) (ev_var rfl) (rv_isL (ex_l (x5.trans x6) h5) rfl (flat_L tk))) (by rw [inV_L]))) (fun hb => ?_) (fun hb => ?_) (fun H7 e7 => ?_)
        · rw [hb]
          show Ev _ _ _ (.bl (rb && false))
          rw [Bool.and_false]
          exact ev_c
        · rw [hb]
          show List.set _ 7 (some (V.bl (rb && true))) = _
          rw [Bool.and_true]
          rfl
        have x7 := x6.trans e7
        refine s_forLn (a := p4) (xs := as.map V.ref) (ev_var rfl) (ex_l (x5.trans x7) h4) (fun k σ3 H8 => ∃ (rb : Bool) (v9 : Option V), σ3 = [some (.ref p1), some (.ref p2), some (.ref p3), some (.ref p4), some (.ref p5), some (vi i), some (.ref q), some (.bl rb), some (.ref c), v9] ∧ Ex H5 H8 ∧
          (rb = true ↔ (∀ p ∈ l.take j, gdP tk fx p) ∧ y ∉ tk ∧ ∀ e ∈ fx.take k, e.1 = x → e.2 = y)) ?_ ?_ ?_ ?_
        · intro H8 e8
          refine ⟨_, _, rfl, x7.trans e8, ?_⟩
          rw [Bool.and_eq_true, g, Bool.not_eq_true', decide_eq_false_iff_not]
          exact ⟨fun ⟨a, b⟩ => ⟨a, b, fun e he => (nomatch he)⟩, fun ⟨a, b, _⟩ => ⟨a, b⟩⟩
        · rintro k σ3 H8 _ ⟨_, _, _, x8, _⟩
          exact ex_l (x5.trans x8) h4
        · rintro k v σ3 H8 hv ⟨rb, v9, rfl, x8, g⟩
          rw [List.getElem?_map] at hv
          obtain ⟨d, hd, rfl⟩ := Option.map_eq_some_iff.mp hv
          have hk : k < fx.length := by
            rw [← lenfx]
            exact (List.getElem?_eq_some_iff.mp hd).1
          have hfk : fx[k]? = some fx[k] := List.getElem?_eq_getElem hk
          generalize fx[k] = p at hfk
          obtain ⟨u, w⟩ := p
          have hdt : H d = some (.tup [vi u, vi w]) := paired_ix ta hd hfk
          have hd8 := (x5.trans x8) _ _ hdt
          refine s_ifAsg (b := decide (u = x) && !decide (w = y)) (i := 7) (v := .bl (rb && !(decide (u = x) && !decide (w = y)))) (et_and (et_test (ev_is (ev_op (ev_op (ev_var rfl) ev_c (rv_ixT (st_of hd8) (at0T _ _))) (ev_op (ev_var rfl) ev_c (rv_ixL (sq_of (x8 _ _ hcl)) (at0 x [y]))) (rv_eq rfl)) (by rw [vi_eq]))) fun _ =>
            et_test (ev_is (ev_op (ev_op (ev_var rfl) ev_c (rv_ixT (st_of hd8) (at1T _ _))) (ev_op (ev_var rfl) ev_c (rv_ixL (sq_of (x8 _ _ hcl)) (at1 x y))) (rv_ne rfl)) (by rw [vi_eq]))) (fun hb => ?_) (fun hb => ?_) (fun H9 e9 => ?_)
          · rw [hb]
            show Ev _ _ _ (.bl (rb && false))
            rw [Bool.and_false]
            exact ev_c
          · rw [hb]
            show List.set _ 7 (some (V.bl (rb && true))) = _
            rw [Bool.and_true]
            rfl
          refine ⟨_, _, rfl, x8.trans e9, ?_⟩
          rw [Bool.and_eq_true, g, take_step hfk]
          by_cases c1 : u = x <;> by_cases c2 : w = y <;> simp [c1, c2]
        · rintro σ3 H8 ⟨rb, v9, rfl, x8, g⟩
          refine ⟨_, _, _, rfl, x8, ?_⟩
          rw [g, take_step hlj, List.length_map, lenfx, List.take_length]
          rfl
      · rintro σ2 H6 ⟨rb, v8, v9, rfl, x6, g⟩
        rw [List.length_map, bl, List.take_length] at g
        have okiff : rb = true ↔ okI ns ms tk fx z i := by
          rw [g]
          refine ⟨fun a => ⟨o, fun x y rr => a (x, y) ((lm x y).mpr rr)⟩, fun a p hp => a.2 _ _ ((lm p.1 p.2).mp hp)⟩
        have x6' := x5.trans x6
        refine s_when (et_B (ev_var rfl)) (fun hb H7 e7 => ?_) (fun hb H7 e7 => ?_)
        · have q7 := e7 _ _ (x6 _ _ q5)
          have lb7 := LA.ex lb5 (x6.trans e7)
          have el := el_lcL (K := K) (σ := [some (.ref p1), some (.ref p2), some (.ref p3), some (.ref p4), some (.ref p5), some (vi i), some (.ref q), some (.bl rb), v8, v9]) (H := H7) (j := 8) (vs := [8]) (tl := tVar 6) (t := tYes) (te := tOp (rIxL K) (tVar 8) (tC (.int 1)))
            (fun _ => true) (fun k => vi (l.getD k (0, 0)).2) (ev_var rfl) (sq_of q7) (by rw [List.length_map]; omega) (fun _ => rfl) (fun _ _ _ _ _ => et_yes) (fun k v H8 e8 hv _ => by
              rw [List.getElem?_map] at hv
              obtain ⟨c, hc, rfl⟩ := Option.map_eq_some_iff.mp hv
              have hk : k < l.length := by
                rw [← bl]
                exact (List.getElem?_eq_some_iff.mp hc).1
              have hlk : l[k]? = some l[k] := List.getElem?_eq_getElem hk
              have dx : l.getD k (0, 0) = l[k] := by
                rw [List.getD_eq_getElem?_getD, hlk]
                rfl
              have hcl := paired_ix lb7 hc (by rw [List.getElem?_map, hlk]; rfl)
              rw [dx]
              exact ev_op (ev_var rfl) ev_c (rv_ixL (sq_of (e8 _ _ hcl)) (at1 _ _)))
          rw [List.length_map, bl, given_snd] at el
          refine s_retL el (fun w H8 hw e8 h8 => k1 w i _ H8 hi' (fresh_back (x6'.trans e7) hw) ((x6'.trans e7).trans e8) h8 (okiff.mp hb) (fun y => ?_) (by rw [List.length_map]; exact lN))
          refine ⟨fun hy => ?_, fun ⟨x, hx⟩ => List.mem_map.mpr ⟨(x, y), (lm x y).mpr hx, rfl⟩⟩
          obtain ⟨p, hp, rfl⟩ := List.mem_map.mp hy
          exact ⟨p.1, (lm p.1 p.2).mp hp⟩
        · refine ⟨_, _, _, _, _, rfl, x6'.trans e7, more no (fun k => ?_)⟩
          rw [okiff.mpr k] at hb
          cases hb
    · refine s_if (b := false && true) (et_and (et_test (ev_op (ev_var rfl) ev_c (rv_notN0 rfl))) fun hc => absurd hc (by decide)) (fun hc => absurd hc (by decide)) (fun _ H4 e4 => ?_)
      exact ⟨_, _, _, _, _, rfl, (x2.trans e3).trans e4, more no (fun k => no1 k.1)⟩
  · rintro σ' H' ⟨v5, v6, v7, v8, v9, rfl, ex, no⟩
    rw [Int.toNat_natCast] at no
    exact s_ret ev_c (fun H2 e2 => k2 H2 (ex.trans e2) no)
end K22
namespace K22
open PySem PySem.Spec PyProof.Rows L2 Evl Hm
/-! ### lists of tuples of two numbers, as data -/
def dTu (p : Nat × Nat) : PyData := .tuple [.int (p.1 : Int), .int (p.2 : Int)]
def dTP (ps : List (Nat × Nat)) : PyData := .list (ps.map dTu)
theorem lay_dTu (p : Nat × Nat) : PyData.canLay0 (dTu p) = true ∧ PyData.depth (dTu p) ≤ 1 := by
  unfold dTu
  exact ⟨by simp [PyData.canLay0, PyData.canLayAll0], by simp [PyData.depth, PyData.depthAll]⟩
theorem lay_dTs : ∀ ps : List (Nat × Nat), PyData.canLayAll0 (ps.map dTu) = true ∧ PyData.depthAll (ps.map dTu) ≤ 1
  | [] => ⟨by simp [PyData.canLayAll0], by simp [PyData.depthAll]⟩
  | n :: r => by
    obtain ⟨h1, h2⟩ := lay_dTs r
    obtain ⟨h3, h4⟩ := lay_dTu n
    exact ⟨by simp [PyData.canLayAll0, h1, h3], by simp [PyData.depthAll]; omega⟩
theorem shaped_dTP (ps : List (Nat × Nat)) : SeqAt.shaped (dTP ps) = true := by
  obtain ⟨h3, h4⟩ := lay_dTs ps
  unfold SeqAt.shaped dTP
  have e1 : PyData.canLay0 (.list (ps.map dTu)) = true := by simp [PyData.canLay0, h3]
  have e2 : PyData.depth (.list (ps.map dTu)) ≤ 64 := by simp [PyData.depth]; omega
  rw [e1, decide_eq_true e2]
  rfl
theorem eqv_dTu (p q : Nat × Nat) : PyData.eqv (dTu p) (dTu q) = decide (p = q) := by
  obtain ⟨a, b⟩ := p
  obtain ⟨c, d⟩ := q
  unfold dTu
  rw [Bool.eq_iff_iff]
  simp [PyData.eqv, PyData.eqvAll]
  omega
theorem eqv_dTs : ∀ xss yss : List (Nat × Nat), PyData.eqvAll (xss.map dTu) (yss.map dTu) = decide (xss = yss)
  | [], [] => by simp [PyData.eqvAll]
  | [], _ :: _ => by simp [PyData.eqvAll]
  | _ :: _, [] => by simp [PyData.eqvAll]
  | n :: r, m :: s => by
    have h := eqv_dTs r s
    simp only [List.map_cons, PyData.eqvAll, eqv_dTu, h]
    by_cases e : n = m <;> simp [e]
theorem eqv_dTP (xss yss : List (Nat × Nat)) : PyData.eqv (dTP xss) (dTP yss) = decide (xss = yss) := by
  unfold dTP
  simp only [PyData.eqv]
  exact eqv_dTs xss yss
theorem dpAll_TA2 {K : PySem.W.Frag} {H : Hp} : ∀ {as : List Addr} {ps : List (Nat × Nat)}, TA2 H as ps → DpAll K H (as.map V.ref) (ps.map dTu)
  | _, _, .nil => .nil
  | _, _, .cons r t => .cons (.tup (st_of r) (.cons (.int _) (.cons (.int _) .nil))) (dpAll_TA2 t)
theorem dp_TP {K : PySem.W.Frag} {H : Hp} {p : Addr} {as : List Addr} {ps : List (Nat × Nat)} (h : SqL K H p (as.map V.ref)) (ta : TA2 H as ps) : Dp K H (.ref p) (dTP ps) := Dp.lst h (dpAll_TA2 ta)
theorem rv_neTP {K : PySem.W.Frag} {H : Hp} {p q : Addr} {as bs : List Addr} {ps qs : List (Nat × Nat)} (h1 : SqL K H p (as.map V.ref)) (t1 : TA2 H as ps) (h2 : SqL K H q (bs.map V.ref)) (t2 : TA2 H bs qs) : RV (rNeD K) (.ref p) (.ref q) H (.bl (!decide (ps = qs))) := by
  rw [← eqv_dTP]
  exact rv_neD' (dp_TP h1 t1) (dp_TP h2 t2) (shaped_dTP _) (shaped_dTP _)
theorem rv_eqTP {K : PySem.W.Frag} {H : Hp} {p q : Addr} {as bs : List Addr} {ps qs : List (Nat × Nat)} (h1 : SqL K H p (as.map V.ref)) (t1 : TA2 H as ps) (h2 : SqL K H q (bs.map V.ref)) (t2 : TA2 H bs qs) : RV (rEqD K) (.ref p) (.ref q) H (.bl (decide (ps = qs))) := by
  rw [← eqv_dTP]
  exact rv_eqD' (dp_TP h1 t1) (dp_TP h2 t2) (shaped_dTP _) (shaped_dTP _)
theorem any_dN (xs : List Nat) : ∀ yss : List (List Nat), (yss.map dN).any (fun z => PyData.eqv z (dN xs)) = decide (xs ∈ yss)
  | [] => by simp
  | y :: r => by
    rw [List.map_cons, List.any_cons, any_dN xs r, eqv_dN]
    by_cases c : y = xs
    · rw [decide_eq_true c, Bool.true_or, decide_eq_true]
      rw [c]
      exact List.mem_cons_self ..
    · rw [decide_eq_false c, Bool.false_or]
      by_cases d : xs ∈ r
      · rw [decide_eq_true d, decide_eq_true (List.mem_cons_of_mem _ d)]
      · rw [decide_eq_false d, decide_eq_false]
        intro m
        rcases List.mem_cons.mp m with m | m
        · exact c m.symm
        · exact d m
theorem rv_notInD {K : PySem.W.Frag} {H : Hp} {p q : Addr} {xs : List Nat} {yss : List (List Nat)} (h1 : SqL K H p (L xs)) (h2 : LL H q yss) : RV (rNotInD K) (.ref p) (.ref q) H (.bl (!decide (xs ∈ yss))) := fun H1 ex Q k =>
  ⟨dN xs, yss.map dN, dp_L (ex_l ex h1), dp_LL (h2.ex ex), shaped_dN _, shaped_dNN _, by
    rw [any_dN]
    exact k H1 (Ex.refl H1)⟩
/-- a part of a list, by a test -/
theorem given_part {α : Type} {R : Hp → Addr → α → Prop} {as : List Addr} {l : List α} {d : α} (g : α → Bool) (hl : as.length = l.length) : ∀ n, n ≤ l.length →
    ∃ as', given n (fun i => g (l.getD i d)) (fun i => V.ref (as.getD i 0)) = as'.map V.ref ∧ (∀ H, Paired (R H) as l → Paired (R H) as' ((l.take n).filter g))
  | 0, _ => ⟨[], rfl, fun _ _ => .nil⟩
  | n + 1, hn => by
    obtain ⟨as', e, h⟩ := given_part (R := R) (d := d) g hl n (by omega)
    have hx : l[n]? = some l[n] := List.getElem?_eq_getElem hn
    have ha : as[n]? = some as[n] := List.getElem?_eq_getElem (by omega)
    have tk : l.take (n + 1) = l.take n ++ [l[n]] := by
      rw [List.take_add_one, hx]
      rfl
    have dx : l.getD n d = l[n] := by
      rw [List.getD_eq_getElem?_getD, hx]
      rfl
    have da : as.getD n 0 = as[n] := by
      rw [List.getD_eq_getElem?_getD, ha]
      rfl
    cases c : g l[n] with
    | true =>
      refine ⟨as' ++ [as[n]], ?_, fun H la => ?_⟩
      · rw [given_yes (by rw [dx]; exact c), e, List.map_append, da]
        rfl
      · rw [tk, List.filter_append, List.filter_cons, if_pos c]
        exact paired_snoc (h H la) (paired_ix la (i := n) ha hx)
    | false =>
      refine ⟨as', ?_, fun H la => ?_⟩
      · rw [given_no (by rw [dx]; exact c), e]
      · rw [tk, List.filter_append, List.filter_cons, if_neg (by rw [c]; decide), List.filter_nil, List.append_nil]
        exact h H la
/-! ### the law's search, without the law -/
/-- the order of the search: pieces, those that hold a fixed half first -/
structure Odr (ns : List Nat) (fx : List (Nat × Nat)) (O : List (List Nat)) : Prop where
  pc : ∀ (i : Nat) (xs : List Nat), O[i]? = some xs → ∃ m, m < ns.length ∧ minR ns.length (Rch (fn ns)) m ∧ xs = pieceL (fn ns) ns.length m
  nd : O.Nodup
  all : ∀ x, x < ns.length → ∃ (i : Nat) (xs : List Nat), O[i]? = some xs ∧ x ∈ xs
  mrk : ∀ (i j : Nat) (xs ys : List Nat), O[i]? = some xs → O[j]? = some ys → (∃ p ∈ fx, p.1 ∈ ys) → ¬ (∃ p ∈ fx, p.1 ∈ xs) → j < i
structure PSt (ns ms : List Nat) (fx : List (Nat × Nat)) (O : List (List Nat)) (i : Nat) (tk : List Nat) (F : Nat → Nat → Prop) : Prop where
  par : Par (fn ns) (fn ms) ns.length F
  tk : ∀ y, y ∈ tk ↔ ∃ x, F x y
  dom : ∀ x, (∃ y, F x y) ↔ ∃ (j : Nat) (xs : List Nat), j < i ∧ O[j]? = some xs ∧ x ∈ xs
  fix : ∀ p ∈ fx, ∀ y, F p.1 y → y = p.2
  full : (∃ s, FullR ns ms fx s) → ∃ s, FullR ns ms fx s ∧ ∀ x y, F x y → y = s x
section
variable {ns ms : List Nat} {fx : List (Nat × Nat)} {O : List (List Nat)} {i z b : Nat} {tk r im : List Nat} {F : Nat → Nat → Prop}
theorem Odr.rch (h : Odr ns fx O) (hN : MP ns) (e : O[i]? = some (z :: r)) : z < ns.length ∧ ∀ x, x ∈ z :: r ↔ Rch (fn ns) z x := by
  have P := pf_fn hN.p
  obtain ⟨m, hm, _, ex⟩ := h.pc i _ e
  have hz : z ∈ pieceL (fn ns) ns.length m := by
    rw [← ex]
    exact List.mem_cons_self ..
  obtain ⟨hz, rz⟩ := mem_piece.mp hz
  refine ⟨hz, fun x => ?_⟩
  rw [ex, mem_piece]
  exact ⟨fun ⟨_, q⟩ => (rch_symm P hN.two hm rz).trans q, fun q => ⟨rch_lt P hN.two hz q, rz.trans q⟩⟩
theorem Odr.same (h : Odr ns fx O) (hN : MP ns) {j : Nat} {xs ys : List Nat} {x : Nat} (e1 : O[i]? = some xs) (e2 : O[j]? = some ys) (h1 : x ∈ xs) (h2 : x ∈ ys) : i = j := by
  have P := pf_fn hN.p
  obtain ⟨m, hm, mn, rfl⟩ := h.pc i _ e1
  obtain ⟨m', hm', mn', rfl⟩ := h.pc j _ e2
  obtain ⟨hx, r1⟩ := mem_piece.mp h1
  obtain ⟨_, r2⟩ := mem_piece.mp h2
  have q1 : m ≤ m' := mn m' hm' (r1.trans (rch_symm P hN.two hm' r2))
  have q2 : m' ≤ m := mn' m hm (r2.trans (rch_symm P hN.two hm r1))
  obtain rfl : m = m' := by omega
  rw [← e2] at e1
  exact (List.getElem?_inj (List.getElem?_eq_some_iff.mp (e1.trans e2)).1 h.nd).mp e1
theorem PSt.na (h : PSt ns ms fx O i tk F) (o : Odr ns fx O) (hN : MP ns) (e : O[i]? = some (z :: r)) : ∀ y, ¬ F z y := fun y q => by
  obtain ⟨j, xs, hj, ej, hx⟩ := (h.dom z).mp ⟨y, q⟩
  have := o.same hN e ej (List.mem_cons_self ..) hx
  omega
theorem PSt.yes (h : PSt ns ms fx O i tk F) (o : Odr ns fx O) (hN : MP ns) (hM : MP ms) (hl : ns.length = ms.length) (e : O[i]? = some (z :: r)) (hb : b < ns.length) (ok : okI ns ms tk fx z b) (hf : ∀ p ∈ fx, p.1 < ns.length) (hi : ∀ y, y ∈ im ↔ ∃ x, RchP (fn ns) (fn ms) z b x y) :
    PSt ns ms fx O (i + 1) (tk ++ im) (fun x y => F x y ∨ RchP (fn ns) (fn ms) z b x y) := by
  have P := pf_fn hN.p
  have P' := pf_fn hM.p
  rw [← hl] at P'
  have na := h.na o hN e
  obtain ⟨hz, mr⟩ := o.rch hN e
  have nb : ∀ x, ¬ F x b := fun x q => (ok.2 z b .refl).1 ((h.tk b).mpr ⟨x, q⟩)
  refine ⟨h.par.cup P P' hN.two hz hb ok.1 na nb, fun y => ?_, fun x => ?_, fun p hp y q => ?_, fun S => ?_⟩
  · rw [List.mem_append, h.tk, hi]
    exact ⟨fun q => q.elim (fun ⟨x, q⟩ => ⟨x, .inl q⟩) fun ⟨x, q⟩ => ⟨x, .inr q⟩, fun ⟨x, q⟩ => q.elim (fun q => .inl ⟨x, q⟩) fun q => .inr ⟨x, q⟩⟩
  · refine ⟨fun ⟨y, q⟩ => ?_, fun ⟨j, xs, hj, ej, hx⟩ => ?_⟩
    · rcases q with q | q
      · obtain ⟨j, xs, hj, ej, hx⟩ := (h.dom x).mp ⟨y, q⟩
        exact ⟨j, xs, by omega, ej, hx⟩
      · exact ⟨i, z :: r, by omega, e, (mr x).mpr q.l⟩
    · by_cases c : j = i
      · rw [c, e] at ej
        obtain rfl := Option.some.inj ej
        obtain ⟨y, q⟩ := rchP_l (g := fn ms) (b := b) ((mr x).mp hx)
        exact ⟨y, .inr q⟩
      · obtain ⟨y, q⟩ := (h.dom x).mpr ⟨j, xs, by omega, ej, hx⟩
        exact ⟨y, .inl q⟩
  · rcases q with q | q
    · exact h.fix p hp y q
    · exact ((ok.2 _ _ q).2 p hp rfl).symm
  · obtain ⟨s, S, sF⟩ := h.full S
    obtain ⟨s', S', ext, keep⟩ := bend S.1 h.par P P' hN.two hz hb ok.1 na nb sF
    refine ⟨s', ⟨S', fun p hp => ?_⟩, ext⟩
    have sp := S.2 p hp
    by_cases c : p.1 < ns.length
    · by_cases c1 : Rch (fn ns) z p.1
      · obtain ⟨y, q⟩ := rchP_l (g := fn ms) (b := b) c1
        rw [← ext _ _ (.inr q)]
        exact ((ok.2 _ _ q).2 p hp rfl).symm
      · by_cases c2 : Rch (fn ms) b (s p.1)
        · exfalso
          by_cases c3 : ∃ y, F p.1 y
          · obtain ⟨y, q⟩ := c3
            have ey := sF _ _ q
            obtain ⟨x, rx⟩ := rchP_r (f := fn ns) (a := z) c2
            rw [← ey] at rx
            exact (ok.2 _ _ rx).1 ((h.tk y).mpr ⟨_, q⟩)
          · obtain ⟨j, ys, ej, hy⟩ := o.all p.1 c
            have nj : ¬ j < i := fun hj => c3 ((h.dom p.1).mpr ⟨j, ys, hj, ej, hy⟩)
            have mk : ∃ p0 ∈ fx, p0.1 ∈ z :: r := by
              by_cases c4 : ∃ p0 ∈ fx, p0.1 ∈ z :: r
              · exact c4
              · exact absurd (o.mrk i j _ ys e ej ⟨p, hp, hy⟩ c4) nj
            obtain ⟨p0, h0, m0⟩ := mk
            have r0 := (mr p0.1).mp m0
            obtain ⟨y0, q0⟩ := rchP_l (g := fn ms) (b := b) r0
            have e0 : y0 = s p0.1 := by rw [S.2 p0 h0, (ok.2 _ _ q0).2 p0 h0 rfl]
            have hp0 := rch_lt P hN.two hz r0
            have rb := q0.r
            rw [e0] at rb
            obtain ⟨x, hx, rx, ex⟩ := S.1.back P hN.two hp0 ((rch_symm P' hN.two hb rb).trans c2)
            have := S.1.inj _ _ c hx ex
            exact c1 (r0.trans (by rw [this]; exact rx))
        · rw [keep _ c c1 c2, sp]
    · exact absurd (hf p hp) c
theorem PSt.no (h : PSt ns ms fx O i tk F) (o : Odr ns fx O) (hN : MP ns) (e : O[i]? = some (z :: r)) (nk : ∀ b, b < ns.length → ¬ okI ns ms tk fx z b) : ¬ ∃ s, FullR ns ms fx s := fun S => by
  have P := pf_fn hN.p
  have na := h.na o hN e
  obtain ⟨hz, mr⟩ := o.rch hN e
  obtain ⟨s, S, sF⟩ := h.full S
  refine nk (s z) (S.1.lt z hz) ⟨S.1.one P hN.two hz, fun x y q => ?_⟩
  obtain ⟨hx, rfl⟩ := S.1.go P hN.two hz q
  refine ⟨fun m => ?_, fun p hp ep => by rw [← ep, S.2 p hp]⟩
  obtain ⟨x', q'⟩ := (h.tk _).mp m
  have := S.1.inj _ _ hx (h.par.l1 _ _ q') (sF _ _ q')
  rw [← this] at q'
  obtain ⟨w, hw⟩ := h.par.gl q' (rch_symm P hN.two hz q.l)
  exact na _ hw
theorem PSt.fin (h : PSt ns ms fx O O.length tk F) (o : Odr ns fx O) (hN : MP ns) (hf : ∀ p ∈ fx, p.1 < ns.length) : ∃ s, FullR ns ms fx s := by
  have tot : ∀ x, x < ns.length → ∃ y, F x y := fun x hx => by
    obtain ⟨j, xs, ej, hm⟩ := o.all x hx
    exact (h.dom x).mpr ⟨j, xs, (List.getElem?_eq_some_iff.mp ej).1, ej, hm⟩
  obtain ⟨s, S, sF⟩ := h.par.ren (pf_fn hN.p) hN.two tot
  refine ⟨s, S, fun p hp => ?_⟩
  obtain ⟨y, q⟩ := tot p.1 (hf p hp)
  rw [← sF _ _ q]
  exact h.fix p hp y q
end
end K22
namespace K22
open PySem PySem.Spec PyProof.Rows L2 Evl Hm
theorem el_catVV {σ : L2.St} {H : Hp} {ta tb : TE} {a b : Addr} {xs ys : List V} (ha : Ev ta σ H (.ref a)) (hS : H a = some (.lst xs)) (hb : Ev tb σ H (.ref b)) (hT : H b = some (.lst ys)) (hz : xs.length + ys.length ≤ 100000) : EvL (tOp rCat ta tb) σ H (xs ++ ys) := fun H1 e Q q =>
  ha H1 e _ fun H2 e2 => hb H2 (e.trans e2) _ fun H3 e3 => ⟨a, b, xs, ys, rfl, rfl, e3 _ _ (e2 _ _ (e _ _ hS)), e3 _ _ (e2 _ _ (e _ _ hT)), sz_of hz, fun r hr => q r _ (fresh_back (e2.trans e3) hr) ((e2.trans e3).trans (Ex.new hr)) upd_same⟩
theorem paired_app {α β : Type} {R : α → β → Prop} : ∀ {as : List α} {xs : List β} {bs : List α} {ys : List β}, Paired R as xs → Paired R bs ys → Paired R (as ++ bs) (xs ++ ys)
  | _, _, _, _, .nil, h => h
  | _, _, _, _, .cons r t, h => .cons r (paired_app t h)
theorem nodup_map_on {α β : Type} {f : α → β} : ∀ {l : List α}, l.Nodup → (∀ x ∈ l, ∀ y ∈ l, f x = f y → x = y) → (l.map f).Nodup
  | [], _, _ => .nil
  | x :: r, nd, h => by
    rw [List.nodup_cons] at nd
    rw [List.map_cons, List.nodup_cons]
    refine ⟨fun m => ?_, nodup_map_on nd.2 fun a ha b hb => h a (List.mem_cons_of_mem _ ha) b (List.mem_cons_of_mem _ hb)⟩
    obtain ⟨y, hy, e⟩ := List.mem_map.mp m
    have := h y (List.mem_cons_of_mem _ hy) x (List.mem_cons_self ..) e
    rw [this] at hy
    exact nd.1 hy
def hdB (xs : List Nat) (p : Nat × Nat) : Bool := decide (p.1 ∈ xs)
def mkB (fx : List (Nat × Nat)) (xs : List Nat) : Bool := !decide (fx.filter (hdB xs) = [])
theorem mkB_iff {fx : List (Nat × Nat)} {xs : List Nat} : mkB fx xs = true ↔ ∃ p ∈ fx, p.1 ∈ xs := by
  unfold mkB
  rw [Bool.not_eq_true', decide_eq_false_iff_not]
  refine ⟨fun h => ?_, fun ⟨p, hp, hx⟩ e => ?_⟩
  · cases c : fx.filter (hdB xs) with
    | nil => exact absurd c h
    | cons p r =>
      have : p ∈ fx.filter (hdB xs) := by
        rw [c]
        exact List.mem_cons_self ..
      obtain ⟨hp, hx⟩ := List.mem_filter.mp this
      exact ⟨p, hp, of_decide_eq_true hx⟩
  · have : p ∈ fx.filter (hdB xs) := List.mem_filter.mpr ⟨hp, decide_eq_true hx⟩
    rw [e] at this
    cases this
noncomputable def odrL (ns : List Nat) (fx : List (Nat × Nat)) : List (List Nat) := (piecesL (fn ns) ns.length ns.length).filter (mkB fx) ++ (piecesL (fn ns) ns.length ns.length).filter fun xs => !decide (xs ∈ (piecesL (fn ns) ns.length ns.length).filter (mkB fx))
theorem pieces_pc {ns xs : List Nat} (h : xs ∈ piecesL (fn ns) ns.length ns.length) : ∃ m, m < ns.length ∧ minR ns.length (Rch (fn ns)) m ∧ xs = pieceL (fn ns) ns.length m := by
  rw [piecesL_map] at h
  obtain ⟨m, hm, e⟩ := List.mem_map.mp h
  obtain ⟨h1, h2⟩ := List.mem_filter.mp hm
  exact ⟨m, List.mem_range.mp h1, minB_iff.mp h2, e.symm⟩
theorem pieces_nd {ns : List Nat} (hN : MP ns) : (piecesL (fn ns) ns.length ns.length).Nodup := by
  have P := pf_fn hN.p
  rw [piecesL_map]
  refine nodup_map_on (List.nodup_range.filter _) fun m hm m' hm' e => ?_
  obtain ⟨h1, h2⟩ := List.mem_filter.mp hm
  obtain ⟨h1', h2'⟩ := List.mem_filter.mp hm'
  have h1 := List.mem_range.mp h1
  have h1' := List.mem_range.mp h1'
  have i1 : m ∈ pieceL (fn ns) ns.length m' := by
    rw [← e, mem_piece]
    exact ⟨h1, .refl m⟩
  obtain ⟨_, r⟩ := mem_piece.mp i1
  have q1 := minB_iff.mp h2' m h1 r
  have q2 := minB_iff.mp h2 m' h1' (rch_symm P hN.two h1' r)
  omega
theorem odr_ok {ns : List Nat} (hN : MP ns) (fx : List (Nat × Nat)) : Odr ns fx (odrL ns fx) := by
  have P := pf_fn hN.p
  have sub : ∀ xs ∈ odrL ns fx, xs ∈ piecesL (fn ns) ns.length ns.length := fun xs h => by
    rcases List.mem_append.mp h with h | h
    · exact (List.mem_filter.mp h).1
    · exact (List.mem_filter.mp h).1
  refine ⟨fun i xs e => pieces_pc (sub xs (List.mem_of_getElem? e)), ?_, fun x hx => ?_, fun i j xs ys e1 e2 h1 h2 => ?_⟩
  · unfold odrL
    rw [List.nodup_append]
    refine ⟨(pieces_nd hN).filter _, (pieces_nd hN).filter _, fun a ha b hb e => ?_⟩
    have := (List.mem_filter.mp hb).2
    rw [← e, decide_eq_true ha] at this
    cases this
  · obtain ⟨m, hm, hr, hmin, _⟩ := piece_min P hN.two hx
    have hmem : pieceL (fn ns) ns.length m ∈ piecesL (fn ns) ns.length ns.length := by
      rw [piecesL_map]
      exact List.mem_map.mpr ⟨m, List.mem_filter.mpr ⟨List.mem_range.mpr hm, minB_iff.mpr hmin⟩, rfl⟩
    have : pieceL (fn ns) ns.length m ∈ odrL ns fx := by
      by_cases c : pieceL (fn ns) ns.length m ∈ (piecesL (fn ns) ns.length ns.length).filter (mkB fx)
      · exact List.mem_append_left _ c
      · exact List.mem_append_right _ (List.mem_filter.mpr ⟨hmem, by rw [decide_eq_false c]; rfl⟩)
    obtain ⟨j, hj, ej⟩ := List.mem_iff_getElem.mp this
    exact ⟨j, _, by rw [List.getElem?_eq_getElem hj, ej], mem_piece.mpr ⟨hx, hr⟩⟩
  · have ym : ys ∈ (piecesL (fn ns) ns.length ns.length).filter (mkB fx) := List.mem_filter.mpr ⟨sub ys (List.mem_of_getElem? e2), mkB_iff.mpr h1⟩
    unfold odrL at e1 e2
    have a1 : ¬ i < ((piecesL (fn ns) ns.length ns.length).filter (mkB fx)).length := fun hi => by
      rw [List.getElem?_append_left hi] at e1
      exact h2 (mkB_iff.mp (List.mem_filter.mp (List.mem_of_getElem? e1)).2)
    have a2 : j < ((piecesL (fn ns) ns.length ns.length).filter (mkB fx)).length := by
      by_cases c : j < ((piecesL (fn ns) ns.length ns.length).filter (mkB fx)).length
      · exact c
      · rw [List.getElem?_append_right (by omega)] at e2
        have := (List.mem_filter.mp (List.mem_of_getElem? e2)).2
        rw [decide_eq_true ym] at this
        cases this
    omega
theorem pieces_len (ns : List Nat) : (piecesL (fn ns) ns.length ns.length).length ≤ ns.length := by
  rw [piecesL_map, List.length_map]
  have := List.length_filter_le (minB ns.length (Rch (fn ns))) (List.range ns.length)
  rwa [List.length_range] at this
def sp_Lpossible (K : PySem.W.Frag) : Sp := fun vs H Q _ => ∃ (p1 p2 p3 : Addr) (ns ms : List Nat) (as : List Addr) (fx : List (Nat × Nat)), vs = [.ref p1, .ref p2, .ref p3] ∧ SqL K H p1 (L ns) ∧ SqL K H p2 (L ms) ∧ SqL K H p3 (as.map V.ref) ∧ TA2 H as fx ∧
  MP ns ∧ MP ms ∧ ns.length < 64 ∧ fx.length ≤ 100 ∧ (ns.length = ms.length → ∀ p ∈ fx, p.1 < ns.length) ∧
  ∀ b H', Ex H H' → (b = true ↔ ns.length = ms.length ∧ ∃ s, FullR ns ms fx s) → Q (.bl b) H'
abbrev nm_Lpossible : List Str := ["_law_nexts_here", "_law_others", "_law_fixed", "_law_taken", "_law_pieces_here", "_law_members", "_law_marked", "_law_image_here", "_law_pair"]
abbrev pr_Lpossible : List Str := ["_law_nexts_here", "_law_others", "_law_fixed"]
def t_Lpossible (K : PySem.W.Frag) : TS :=
  (tSeq (tIfS (tTest (tOp rNe (tCB (cLen K) (tCons (tVar 0) tNil)) (tCB (cLen K) (tCons (tVar 1) tNil)))) (tRet (tC (.bl false))) tNext)
  (tSeq (tAsg (tLst tNil) (gName 3))
  (tSeq (tAsg (tCall (sp_Lpieces K) [] E0 (tCons (tVar 0) tNil)) (gName 4))
  (tSeq (tAsg (tLc (iList K (tVar 4)) (gName 5) (tTest (tOp (rNeD K) (tLc (iList K (tVar 2)) (gName 8) (tTest (tOp (rIn K false) (tOp (rIxT K) (tVar 8) (tC (.int 0))) (tVar 5))) (tVar 8) [8]) (tLst tNil))) (tVar 5) [5]) (gName 6))
  (tSeq (tFor (iList K (tOp rCat (tVar 6) (tLc (iList K (tVar 4)) (gName 5) (tTest (tOp (rNotInD K) (tVar 5) (tVar 6))) (tVar 5) [5]))) (gName 5) (tSeq (tAsg (tCall (sp_Limage K) [] E0 (tCons (tVar 0) (tCons (tVar 1) (tCons (tVar 5) (tCons (tVar 2) (tCons (tVar 3) tNil)))))) (gName 7))
      (tSeq (tIfS (tTest (tOp rIsNon (tVar 7) (tC .non))) (tRet (tC (.bl false))) tNext)
      (tAsg (tOp rCat (tVar 3) (tVar 7)) (gName 3)))))
  (tRet (tC (.bl true))))))))
abbrev Wt_Lpossible (K : PySem.W.Frag) (vs : List V) (H : Hp) (Q : VK) : Prop := t_Lpossible K { nx := fun _ H' => Q .non H', rt := Q } (start nm_Lpossible vs) H
theorem ln_Lpossible {K : PySem.W.Frag} (vs : List V) (H : Hp) (Q : VK) (E : XK) (h : sp_Lpossible K vs H Q E) : vs.length = pr_Lpossible.length := by
  obtain ⟨_, _, _, _, _, _, _, rfl, _⟩ := h
  rfl
theorem rd_Lpossible {K : PySem.W.Frag} (F : KF K) (vs : List V) (H : Hp) (Q : VK) (E : XK) (h : sp_Lpossible K vs H Q E) : Wt_Lpossible K vs H Q := by
  obtain ⟨p1, p2, p3, ns, ms, as, fx, rfl, h1, h2, h3, ta, hN, hM, h64, hfl, hf, k⟩ := h
  show t_Lpossible K _ [some (.ref p1), some (.ref p2), some (.ref p3), none, none, none, none, none, none] H
  have P := pf_fn hN.p
  have lenfx : as.length = fx.length := Paired.length ta
  refine q_when (b := !decide (ns.length = ms.length)) (et_test (ev_is (ev_op (ev_cb (ea_1 (ev_var rfl)) (rc_len h1)) (ev_cb (ea_1 (ev_var rfl)) (rc_len h2)) (rv_ne rfl)) ?_)) (fun hc H1 e1 => ?_) (fun hc H1 e1 => ?_)
  · rw [L_len, L_len]
    congr 2
    by_cases c : ns.length = ms.length
    · rw [c, decide_eq_true rfl, decide_eq_true rfl]
    · rw [decide_eq_false c, decide_eq_false (fun e => c (by have := V.int.inj e; omega))]
  · refine s_ret ev_c (fun H2 e2 => k false H2 (e1.trans e2) ⟨fun h => absurd h (by decide), fun ⟨c, _⟩ => ?_⟩)
    rw [decide_eq_true c] at hc
    cases hc
  have hl : ns.length = ms.length := by
    by_cases c : ns.length = ms.length
    · exact c
    · rw [decide_eq_false c] at hc
      cases hc
  have hf := hf hl
  refine q_asgL (el_lst ea_nil (Nat.zero_le _)) (fun tkp0 H2 ht0 e2 ht2 => ?_)
  have x2 := e1.trans e2
  refine q_asgLL (ell_call (ea_1 (ev_var rfl)) (spll_Lpieces (ex_l x2 h1) hN)) (fun p4 H3 hp4 e3 l3 => ?_)
  have x3 := x2.trans e3
  obtain ⟨bs, hp43, la, _⟩ := l3
  have lb : bs.length = (piecesL (fn ns) ns.length ns.length).length := Paired.length la
  have pl := pieces_len ns
  -- the marked ones
  obtain ⟨as6, eg6, l6⟩ := given_part (R := fun H a xs => H a = some (.lst (L xs))) (d := []) (mkB fx) lb _ (Nat.le_refl _)
  rw [List.take_length] at l6
  have item : ∀ {σ : L2.St} {H4 : Hp} {i : Nat} {v : V}, Ex H3 H4 → (bs.map V.ref)[i]? = some v → ∃ c xs, v = .ref c ∧ H4 c = some (.lst (L xs)) ∧ (piecesL (fn ns) ns.length ns.length).getD i [] = xs ∧ bs.getD i 0 = c := by
    intro σ H4 i v ex hv
    rw [List.getElem?_map] at hv
    obtain ⟨c, hc, rfl⟩ := Option.map_eq_some_iff.mp hv
    have hi : i < (piecesL (fn ns) ns.length ns.length).length := by
      rw [← lb]
      exact (List.getElem?_eq_some_iff.mp hc).1
    have hx : (piecesL (fn ns) ns.length ns.length)[i]? = some (piecesL (fn ns) ns.length ns.length)[i] := List.getElem?_eq_getElem hi
    refine ⟨c, (piecesL (fn ns) ns.length ns.length)[i], rfl, ex _ _ (paired_ix la hc hx), ?_, ?_⟩
    · rw [List.getD_eq_getElem?_getD, hx]
      rfl
    · rw [List.getD_eq_getElem?_getD, hc]
      rfl
  have el6 := el_lcL (K := K) (σ := [some (.ref p1), some (.ref p2), some (.ref p3), some (.ref tkp0), some (.ref p4), none, none, none, none]) (H := H3) (j := 5) (vs := [5]) (tl := tVar 4) (te := tVar 5)
    (t := tTest (tOp (rNeD K) (tLc (iList K (tVar 2)) (gName 8) (tTest (tOp (rIn K false) (tOp (rIxT K) (tVar 8) (tC (.int 0))) (tVar 5))) (tVar 8) [8]) (tLst tNil)))
    (fun i => mkB fx ((piecesL (fn ns) ns.length ns.length).getD i [])) (fun i => V.ref (bs.getD i 0)) (ev_var rfl) (sq_of hp43) (by rw [List.length_map]; omega) (fun _ => rfl) (fun i v H4 ex hv => by
      obtain ⟨c, xs, rfl, hc, dx, _⟩ := item (σ := []) ex hv
      rw [dx]
      obtain ⟨as8, eg8, l8⟩ := given_part (R := fun H a (p : Nat × Nat) => H a = some (.tup [vi p.1, vi p.2])) (d := (0, 0)) (hdB xs) lenfx _ (Nat.le_refl _)
      rw [List.take_length] at l8
      have el8 := el_lcL (K := K) (σ := [some (.ref p1), some (.ref p2), some (.ref p3), some (.ref tkp0), some (.ref p4), some (.ref c), none, none, none]) (H := H4) (j := 8) (vs := [8]) (tl := tVar 2) (te := tVar 8)
        (t := tTest (tOp (rIn K false) (tOp (rIxT K) (tVar 8) (tC (.int 0))) (tVar 5))) (fun i => hdB xs (fx.getD i (0, 0))) (fun i => V.ref (as.getD i 0)) (ev_var rfl) (ex_l (x3.trans ex) h3) (by rw [List.length_map]; omega) (fun _ => rfl) (fun i v H5 e5 hv => by
          rw [List.getElem?_map] at hv
          obtain ⟨d, hd, rfl⟩ := Option.map_eq_some_iff.mp hv
          have hi : i < fx.length := by
            rw [← lenfx]
            exact (List.getElem?_eq_some_iff.mp hd).1
          have hx : fx[i]? = some fx[i] := List.getElem?_eq_getElem hi
          have hdt := paired_ix ta hd hx
          have dx : fx.getD i (0, 0) = fx[i] := by
            rw [List.getD_eq_getElem?_getD, hx]
            rfl
          rw [dx]
          exact et_test (ev_is (ev_op (ev_op (ev_var rfl) ev_c (rv_ixT (st_of (((x3.trans ex).trans e5) _ _ hdt)) (at0T _ _))) (ev_var rfl) (rv_isL (sq_of (e5 _ _ hc)) rfl (flat_L _))) (by rw [inV_L]; rfl))) (fun i v H5 e5 hv _ => by
          rw [List.getElem?_map] at hv
          obtain ⟨d, hd, rfl⟩ := Option.map_eq_some_iff.mp hv
          have da : as.getD i 0 = d := by
            rw [List.getD_eq_getElem?_getD, hd]
            rfl
          rw [da]
          exact ev_var rfl)
      rw [List.length_map, lenfx, eg8] at el8
      exact et_test (ev_opLL el8 (el_lst ea_nil (Nat.zero_le _)) (fun p q H5 hp hq e5 => rv_neTP (bs := []) (qs := []) (sq_of hp) (l8 _ (TA2.ex ta ((x3.trans ex).trans e5))) (sq_of hq) .nil))) (fun i v H4 ex hv _ => by
      obtain ⟨c, xs, rfl, hc, _, da⟩ := item (σ := []) ex hv
      rw [da]
      exact ev_var rfl)
  rw [List.length_map, lb, eg6] at el6
  refine q_asgL el6 (fun p6 H4 hp6 e4 h46 => ?_)
  have x4 := x3.trans e4
  have la6 := l6 _ (LA.ex la e4)
  have len6 : as6.length ≤ ns.length := by
    have := Paired.length la6
    have := List.length_filter_le (mkB fx) (piecesL (fn ns) ns.length ns.length)
    omega
  -- the others
  obtain ⟨as7, eg7, l7⟩ := given_part (R := fun H a xs => H a = some (.lst (L xs))) (d := []) (fun xs => !decide (xs ∈ (piecesL (fn ns) ns.length ns.length).filter (mkB fx))) lb _ (Nat.le_refl _)
  rw [List.take_length] at l7
  have el7 := el_lcL (K := K) (σ := [some (.ref p1), some (.ref p2), some (.ref p3), some (.ref tkp0), some (.ref p4), none, some (.ref p6), none, none]) (H := H4) (j := 5) (vs := [5]) (tl := tVar 4) (te := tVar 5)
    (t := tTest (tOp (rNotInD K) (tVar 5) (tVar 6))) (fun i => !decide ((piecesL (fn ns) ns.length ns.length).getD i [] ∈ (piecesL (fn ns) ns.length ns.length).filter (mkB fx))) (fun i => V.ref (bs.getD i 0)) (ev_var rfl) (sq_of (e4 _ _ hp43)) (by rw [List.length_map]; omega) (fun _ => rfl) (fun i v H5 ex hv => by
      obtain ⟨c, xs, rfl, hc, dx, _⟩ := item (σ := []) (e4.trans ex) hv
      rw [dx]
      exact et_test (ev_op (ev_var rfl) (ev_var rfl) (rv_notInD (sq_of hc) ⟨as6, ex _ _ h46, LA.ex la6 ex⟩))) (fun i v H5 ex hv _ => by
      obtain ⟨c, xs, rfl, hc, _, da⟩ := item (σ := []) (e4.trans ex) hv
      rw [da]
      exact ev_var rfl)
  rw [List.length_map, lb, eg7] at el7
  have la7 := l7 _ (LA.ex la e4)
  have len7 : as7.length ≤ ns.length := by
    have := Paired.length la7
    have := List.length_filter_le (fun xs => !decide (xs ∈ (piecesL (fn ns) ns.length ns.length).filter (mkB fx))) (piecesL (fn ns) ns.length ns.length)
    omega
  have laO : LA H4 (as6 ++ as7) (odrL ns fx) := paired_app la6 la7
  have lenO : (as6 ++ as7).length = (odrL ns fx).length := Paired.length laO
  have O := odr_ok hN fx
  have Olen : (odrL ns fx).length ≤ 128 := by
    rw [← lenO, List.length_append]
    omega
  refine q_forNLn (K := K) (xs := (as6 ++ as7).map V.ref) (j := 5) (by rw [List.map_append]; exact el_catV (ev_var rfl) h46 el7 (by rw [List.length_map, List.length_map]; omega)) (fun q i σ' H' => ∃ (tk : List Nat) (tkp : Addr) (v5 v7 : Option V) (F : Nat → Nat → Prop), σ' = [some (.ref p1), some (.ref p2), some (.ref p3), some (.ref tkp), some (.ref p4), v5, some (.ref p6), v7, none] ∧
    Ex H4 H' ∧ H' q = some (.lst ((as6 ++ as7).map V.ref)) ∧ H' tkp = some (.lst (L tk)) ∧ tk.length ≤ i * 64 ∧ PSt ns ms fx (odrL ns fx) i tk F) ?_ ?_ ?_ ?_
  · intro q H5 hq e5 h5
    refine ⟨[], tkp0, _, _, fun _ _ => False, rfl, e5, h5, e5 _ _ (e4 _ _ (e3 _ _ ht2)), Nat.zero_le _, ⟨⟨fun _ _ h => h.elim, fun _ _ h => h.elim, fun _ _ _ _ h => h.elim, fun _ _ h => h.elim, fun _ _ h => h.elim⟩, fun y => ⟨fun h => (nomatch h), fun ⟨_, h⟩ => h.elim⟩, fun x => ⟨fun ⟨_, h⟩ => h.elim, fun ⟨j, _, h, _⟩ => absurd h (Nat.not_lt_zero j)⟩, fun _ _ _ h => h.elim, fun ⟨s, S⟩ => ⟨s, S, fun _ _ h => h.elim⟩⟩⟩
  · rintro q i σ' H' _ ⟨_, _, _, _, _, _, _, h, _⟩
    exact sq_of h
  · rintro q i v σ' H' hv ⟨tk, tkp, v5, v7, F, rfl, x5, hq5, ht5, tl, S⟩
    rw [List.getElem?_map] at hv
    obtain ⟨c, hc, rfl⟩ := Option.map_eq_some_iff.mp hv
    have hi : i < (odrL ns fx).length := by
      rw [← lenO]
      exact (List.getElem?_eq_some_iff.mp hc).1
    have hx : (odrL ns fx)[i]? = some (odrL ns fx)[i] := List.getElem?_eq_getElem hi
    generalize (odrL ns fx)[i] = xs at hx
    have hcl := paired_ix laO hc hx
    obtain ⟨m, hm, mn, exs⟩ := O.pc i xs hx
    have mm : m ∈ xs := by
      rw [exs, mem_piece]
      exact ⟨hm, .refl m⟩
    obtain ⟨z, r, rfl⟩ : ∃ z r, xs = z :: r := by
      cases xs with
      | nil => cases mm
      | cons z r => exact ⟨z, r, rfl⟩
    obtain ⟨hz, mr⟩ := O.rch hN hx
    refine q_asgC (vs := [.ref p1, .ref p2, .ref c, .ref p3, .ref tkp]) (ea_cons (ev_var rfl) (ea_cons (ev_var rfl) (ea_cons (ev_var rfl) (ea_2 (ev_var rfl) (ev_var rfl))))) (fun H6 e6 => ?_)
    have x6 := x4.trans (x5.trans e6)
    refine ⟨p1, p2, c, p3, tkp, ns, ms, z :: r, tk, as, fx, z, r, rfl, ex_l x6 h1, ex_l x6 h2, sq_of (e6 _ _ (x5 _ _ hcl)), ex_l x6 h3, TA2.ex ta x6, sq_of (e6 _ _ ht5), hN, hM, rfl, by rw [exs]; exact piece_nodup _ _ _, fun x hx => by rw [exs] at hx; exact (mem_piece.mp hx).1, mr, fun w b im H7 hb hw e7 h7 ok hi2 iml => ?_, fun H7 e7 nk => ?_⟩
    · refine q_when (et_test (ev_op (z := .bl false) (ev_var rfl) ev_c (rv_isN0 rfl))) (fun hc => absurd hc (by decide)) (fun _ H8 e8 => ?_)
      have ht8 := e8 _ _ (e7 _ _ (e6 _ _ ht5))
      refine s_asgL (el_catVV (ev_var rfl) ht8 (ev_var rfl) (e8 _ _ h7) (by rw [L_len, L_len]; omega)) (fun tk2 H9 ht9 e9 h9 => ?_)
      have x9 := (((x5.trans e6).trans e7).trans e8).trans e9
      refine ⟨tk ++ im, tk2, _, _, _, rfl, x9, e9 _ _ (e8 _ _ (e7 _ _ (e6 _ _ hq5))), by rw [h9, L_app], by rw [List.length_append, Nat.succ_mul]; omega, S.yes O hN hM hl hx (by omega) ok hf hi2⟩
    · refine q_when (et_test (ev_op (z := .bl true) (ev_var rfl) ev_c (rv_isN0 rfl))) (fun _ H8 e8 => ?_) (fun hc => absurd hc (by decide))
      refine s_ret ev_c (fun H9 e9 => k false H9 (((x6.trans e7).trans e8).trans e9) ⟨fun h => absurd h (by decide), fun ⟨_, h⟩ => ?_⟩)
      exact absurd h (S.no O hN hx (fun b hb => nk b (by omega)))
  · rintro q σ' H' ⟨tk, tkp, v5, v7, F, rfl, x5, hq5, ht5, tl, S⟩
    rw [List.length_map, lenO] at S
    refine s_ret ev_c (fun H6 e6 => k true H6 ((x4.trans x5).trans e6) ⟨fun _ => ⟨hl, S.fin O hN hf⟩, fun _ => rfl⟩)
end K22
namespace K22
open PySem PySem.Spec PyProof.Rows L2 Evl Hm
theorem rv_I0T {H : Hp} {g : Int → Int → V} {i j : Int} {b : Bool} (h : g i j = .bl b) : RV (rI0 g) (.int i) (.int j) H (.bl b) := fun H1 _ _ q => ⟨i, j, rfl, rfl, by
  rw [h]
  exact q H1 (Ex.refl H1)⟩
theorem rc_isD {K : PySem.W.Frag} {H : Hp} {p : Addr} {kvs : List (Key × V)} (h : H p = some (.dK kvs)) : RC (rIsi K) [.ref p, .ty "dict"] H (.bl true) :=
  rc_isi (.ty "dict") (fun H1 e => .base (.dK (e _ _ h))) (kit_ty (by decide +kernel))
theorem rc_lenD {H : Hp} {p : Addr} {kvs : List (Key × V)} (h : H p = some (.dK kvs)) : RC rLenD [.ref p] H (.int (kvs.length : Int)) := fun H1 e Q q => ⟨p, kvs, rfl, e _ _ h, q H1 (Ex.refl H1)⟩
def sp_Lright (K : PySem.W.Frag) : Sp := fun vs H Q _ => ∃ (d p1 p2 p3 : Addr) (ns ms : List Nat) (as : List Addr) (fx l : List (Nat × Nat)), vs = [.ref d, .ref p1, .ref p2, .ref p3] ∧ H d = some (.dK (dP l)) ∧ SqL K H p1 (L ns) ∧ SqL K H p2 (L ms) ∧ SqL K H p3 (as.map V.ref) ∧ TA2 H as fx ∧
  MP ns ∧ ns.length = ms.length ∧ DP ns ms l ∧ (∀ x, x < ns.length → ∃ y, Fl l x y) ∧ (∀ p ∈ fx, Fl l p.1 p.2) ∧ ∀ H', Ex H H' → Q (.bl true) H'
abbrev nm_Lright : List Str := ["_law_found", "_law_nexts_here", "_law_others", "_law_fixed", "_law_images", "_law_half", "_law_image_here", "_law_pair"]
abbrev pr_Lright : List Str := ["_law_found", "_law_nexts_here", "_law_others", "_law_fixed"]
def t_Lright (K : PySem.W.Frag) : TS :=
  (tSeq (tIfS (tOr (tNot (tB (tCB (rIsi K) (tCons (tVar 0) (tCons (tC (.ty "dict")) tNil))))) (tTest (tOp rNe (tCB rLenD (tCons (tVar 0) tNil)) (tCB (cLen K) (tCons (tVar 1) tNil))))) (tRet (tC (.bl false))) tNext)
  (tSeq (tAsg (tLst tNil) (gName 4))
  (tSeq (tFor (iRng1 (tCons (tCB (cLen K) (tCons (tVar 1) tNil)) tNil)) (gName 5) (tSeq (tAsg (tBM K "dict" rGet2 (tVar 0) (tCons (tVar 5) (tCons (tUn zNeg (tC (.int 1))) tNil))) (gName 6))
      (tSeq (tIfS (tOr (tNot (tTest (tChain zLe zLt (tC (.int 0)) (tVar 6) (tCB (cLen K) (tCons (tVar 2) tNil))))) (tTest (tOp (rIn K false) (tVar 6) (tVar 4)))) (tRet (tC (.bl false))) tNext)
      (tSeq (tDrop (tBM K "list" rAppend (tVar 4) (tCons (tVar 6) tNil)))
      (tIfS (tOr (tTest (tOp rNe (tBM K "dict" rGet2 (tVar 0) (tCons (tCall (sp_Ltwin K) [] E0 (tCons (tVar 5) tNil)) (tCons (tUn zNeg (tC (.int 1))) tNil))) (tCall (sp_Ltwin K) [] E0 (tCons (tVar 6) tNil)))) (tTest (tOp rNe (tBM K "dict" rGet2 (tVar 0) (tCons (tOp (rIxL K) (tVar 1) (tVar 5)) (tCons (tUn zNeg (tC (.int 1))) tNil))) (tOp (rIxL K) (tVar 2) (tVar 6))))) (tRet (tC (.bl false))) tNext)))))
  (tSeq (tFor (iList K (tVar 3)) (gName 7) (tIfS (tTest (tOp rNe (tDGet (tVar 0) (tOp (rIxT K) (tVar 7) (tC (.int 0)))) (tOp (rIxT K) (tVar 7) (tC (.int 1))))) (tRet (tC (.bl false))) tNext))
  (tRet (tC (.bl true)))))))
abbrev Wt_Lright (K : PySem.W.Frag) (vs : List V) (H : Hp) (Q : VK) : Prop := t_Lright K { nx := fun _ H' => Q .non H', rt := Q } (start nm_Lright vs) H
theorem ln_Lright {K : PySem.W.Frag} (vs : List V) (H : Hp) (Q : VK) (E : XK) (h : sp_Lright K vs H Q E) : vs.length = pr_Lright.length := by
  obtain ⟨_, _, _, _, _, _, _, _, _, rfl, _⟩ := h
  rfl
theorem rd_Lright {K : PySem.W.Frag} (F : KF K) (vs : List V) (H : Hp) (Q : VK) (E : XK) (h : sp_Lright K vs H Q E) : Wt_Lright K vs H Q := by
  obtain ⟨d, p1, p2, p3, ns, ms, as, fx, l, rfl, hd, h1, h2, h3, ta, hN, hl, D, tot, pf, k⟩ := h
  show t_Lright K _ [some (.ref d), some (.ref p1), some (.ref p2), some (.ref p3), none, none, none, none] H
  have P := pf_fn hN.p
  have nl := hN.len
  have lenfx : as.length = fx.length := Paired.length ta
  have ll : l.length = ns.length := by
    have e : (l.map (·.1)).Perm (List.range ns.length) := (List.perm_ext_iff_of_nodup D.nd List.nodup_range).mpr fun x => by
      rw [List.mem_range]
      refine ⟨fun hx => ?_, fun hx => mem_fst.mpr (tot x hx)⟩
      obtain ⟨y, q⟩ := mem_fst.mp hx
      exact D.par.l1 _ _ q
    have := e.length_eq
    rwa [List.length_map, List.length_range] at this
  have get : ∀ {x y : Nat}, Fl l x y → (valV (dP l) (.inl (x : Int))).getD (.int (-1)) = vi y := fun h => by
    rw [dP_some D.nd h]
    rfl
  have neg1 : ∀ {σ : L2.St} {H : Hp}, Ev (tUn zNeg (tC (.int 1))) σ H (.int (-1)) := ev_un ev_c ru_neg
  refine q_when (b := (!true) || false) (et_or (et_not (et_B (ev_cb (ea_2 (ev_var rfl) ev_c) (rc_isD hd)))) fun _ => et_test (ev_is (ev_op (ev_cb (ea_1 (ev_var rfl)) (rc_lenD hd)) (ev_cb (ea_1 (ev_var rfl)) (rc_len h1)) (rv_ne rfl)) ?_)) (fun hc => absurd hc (by decide)) (fun _ H1 e1 => ?_)
  · rw [dP_len, L_len, ll, decide_eq_true rfl]
    rfl
  refine q_asgL (el_lst ea_nil (Nat.zero_le _)) (fun ip H2 hip e2 hi2 => ?_)
  have x2 := e1.trans e2
  have ip0 := fresh_back e1 hip
  refine q_forR1 (n := (ns.length : Int)) (ea_1 (ev_is (ev_cb (ea_1 (ev_var rfl)) (rc_len (ex_l x2 h1))) (by rw [L_len]))) (by omega) (fun i σ' H' => ∃ (im : List Nat) (v5 v6 : Option V), σ' = [some (.ref d), some (.ref p1), some (.ref p2), some (.ref p3), some (.ref ip), v5, v6, none] ∧
    Ex H H' ∧ H' ip = some (.lst (L im)) ∧ im.length = i ∧ ∀ y ∈ im, ∃ x, x < i ∧ Fl l x y) ?_ ?_ ?_
  · intro H3 e3
    exact ⟨[], _, _, rfl, x2.trans e3, e3 _ _ hi2, rfl, fun _ h => (nomatch h)⟩
  · rintro i σ' H' hi ⟨im, v5, v6, rfl, ex, hip', il, hy⟩
    have hi' : i < ns.length := by omega
    obtain ⟨y, fy⟩ := tot i hi'
    have hy2 := D.par.l2 _ _ fy
    have yim : y ∉ im := fun m => by
      obtain ⟨x, hx, q⟩ := hy y m
      have := (D.par.one _ _ _ _ q fy).mpr rfl
      omega
    refine q_asg (v := vi y) (ev_is (ev_get2 (ev_var rfl) (ev_var rfl) neg1 (ex _ _ hd) (fun H4 h4 => ty_dK h4)) (get fy)) (fun H3 e3 => ?_)
    have x3 := ex.trans e3
    refine q_when (b := (!(true && true)) || false) (et_or (et_not (et_test (ev_chain (a := true) (b := true) ev_c (ev_var rfl) (rv_I0T (by show V.bl (decide ((0 : Int) ≤ (y : Int))) = _; rw [decide_eq_true (by omega)])) (fun _ => ev_cb (ea_1 (ev_var rfl)) (rc_len (ex_l x3 h2))) (fun _ => rv_I0T (by rw [L_len]; show V.bl (decide ((y : Int) < (ms.length : Int))) = _; rw [decide_eq_true (by omega)]))))) fun _ => et_test (ev_is (ev_op (ev_var rfl) (ev_var rfl) (rv_isL (sq_of (e3 _ _ hip')) rfl (flat_L im))) (by rw [inV_L, decide_eq_false yim]))) (fun hc => absurd hc (by decide)) (fun _ H4 e4 => ?_)
    have x4 := x3.trans e4
    refine q_app (e4 _ _ (e3 _ _ hip')) (ev_var rfl) (ev_var rfl) (by rw [L_len]; omega) (fun H5 e5 => ?_)
    have x5 : Ex H (upd H5 ip (.lst (L im ++ [vi y]))) := (x4.trans e5).mut ip0
    have ft : Fl l (tw i) (tw y) := D.par.tw _ _ fy
    have fn1 : Fl l (fn ns i) (fn ms y) := D.par.nx _ _ fy
    refine s_when (b := false || false) (et_or (et_test (ev_is (ev_op (ev_is (ev_get2 (ev_var rfl) (ev_call (ea_1 (ev_var rfl)) (spv_Ltwin _)) neg1 (x5 _ _ hd) (fun H4 h4 => ty_dK h4)) (get ft)) (ev_call (ea_1 (ev_var rfl)) (spv_Ltwin _)) (rv_ne rfl)) (by rw [decide_eq_true rfl]; rfl))) fun _ => et_test (ev_is (ev_op (ev_is (ev_get2 (ev_var rfl) (ev_op (ev_var rfl) (ev_var rfl) (rv_ixL (ex_l x5 h1) (L_at hi'))) neg1 (x5 _ _ hd) (fun H4 h4 => ty_dK h4)) (get fn1)) (ev_op (ev_var rfl) (ev_var rfl) (rv_ixL (ex_l x5 h2) (L_at (by omega)))) (rv_ne rfl)) (by rw [decide_eq_true rfl]; rfl))) (fun hc => absurd hc (by decide)) (fun _ H6 e6 => ?_)
    refine ⟨im ++ [y], _, _, rfl, x5.trans e6, ?_, by rw [List.length_append, il]; rfl, fun w hw => ?_⟩
    · rw [e6 _ _ upd_same, L_app]
      rfl
    · rcases List.mem_append.mp hw with hw | hw
      · obtain ⟨x, hx, q⟩ := hy w hw
        exact ⟨x, by omega, q⟩
      · rw [List.mem_singleton.mp hw]
        exact ⟨i, by omega, fy⟩
  · rintro σ' H' ⟨im, v5, v6, rfl, ex, hip', il, hy⟩
    refine q_forLn (a := p3) (xs := as.map V.ref) (j := 7) (ev_var rfl) (ex_l ex h3) (fun i σ2 H2 => ∃ v7 : Option V, σ2 = [some (.ref d), some (.ref p1), some (.ref p2), some (.ref p3), some (.ref ip), v5, v6, v7] ∧ Ex H H2) ?_ ?_ ?_ ?_
    · intro H3 e3
      exact ⟨_, rfl, ex.trans e3⟩
    · rintro i σ2 H2 _ ⟨_, _, x⟩
      exact ex_l x h3
    · rintro i v σ2 H2 hv ⟨v7, rfl, x⟩
      rw [List.getElem?_map] at hv
      obtain ⟨c, hc, rfl⟩ := Option.map_eq_some_iff.mp hv
      have hi : i < fx.length := by
        rw [← lenfx]
        exact (List.getElem?_eq_some_iff.mp hc).1
      have hx : fx[i]? = some fx[i] := List.getElem?_eq_getElem hi
      have mem : fx[i] ∈ fx := List.getElem_mem hi
      have hct := x _ _ (paired_ix ta hc hx)
      have fp := pf _ mem
      refine s_when (b := false) (et_test (ev_is (ev_op (ev_dget (ev_var rfl) (ev_op (ev_var rfl) ev_c (rv_ixT (st_of hct) (at0T _ _))) (x _ _ hd) (dP_some D.nd fp)) (ev_op (ev_var rfl) ev_c (rv_ixT (st_of hct) (at1T _ _))) (rv_ne rfl)) (by rw [decide_eq_true rfl]; rfl))) (fun hc => absurd hc (by decide)) (fun _ H3 e3 => ⟨_, rfl, x.trans e3⟩)
    · rintro σ2 H2 ⟨v7, rfl, x⟩
      exact s_ret ev_c (fun H3 e3 => k H3 (x.trans e3))
end K22
namespace K22
open PySem PySem.Spec PyProof.Rows L2 Evl Hm
section
variable {K : PySem.W.Frag} {σ : L2.St} {H : Hp} {ta tb te tv td ty : TE} {tr tp : TA} {D : Ends} {tz tu tw : TS} {g : TG} {Q : VK} {QA : List V → Hp → Prop} {r : R2} {i j : Nat} {v x : V} {vs : List V} {sp sp2 : Sp} {E E2 : XK} {t1 : TT}
theorem r_op (h : ta σ H fun x H1 => tb σ H1 fun y H2 => r x y H2 Q) : tOp r ta tb σ H Q := h
theorem r_asg (h : te σ H fun v H1 => tz D (σ.set i (some v)) H1) : tSeq (tAsg te (gName i)) tz D σ H := h
theorem r_forArg {tu : TS} (h : te σ H fun v H1 => tSeq (tFor (iRng1 (tCons (tC v) tNil)) g tu) tz D σ H1) : tSeq (tFor (iRng1 (tCons te tNil)) g tu) tz D σ H := h
theorem r_call {dvs : List V} (ha : EvA tr σ H vs) (h : ∀ H1, Ex H H1 → sp (vs ++ dvs) H1 Q E) : tCall sp dvs E tr σ H Q := ha H (Ex.refl H) _ h
theorem r_pick {t : Addr} {m : Int} (ha : EvA tr σ H [.ref t, .int m]) (ht : Tp (H t)) (h1 : 1 ≤ m) (h2 : m ≤ 1000000) (k : ∀ (d : Nat) H', (d : Int) < m → Tp (H' t) → ExO t H H' → Q (vi d) H') : tCall (sp_Lpick K) [] E tr σ H Q :=
  r_call ha fun H1 e1 => ⟨t, m, rfl, tp_ex ht e1, h1, h2, fun d H' d0 d1 ht' e => by
    have : d = ((d.toNat : Nat) : Int) := by omega
    rw [this]
    exact k d.toNat H' (by omega) ht' ((ExO.of e1).trans e)⟩
theorem r_if {t : TT} (h : t σ H fun c H1 => if c = true then ta σ H1 Q else tb σ H1 Q) : tIf t ta tb σ H Q := h
theorem r_gt0 {c : Int} {QT : Bool → Hp → Prop} (h : te σ H fun v H1 => zGt v (.int c) H1 (fun x H' => ∃ k, x = .bl k ∧ QT k H')) : tTest (tOp zGt te (tC (.int c))) σ H QT := h
theorem q_asgG' (hp : EvA tp σ H vs) (k : ∀ H1, Ex H H1 → sp vs H1 (fun v H2 => g v σ H2 (fun σ' H3 => tz D σ' H3)) E) : tSeq (tAsg (tCall sp [] E tp) g) tz D σ H :=
  hp H (Ex.refl H) _ fun H1 e => by
    have q := k H1 e
    rw [← List.append_nil vs] at q
    exact q
theorem q_ifOrNC (h1 : EvT t1 σ H false) (h : ∀ H1, Ex H H1 → EvA tp σ H1 vs) (k : ∀ H1, Ex H H1 → sp vs H1 (fun v H2 => ∃ b, v = .bl b ∧ (if (!b) = true then tu { D with nx := tz D } σ H2 else tw { D with nx := tz D } σ H2)) E) :
    tSeq (tIfS (tOr t1 (tNot (tB (tCall sp [] E tp)))) tu tw) tz D σ H := h1 H (Ex.refl H) _ fun H1 e1 => by
  show if false = true then _ else _
  rw [if_neg (by decide)]
  refine h H1 e1 H1 (Ex.refl H1) _ fun H2 e2 => ?_
  have q := k H2 (e1.trans e2)
  rw [← List.append_nil vs] at q
  exact q
theorem s_retC1 (h : EvA tp σ H vs) (k : ∀ H1, Ex H H1 → sp2 vs H1 (fun v H2 => tr σ H2 fun ws H3 => sp ((v :: ws) ++ []) H3 D.rt E) E2) : tRet (tCall sp [] E (tCons (tCall sp2 [] E2 tp) tr)) D σ H :=
  h H (Ex.refl H) _ fun H1 e1 => by
    have q := k H1 e1
    rw [← List.append_nil vs] at q
    exact q
theorem s_dput {d : Addr} {kvs : List (Key × V)} {i : Int} (hv : Ev tv σ H v) (hd : Ev td σ H (.ref d)) (hy : Ev ty σ H (.int i)) (h : H d = some (.dK kvs)) (hl : kvs.length < 100000) (k : ∀ H1, Ex H H1 → D.nx σ (upd H1 d (.dK (putK kvs (.inl i) v)))) : sDPut td ty tv D σ H :=
  hv H (Ex.refl H) _ fun H1 e1 => hd H1 e1 _ fun H2 e2 => hy H2 (e1.trans e2) _ fun H3 e3 => ⟨d, _, rfl, DPut.k (k := .inl i) (((e1.trans e2).trans e3) _ _ h) (sz_lt hl), k H3 ((e1.trans e2).trans e3)⟩
theorem s_appTup {l : Addr} {xs : List V} (ha : σ[i]? = some (some (.ref l))) (hl : H l = some (.lst xs)) (hx : σ[j]? = some (some x)) (h : te σ H fun y H2 => 2 ≤ sizeLine ∧ ∀ u, H2 u = none → rAppend (.ref l) [.ref u] (upd H2 u (.tup [x, y])) (fun _ H3 => D.nx σ H3)) :
    tDrop (tBM K "list" rAppend (tVar i) (tCons (tTup (tCons (tVar j) (tCons te tNil))) tNil)) D σ H := ⟨.ref l, ha, Or.inl ⟨rfl, _, sq_of hl⟩, ⟨x, hx, h⟩⟩
end
theorem given_copy (as : List Addr) : given as.length (fun _ => true) (fun i => V.ref (as.getD i 0)) = as.map V.ref := by
  rw [given_all]
  refine List.ext_getElem? fun i => ?_
  by_cases h : i < as.length
  · rw [List.getElem?_map, List.getElem?_range h, List.getElem?_map, List.getElem?_eq_getElem h]
    show some (V.ref (as.getD i 0)) = _
    rw [List.getD_eq_getElem?_getD, List.getElem?_eq_getElem h]
    rfl
  · rw [List.getElem?_eq_none (by rw [List.length_map, List.length_range]; omega), List.getElem?_eq_none (by rw [List.length_map]; omega)]
theorem full_of {ns ms : List Nat} {fx l : List (Nat × Nat)} (hN : MP ns) (D : DP ns ms l) (tot : ∀ x, x < ns.length → ∃ y, Fl l x y) (pf : ∀ p ∈ fx, Fl l p.1 p.2) : ∃ s, FullR ns ms fx s := by
  obtain ⟨s, S, q⟩ := D.par.ren (pf_fn hN.p) hN.two tot
  exact ⟨s, S, fun p hp => (q _ _ (pf p hp)).symm⟩
theorem isP_two' {ns : List Nat} (h : IsP ns) : IsP (ns ++ [ns.length + 1, ns.length]) where
  perm := by
    have q := (isP_two h).perm
    rw [List.length_append] at q ⊢
    exact (List.Perm.append_left ns (List.Perm.swap _ _ [])).trans q
def t_lawC (K : PySem.W.Frag) : TS :=
  (tSeq (tAsg (tLc (iList K (tVar 7)) (gName 17) tYes (tVar 17) [17]) (gName 13))
  (tSeq (tAsg (tMake (He.ga K "Mesh") (sp_Meshinit K) [] E0 (tCons (tVar 4) tNil)) (gName 14))
  (tSeq (tAsg (tMake (He.ga K "Mesh") (sp_Meshinit K) [] E0 (tCons (tVar 6) tNil)) (gName 15))
  (tSeq (tAsg (tCall (sp_renaming K) [] E0 (tCons (tVar 14) (tCons (tVar 15) (tCons (tVar 13) tNil)))) (gName 16))
  (tSeq (tIfS (tOr (tTest (tOp (rNeD K) (tVar 13) (tVar 7))) (tNot (tB (tCall (sp_Lpossible K) [] E0 (tCons (tVar 4) (tCons (tVar 6) (tCons (tVar 7) tNil))))))) (tRet (tAndV (tOp (rEqD K) (tVar 13) (tVar 7)) (tOp rIsNon (tVar 16) (tC .non)))) tNext)
  (tSeq (tIfS (tNot (tB (tCall (sp_Lright K) [] E0 (tCons (tVar 16) (tCons (tVar 4) (tCons (tVar 6) (tCons (tVar 7) tNil))))))) (tRet (tC (.bl false))) tNext)
  (tSeq (tIfS (tTest (tOp rNotNon (tVar 16) (tC .non))) (sDPut (tVar 16) (tC (.int 0)) (tC (.int 99))) tNext)
  (tRet (tCall (sp_Lright K) [] E0 (tCons (tCall (sp_renaming K) [] E0 (tCons (tVar 14) (tCons (tVar 15) (tCons (tVar 13) tNil)))) (tCons (tVar 4) (tCons (tVar 6) (tCons (tVar 7) tNil)))))))))))))
def t_lawB (K : PySem.W.Frag) : TS :=
  (tSeq (tIfS (tAnd (tTest (tOp zLt (tVar 3) (tC (.int 2)))) (tTest (tOp zGt (tVar 2) (tC (.int 0))))) (tSeq (tAsg (tCall (sp_Lpick K) [] E0 (tCons (tVar 1) (tCons (tOp zMul (tC (.int 2)) (tVar 2)) tNil))) (gName 10))
      (tSeq (tAsg (tCall (sp_Lpick K) [] E0 (tCons (tVar 1) (tCons (tOp zMul (tC (.int 2)) (tVar 2)) tNil))) (gName 11))
      (tSeq (tAsg (tOp (rIxL K) (tVar 6) (tVar 10)) (gName 12))
      (tSeq (tAsg (tOp (rIxL K) (tVar 6) (tVar 11)) (gSub (tVar 6) (tVar 10) rSetL))
      (tAsg (tVar 12) (gSub (tVar 6) (tVar 11) rSetL)))))) tNext)
  (tSeq (tIfS (tTest (tOp rEq (tVar 3) (tC (.int 2)))) (tAsg (tOp rCat (tVar 6) (tLst (tCons (tOp zAdd (tCB (cLen K) (tCons (tVar 6) tNil)) (tC (.int 1))) (tCons (tCB (cLen K) (tCons (tVar 6) tNil)) tNil)))) (gName 6)) tNext)
  (t_lawC K)))
def t_lawA (K : PySem.W.Frag) : TS :=
  (tSeq (tFor (iRng1 (tCons (tCall (sp_Lpick K) [] E0 (tCons (tVar 1) (tCons (tC (.int 7)) tNil))) tNil)) (gName 8) (tIfS (tTest (tOp zGt (tVar 2) (tC (.int 0)))) (tSeq (tAsg (tCall (sp_Lpick K) [] E0 (tCons (tVar 1) (tCons (tOp zMul (tC (.int 2)) (tVar 2)) tNil))) (gName 9))
        (tDrop (tBM K "list" rAppend (tVar 7) (tCons (tTup (tCons (tVar 9) (tCons (tIf (tTest (tOp zGt (tCall (sp_Lpick K) [] E0 (tCons (tVar 1) (tCons (tC (.int 4)) tNil))) (tC (.int 0)))) (tOp (rIxL K) (tVar 5) (tVar 9)) (tCall (sp_Lpick K) [] E0 (tCons (tVar 1) (tCons (tOp zMul (tC (.int 2)) (tVar 2)) tNil)))) tNil))) tNil)))) tNext))
  (t_lawB K))
def sp_law (K : PySem.W.Frag) : Sp := fun vs H Q _ => ∃ (a : Addr) (zs : List Int), vs = [.ref a] ∧ SqL K H a (zs.map V.int) ∧ ∀ H', Q (.bl true) H'
abbrev nm_law : List Str := ["_law_script", "_law_tape_here", "_law_edges", "_law_choice", "_law_nexts_here", "_law_names", "_law_others", "_law_fixed", "_law_k", "_law_half", "_law_first", "_law_second", "_law_kept", "_law_passed", "_law_one", "_law_other", "_law_found", "_law_pair"]
abbrev pr_law : List Str := ["_law_script"]
def t_law (K : PySem.W.Frag) : TS :=
  (tSeq (tAsg (tCall (sp_Ltape K) [] E0 (tCons (tVar 0) (tCons (tC (.int 0)) tNil))) (gName 1))
  (tSeq (tAsg (tCall (sp_Lsize K) [] E0 (tCons (tVar 1) tNil)) (gName 2))
  (tSeq (tIfS (tTest (tOp zGt (tVar 2) (tC (.int 12)))) (tAsg (tC (.int 29)) (gName 2)) tNext)
  (tSeq (tAsg (tCall (sp_Lpick K) [] E0 (tCons (tVar 1) (tCons (tC (.int 8)) tNil))) (gName 3))
  (tSeq (tAsg (tCall (sp_Lnexts K) [] E0 (tCons (tCall (sp_Ltape K) [] E0 (tCons (tVar 0) (tCons (tC (.int 1)) tNil))) (tCons (tVar 2) tNil))) (gName 4))
  (tSeq (tAsg (tCall (sp_Ltape K) [] E0 (tCons (tVar 0) (tCons (tC (.int 2)) tNil))) (gName 1))
  (tSeq (tAsg (tCall (sp_Lmoved K) [] E0 (tCons (tVar 1) (tCons (tVar 4) tNil))) (gLst K 2 (gCons (gName 5) (gCons (gName 6) gNil))))
  (tSeq (tAsg (tLst tNil) (gName 7))
  (tSeq (tFor (iRng1 (tCons (tCall (sp_Lpick K) [] E0 (tCons (tVar 1) (tCons (tC (.int 7)) tNil))) tNil)) (gName 8) (tIfS (tTest (tOp zGt (tVar 2) (tC (.int 0)))) (tSeq (tAsg (tCall (sp_Lpick K) [] E0 (tCons (tVar 1) (tCons (tOp zMul (tC (.int 2)) (tVar 2)) tNil))) (gName 9))
        (tDrop (tBM K "list" rAppend (tVar 7) (tCons (tTup (tCons (tVar 9) (tCons (tIf (tTest (tOp zGt (tCall (sp_Lpick K) [] E0 (tCons (tVar 1) (tCons (tC (.int 4)) tNil))) (tC (.int 0)))) (tOp (rIxL K) (tVar 5) (tVar 9)) (tCall (sp_Lpick K) [] E0 (tCons (tVar 1) (tCons (tOp zMul (tC (.int 2)) (tVar 2)) tNil)))) tNil))) tNil)))) tNext))
  (tSeq (tIfS (tAnd (tTest (tOp zLt (tVar 3) (tC (.int 2)))) (tTest (tOp zGt (tVar 2) (tC (.int 0))))) (tSeq (tAsg (tCall (sp_Lpick K) [] E0 (tCons (tVar 1) (tCons (tOp zMul (tC (.int 2)) (tVar 2)) tNil))) (gName 10))
      (tSeq (tAsg (tCall (sp_Lpick K) [] E0 (tCons (tVar 1) (tCons (tOp zMul (tC (.int 2)) (tVar 2)) tNil))) (gName 11))
      (tSeq (tAsg (tOp (rIxL K) (tVar 6) (tVar 10)) (gName 12))
      (tSeq (tAsg (tOp (rIxL K) (tVar 6) (tVar 11)) (gSub (tVar 6) (tVar 10) rSetL))
      (tAsg (tVar 12) (gSub (tVar 6) (tVar 11) rSetL)))))) tNext)
  (tSeq (tIfS (tTest (tOp rEq (tVar 3) (tC (.int 2)))) (tAsg (tOp rCat (tVar 6) (tLst (tCons (tOp zAdd (tCB (cLen K) (tCons (tVar 6) tNil)) (tC (.int 1))) (tCons (tCB (cLen K) (tCons (tVar 6) tNil)) tNil)))) (gName 6)) tNext)
  (tSeq (tAsg (tLc (iList K (tVar 7)) (gName 17) tYes (tVar 17) [17]) (gName 13))
  (tSeq (tAsg (tMake (He.ga K "Mesh") (sp_Meshinit K) [] E0 (tCons (tVar 4) tNil)) (gName 14))
  (tSeq (tAsg (tMake (He.ga K "Mesh") (sp_Meshinit K) [] E0 (tCons (tVar 6) tNil)) (gName 15))
  (tSeq (tAsg (tCall (sp_renaming K) [] E0 (tCons (tVar 14) (tCons (tVar 15) (tCons (tVar 13) tNil)))) (gName 16))
  (tSeq (tIfS (tOr (tTest (tOp (rNeD K) (tVar 13) (tVar 7))) (tNot (tB (tCall (sp_Lpossible K) [] E0 (tCons (tVar 4) (tCons (tVar 6) (tCons (tVar 7) tNil))))))) (tRet (tAndV (tOp (rEqD K) (tVar 13) (tVar 7)) (tOp rIsNon (tVar 16) (tC .non)))) tNext)
  (tSeq (tIfS (tNot (tB (tCall (sp_Lright K) [] E0 (tCons (tVar 16) (tCons (tVar 4) (tCons (tVar 6) (tCons (tVar 7) tNil))))))) (tRet (tC (.bl false))) tNext)
  (tSeq (tIfS (tTest (tOp rNotNon (tVar 16) (tC .non))) (sDPut (tVar 16) (tC (.int 0)) (tC (.int 99))) tNext)
  (tRet (tCall (sp_Lright K) [] E0 (tCons (tCall (sp_renaming K) [] E0 (tCons (tVar 14) (tCons (tVar 15) (tCons (tVar 13) tNil)))) (tCons (tVar 4) (tCons (tVar 6) (tCons (tVar 7) tNil))))))))))))))))))))))))
abbrev Wt_law (K : PySem.W.Frag) (vs : List V) (H : Hp) (Q : VK) : Prop := t_law K { nx := fun _ H' => Q .non H', rt := Q } (start nm_law vs) H
theorem ln_law {K : PySem.W.Frag} (vs : List V) (H : Hp) (Q : VK) (E : XK) (h : sp_law K vs H Q E) : vs.length = pr_law.length := by
  obtain ⟨_, _, rfl, _⟩ := h
  rfl
theorem lawC {K : PySem.W.Frag} {Q : VK} {w0 w1 w2 w3 w5 w8 w9 w10 w11 w12 : Option V} {p4 p6 p7 : Addr} {ns ms : List Nat} {as : List Addr} {fx : List (Nat × Nat)} {H : Hp} (h4 : H p4 = some (.lst (L ns))) (h6 : H p6 = some (.lst (L ms))) (h7 : H p7 = some (.lst (as.map V.ref))) (ta : TA2 H as fx)
    (hN : MP ns) (hM : MP ms) (h64 : ns.length < 64) (hfl : fx.length ≤ 100) (hb : ns.length = ms.length → ∀ p ∈ fx, p.1 < ns.length ∧ p.2 < ns.length) (k : ∀ H', Q (.bl true) H') :
    t_lawC K { nx := fun _ H' => Q .non H', rt := Q } [w0, w1, w2, w3, some (.ref p4), w5, some (.ref p6), some (.ref p7), w8, w9, w10, w11, w12, none, none, none, none, none] H := by
  have lenfx : as.length = fx.length := Paired.length ta
  have el := el_lcL (K := K) (σ := [w0, w1, w2, w3, some (.ref p4), w5, some (.ref p6), some (.ref p7), w8, w9, w10, w11, w12, none, none, none, none, none]) (H := H) (j := 17) (vs := [17]) (tl := tVar 7) (t := tYes) (te := tVar 17)
    (fun _ => true) (fun i => V.ref (as.getD i 0)) (ev_var rfl) (sq_of h7) (by rw [List.length_map]; omega) (fun _ => rfl) (fun _ _ _ _ _ => et_yes) (fun i v H5 e5 hv _ => by
      rw [List.getElem?_map] at hv
      obtain ⟨d, hd, rfl⟩ := Option.map_eq_some_iff.mp hv
      have da : as.getD i 0 = d := by
        rw [List.getD_eq_getElem?_getD, hd]
        rfl
      rw [da]
      exact ev_var rfl)
  rw [List.length_map, given_copy] at el
  refine q_asgL el (fun p13 H1 hp e1 h13 => ?_)
  refine q_mesh (ev_var rfl) (sq_of (e1 _ _ h4)) hN (fun x H2 hx m2 e2 => ?_)
  refine q_mesh (ev_var rfl) (sq_of (e2 _ _ (e1 _ _ h6))) hM (fun y H3 hy m3 e3 => ?_)
  have x13 := e2.trans e3
  have x3 := e1.trans x13
  refine q_asgC (vs := [.ref x, .ref y, .ref p13]) (ea_cons (ev_var rfl) (ea_2 (ev_var rfl) (ev_var rfl))) (fun H4 e4 => ?_)
  have x4 := x3.trans e4
  refine ⟨x, y, p13, ns, ms, as, fx, rfl, (m2.at.ex e3).ex e4, m3.at.ex e4, hN, hM, h64, sq_of ((x13.trans e4) _ _ h13), TA2.ex ta x4, hb, fun d l H5 hd e5 h5 hl D tot pf => ?_, fun H5 e5 nf => ?_⟩
  · have x5 := x4.trans e5
    have h135 := (x13.trans (e4.trans e5)) _ _ h13
    refine q_ifOrNC (vs := [.ref p4, .ref p6, .ref p7]) (et_test (ev_is (ev_op (ev_var rfl) (ev_var rfl) (rv_neTP (sq_of h135) (TA2.ex ta x5) (sq_of (x5 _ _ h7)) (TA2.ex ta x5))) (by rw [decide_eq_true rfl]; rfl))) (fun H6 e6 => ea_cons (ev_var rfl) (ea_2 (ev_var rfl) (ev_var rfl))) (fun H6 e6 => ?_)
    have x6 := x5.trans e6
    refine ⟨p4, p6, p7, ns, ms, as, fx, rfl, sq_of (x6 _ _ h4), sq_of (x6 _ _ h6), sq_of (x6 _ _ h7), TA2.ex ta x6, hN, hM, h64, hfl, fun e p hp => (hb e p hp).1, fun b H7 e7 hbb => ⟨b, rfl, ?_⟩⟩
    obtain rfl := hbb.mpr ⟨hl, full_of hN D tot pf⟩
    rw [if_neg (show ¬ (!true) = true by decide)]
    have x7 := x6.trans e7
    have d7 := (e6.trans e7) _ _ h5
    refine q_ifNC (vs := [.ref d, .ref p4, .ref p6, .ref p7]) (ea_cons (ev_var rfl) (ea_cons (ev_var rfl) (ea_2 (ev_var rfl) (ev_var rfl)))) (fun H8 e8 => ?_)
    have x8 := x7.trans e8
    refine ⟨d, p4, p6, p7, ns, ms, as, fx, l, rfl, e8 _ _ d7, sq_of (x8 _ _ h4), sq_of (x8 _ _ h6), sq_of (x8 _ _ h7), TA2.ex ta x8, hN, hl, D, tot, pf, fun H9 e9 => ⟨true, rfl, ?_⟩⟩
    rw [if_neg (show ¬ (!true) = true by decide)]
    have d9 := (e8.trans e9) _ _ d7
    have ll := D.le
    have nl := hN.len
    refine q_if (b := true) (et_test (ev_op (ev_var rfl) ev_c (rv_notN0 rfl))) (fun _ H10 e10 => ?_) (fun hc => absurd hc (by decide))
    refine s_dput ev_c (ev_var rfl) ev_c (e10 _ _ d9) (by rw [dP_len]; omega) (fun H11 e11 => ?_)
    have y11 : Ex H4 (upd H11 d (.dK (putK (dP l) (.inl 0) (.int 99)))) := (((((e5.trans e6).trans e7).trans (e8.trans e9)).trans e10).trans e11).mut hd
    have x11 := x4.trans y11
    refine s_retC1 (vs := [.ref x, .ref y, .ref p13]) (ea_cons (ev_var rfl) (ea_2 (ev_var rfl) (ev_var rfl))) (fun H12 e12 => ?_)
    have y12 := y11.trans e12
    have x12 := x4.trans y12
    refine ⟨x, y, p13, ns, ms, as, fx, rfl, ((m2.at.ex e3).ex e4).ex y12, (m3.at.ex e4).ex y12, hN, hM, h64, sq_of ((x13.trans (e4.trans y12)) _ _ h13), TA2.ex ta x12, hb, fun d2 l2 H13 hd2 e13 h132 hl2 D2 tot2 pf2 => ?_, fun H13 e13 nf => ?_⟩
    · refine (ea_cons (ev_var rfl) (ea_2 (ev_var rfl) (ev_var rfl)) : EvA _ _ _ [.ref p4, .ref p6, .ref p7]) H13 (Ex.refl H13) _ (fun H14 e14 => ?_)
      have x14 := x12.trans (e13.trans e14)
      exact ⟨d2, p4, p6, p7, ns, ms, as, fx, l2, rfl, e14 _ _ h132, sq_of (x14 _ _ h4), sq_of (x14 _ _ h6), sq_of (x14 _ _ h7), TA2.ex ta x14, hN, hl2, D2, tot2, pf2, fun H15 _ => k H15⟩
    · obtain ⟨s, S⟩ := full_of hN D tot pf
      exact (nf hl s S).elim
  · have x5 := x4.trans e5
    have h135 := (x13.trans (e4.trans e5)) _ _ h13
    refine q_ifOrNC (vs := [.ref p4, .ref p6, .ref p7]) (et_test (ev_is (ev_op (ev_var rfl) (ev_var rfl) (rv_neTP (sq_of h135) (TA2.ex ta x5) (sq_of (x5 _ _ h7)) (TA2.ex ta x5))) (by rw [decide_eq_true rfl]; rfl))) (fun H6 e6 => ea_cons (ev_var rfl) (ea_2 (ev_var rfl) (ev_var rfl))) (fun H6 e6 => ?_)
    have x6 := x5.trans e6
    refine ⟨p4, p6, p7, ns, ms, as, fx, rfl, sq_of (x6 _ _ h4), sq_of (x6 _ _ h6), sq_of (x6 _ _ h7), TA2.ex ta x6, hN, hM, h64, hfl, fun e p hp => (hb e p hp).1, fun b H7 e7 hbb => ⟨b, rfl, ?_⟩⟩
    have hbf : b = false := by
      cases b with
      | false => rfl
      | true =>
        obtain ⟨hl, s, S⟩ := hbb.mp rfl
        exact (nf hl s S).elim
    subst hbf
    rw [if_pos (show (!false) = true from rfl)]
    have x7 := x6.trans e7
    refine s_ret (v := .bl (true && true)) (ev_andV (ev_is (ev_op (ev_var rfl) (ev_var rfl) (rv_eqTP (sq_of ((e6.trans e7) _ _ h135)) (TA2.ex ta x7) (sq_of (x7 _ _ h7)) (TA2.ex ta x7))) (by rw [decide_eq_true rfl])) fun _ => ev_op (ev_var rfl) ev_c (rv_isN0 rfl)) (fun H8 _ => k H8)
end K22
namespace K22
open PySem PySem.Spec PyProof.Rows L2 Evl Hm
theorem ta_offT {H : Hp} {as : List Addr} {ps : List (Nat × Nat)} {t : Addr} (h : TA2 H as ps) (ht : Tp (H t)) : ∀ a ∈ as, a ≠ t := by
  obtain ⟨x, y, e, _⟩ := ht
  exact h.off e (fun _ _ => by intro h; cases h)
theorem ta_offL {H : Hp} {as : List Addr} {ps : List (Nat × Nat)} {t : Addr} {xs : List V} (h : TA2 H as ps) (ht : H t = some (.lst xs)) : ∀ a ∈ as, a ≠ t := h.off ht (fun _ _ => by intro h; cases h)
theorem TA2.exo {H H' : Hp} {as : List Addr} {ps : List (Nat × Nat)} {t : Addr} (h : TA2 H as ps) (ht : Tp (H t)) (e : ExO t H H') : TA2 H' as ps := paired_imp h fun a x m q => e a _ (ta_offT h ht a m) q
theorem lawB {K : PySem.W.Frag} {Q : VK} {w0 w5 w8 w9 : Option V} {t p4 p6 p7 : Addr} {e c : Nat} {ns os : List Nat} {as : List Addr} {fx : List (Nat × Nat)} {H : Hp} (ht : Tp (H t)) (h4 : H p4 = some (.lst (L ns))) (h6 : H p6 = some (.lst (L os))) (h7 : H p7 = some (.lst (as.map V.ref))) (ta : TA2 H as fx)
    (n4 : p4 ≠ t) (n6 : p6 ≠ t) (n7 : p7 ≠ t) (n46 : p4 ≠ p6) (n76 : p7 ≠ p6) (hN : MP ns) (hl : ns.length = 2 * e) (he : e ≤ 30) (hO : IsP os) (ol : os.length = ns.length) (hfl : fx.length ≤ 100) (hb : ∀ p ∈ fx, p.1 < ns.length ∧ p.2 < ns.length) (k : ∀ H', Q (.bl true) H') :
    t_lawB K { nx := fun _ H' => Q .non H', rt := Q } [w0, some (.ref t), some (.int (e : Int)), some (vi c), some (.ref p4), w5, some (.ref p6), some (.ref p7), w8, w9, none, none, none, none, none, none, none, none] H := by
  have rest : ∀ {v10 v11 v12 : Option V} (os : List Nat) (H' : Hp), H' p4 = some (.lst (L ns)) → H' p6 = some (.lst (L os)) → H' p7 = some (.lst (as.map V.ref)) → TA2 H' as fx → IsP os → os.length = ns.length →
      (tSeq (tIfS (tTest (tOp rEq (tVar 3) (tC (.int 2)))) (tAsg (tOp rCat (tVar 6) (tLst (tCons (tOp zAdd (tCB (cLen K) (tCons (tVar 6) tNil)) (tC (.int 1))) (tCons (tCB (cLen K) (tCons (tVar 6) tNil)) tNil)))) (gName 6)) tNext)
  (t_lawC K)) { nx := fun _ H' => Q .non H', rt := Q } [w0, some (.ref t), some (.int (e : Int)), some (vi c), some (.ref p4), w5, some (.ref p6), some (.ref p7), w8, w9, v10, v11, v12, none, none, none, none, none] H' := by
    intro v10 v11 v12 os H' g4 g6 g7 ga hO ol
    refine q_if (b := decide (vi c = .int 2)) (et_test (ev_op (ev_var rfl) ev_c (rv_eq rfl))) (fun _ H1 e1 => ?_) (fun _ H1 e1 => ?_)
    · have g61 := e1 _ _ g6
      refine s_asgL (el_catV (ys := L [os.length + 1, os.length]) (ev_var rfl) g61 (el_lst (ea_2 (ev_is (ev_op (ev_cb (ea_1 (ev_var rfl)) (rc_len (sq_of g61))) ev_c rv_I0) (by rw [L_len]; rfl)) (ev_is (ev_cb (ea_1 (ev_var rfl)) (rc_len (sq_of g61))) (by rw [L_len]))) (by show 2 ≤ 100000; decide)) (by rw [L_len]; show os.length + 2 ≤ 100000; omega)) (fun q6 H2 hq e2 h2 => ?_)
      rw [← L_app] at h2
      have ll : (os ++ [os.length + 1, os.length]).length = os.length + 2 := by rw [List.length_append]; rfl
      exact lawC (e2 _ _ (e1 _ _ g4)) h2 (e2 _ _ (e1 _ _ g7)) (TA2.ex ga (e1.trans e2)) hN ⟨isP_two' hO, by rw [ll]; have := hN.two; omega, by rw [ll]; omega⟩ (by omega) hfl (fun h => absurd h (by rw [ll]; omega)) k
    · exact lawC (e1 _ _ g4) (e1 _ _ g6) (e1 _ _ g7) (TA2.ex ga e1) hN ⟨hO, by rw [ol]; exact hN.two, by rw [ol]; exact hN.len⟩ (by omega) hfl (fun _ => hb) k
  refine q_if (b := decide ((c : Int) < 2) && decide ((e : Int) > 0)) (et_and (et_test (ev_op (ev_var rfl) ev_c rv_I0)) fun _ => et_test (ev_op (ev_var rfl) ev_c rv_I0)) (fun hc H1 e1 => ?_) (fun _ H1 e1 => ?_)
  · rw [Bool.and_eq_true, decide_eq_true_iff, decide_eq_true_iff] at hc
    have e0 : 0 < e := by omega
    have am : ∀ {σ : L2.St} {H : Hp}, σ[1]? = some (some (.ref t)) → σ[2]? = some (some (.int (e : Int))) → EvA (tCons (tVar 1) (tCons (tOp zMul (tC (.int 2)) (tVar 2)) tNil)) σ H [.ref t, .int (2 * (e : Int))] := fun h1 h2 => ea_2 (ev_var h1) (ev_op ev_c (ev_var h2) (rv_I (Or.inl ⟨by decide, by decide⟩)))
    refine r_asg (r_pick (am rfl rfl) (tp_ex ht e1) (by omega) (by omega) fun f H2 hf t2 x2 => ?_)
    refine r_asg (r_pick (am rfl rfl) t2 (by omega) (by omega) fun g H3 hg t3 x3 => ?_)
    have X : ExO t H H3 := (ExO.of e1).trans (x2.trans x3)
    have g6 := X _ _ n6 h6
    have fl : f < os.length := by omega
    have gl : g < os.length := by omega
    refine q_asg (v := vi (fn os f)) (ev_op (ev_var rfl) (ev_var rfl) (rv_ixL (sq_of g6) (L_at fl))) (fun H4 e4 => ?_)
    refine q_setL (v := vi (fn os g)) (e4 _ _ g6) (ev_op (ev_var rfl) (ev_var rfl) (rv_ixL (sq_of (e4 _ _ g6)) (L_at gl))) (ev_var rfl) (ev_var rfl) (by rw [L_len]; exact fl) (fun H5 e5 => ?_)
    rw [L_set]
    refine s_setL (v := vi (fn os f)) upd_same (ev_var rfl) (ev_var rfl) (ev_var rfl) (by rw [L_len, List.length_set]; exact gl) (fun H6 e6 => ?_)
    rw [L_set]
    have keep : ∀ {a : Addr} {o : HO}, a ≠ t → a ≠ p6 → H a = some o → (upd H6 p6 (.lst (L ((os.set f (fn os g)).set g (fn os f))))) a = some o := fun {a o} h1 h2 h => by
      rw [upd_ne h2]
      refine e6 _ _ ?_
      rw [upd_ne h2]
      exact e5 _ _ (e4 _ _ (X _ _ h1 h))
    exact rest ((os.set f (fn os g)).set g (fn os f)) _ (keep n4 n46 h4) upd_same (keep n7 n76 h7) (paired_imp ta fun a x m q => keep (ta_offT ta ht a m) (ta_offL ta h6 a m) q) (isP_swap hO fl gl) (by rw [List.length_set, List.length_set, ol])
  · exact rest os H1 (e1 _ _ h4) (e1 _ _ h6) (e1 _ _ h7) (TA2.ex ta e1) hO ol
theorem lawA {K : PySem.W.Frag} {Q : VK} {w0 : Option V} {t p4 p5 p6 p7 : Addr} {e c : Nat} {ns nm os : List Nat} {H : Hp} (ht : Tp (H t)) (h4 : H p4 = some (.lst (L ns))) (h5 : H p5 = some (.lst (L nm))) (h6 : H p6 = some (.lst (L os))) (h7 : H p7 = some (.lst []))
    (n4 : p4 ≠ t) (n5 : p5 ≠ t) (n6 : p6 ≠ t) (n7 : p7 ≠ t) (n46 : p4 ≠ p6) (n76 : p7 ≠ p6) (n74 : p7 ≠ p4) (n75 : p7 ≠ p5) (hN : MP ns) (hl : ns.length = 2 * e) (he : e ≤ 30) (hO : IsP os) (ol : os.length = ns.length) (ml : nm.length = ns.length) (mb : ∀ x ∈ nm, x < ns.length) (k : ∀ H', Q (.bl true) H') :
    t_lawA K { nx := fun _ H' => Q .non H', rt := Q } [w0, some (.ref t), some (.int (e : Int)), some (vi c), some (.ref p4), some (.ref p5), some (.ref p6), some (.ref p7), none, none, none, none, none, none, none, none, none, none] H := by
  refine r_forArg (r_pick (ea_2 (ev_var rfl) ev_c) ht (by decide) (by decide) fun n H1 hn t1 x1 => ?_)
  refine q_forR1 (n := (n : Int)) (ea_1 ev_c) (by omega) (fun i σ' H' => ∃ (as : List Addr) (fx : List (Nat × Nat)) (v8 v9 : Option V), σ' = [w0, some (.ref t), some (.int (e : Int)), some (vi c), some (.ref p4), some (.ref p5), some (.ref p6), some (.ref p7), v8, v9, none, none, none, none, none, none, none, none] ∧
    Tp (H' t) ∧ H' p4 = some (.lst (L ns)) ∧ H' p5 = some (.lst (L nm)) ∧ H' p6 = some (.lst (L os)) ∧ H' p7 = some (.lst (as.map V.ref)) ∧ TA2 H' as fx ∧ fx.length ≤ i ∧ ∀ p ∈ fx, p.1 < ns.length ∧ p.2 < ns.length) ?_ ?_ ?_
  · intro H2 e2
    exact ⟨[], [], _, _, rfl, tp_ex t1 e2, e2 _ _ (x1 _ _ n4 h4), e2 _ _ (x1 _ _ n5 h5), e2 _ _ (x1 _ _ n6 h6), e2 _ _ (x1 _ _ n7 h7), .nil, Nat.le_refl _, fun _ h => (nomatch h)⟩
  · rintro i σ' H' hi ⟨as, fx, v8, v9, rfl, tt, g4, g5, g6, g7, ga, fl, fb⟩
    have al : as.length = fx.length := Paired.length ga
    refine s_when (b := decide ((e : Int) > 0)) (et_test (ev_op (ev_var rfl) ev_c rv_I0)) (fun hc H2 e2 => ?_) (fun _ H2 e2 => ⟨as, fx, _, _, rfl, tp_ex tt e2, e2 _ _ g4, e2 _ _ g5, e2 _ _ g6, e2 _ _ g7, TA2.ex ga e2, by omega, fb⟩)
    have e0 : 0 < e := by
      have := of_decide_eq_true hc
      omega
    have am : ∀ {σ : L2.St} {H : Hp}, σ[1]? = some (some (.ref t)) → σ[2]? = some (some (.int (e : Int))) → EvA (tCons (tVar 1) (tCons (tOp zMul (tC (.int 2)) (tVar 2)) tNil)) σ H [.ref t, .int (2 * (e : Int))] := fun h1 h2 => ea_2 (ev_var h1) (ev_op ev_c (ev_var h2) (rv_I (Or.inl ⟨by decide, by decide⟩)))
    refine r_asg (r_pick (am rfl rfl) (tp_ex tt e2) (by omega) (by omega) fun h H3 hh t3 x3 => ?_)
    have X3 : ExO t H' H3 := (ExO.of e2).trans x3
    have fin : ∀ (y : Nat) (H4 : Hp), y < ns.length → Tp (H4 t) → ExO t H' H4 → ∀ σ2 : L2.St, σ2 = [w0, some (.ref t), some (.int (e : Int)), some (vi c), some (.ref p4), some (.ref p5), some (.ref p6), some (.ref p7), some (vi i), some (vi h), none, none, none, none, none, none, none, none] →
        ∀ u, H4 u = none → rAppend (.ref p7) [.ref u] (upd H4 u (.tup [vi h, vi y])) (fun _ H3 => ∃ (as : List Addr) (fx : List (Nat × Nat)) (v8 v9 : Option V), σ2 = [w0, some (.ref t), some (.int (e : Int)), some (vi c), some (.ref p4), some (.ref p5), some (.ref p6), some (.ref p7), v8, v9, none, none, none, none, none, none, none, none] ∧
    Tp (H3 t) ∧ H3 p4 = some (.lst (L ns)) ∧ H3 p5 = some (.lst (L nm)) ∧ H3 p6 = some (.lst (L os)) ∧ H3 p7 = some (.lst (as.map V.ref)) ∧ TA2 H3 as fx ∧ fx.length ≤ i + 1 ∧ ∀ p ∈ fx, p.1 < ns.length ∧ p.2 < ns.length) := by
      intro y H4 hy t4 X4 σ2 hσ u hu
      have en : Ex H4 (upd H4 u (.tup [vi h, vi y])) := Ex.new hu
      have p74 := en _ _ (X4 _ _ n7 g7)
      have hup : u ≠ p7 := (ne_of_none (X4 _ _ n7 g7) hu).symm
      have ga4 : TA2 (upd H4 u (.tup [vi h, vi y])) as fx := TA2.ex (TA2.exo ga tt X4) en
      refine ⟨p7, _, .ref u, rfl, rfl, p74, sz_lt (by rw [List.length_map]; omega), as ++ [u], fx ++ [(h, y)], _, _, hσ, ?_, ?_, ?_, ?_, by rw [upd_same, List.map_append]; rfl, paired_snoc (TA2.upd ga4 (ta_offL ga4 p74)) (by rw [upd_ne hup]; exact upd_same), by rw [List.length_append]; show fx.length + 1 ≤ _; omega, fun p hp => ?_⟩
      · rw [upd_ne n7.symm]
        exact tp_ex t4 en
      · rw [upd_ne n74.symm]
        exact en _ _ (X4 _ _ n4 g4)
      · rw [upd_ne n75.symm]
        exact en _ _ (X4 _ _ n5 g5)
      · rw [upd_ne n76.symm]
        exact en _ _ (X4 _ _ n6 g6)
      · rcases List.mem_append.mp hp with hp | hp
        · exact fb p hp
        · rw [List.mem_singleton.mp hp]
          exact ⟨by omega, hy⟩
    refine s_appTup (i := 7) (j := 9) (x := vi h) rfl (X3 _ _ n7 g7) rfl (r_if (r_gt0 (r_pick (ea_2 (ev_var rfl) ev_c) t3 (by decide) (by decide) fun d H4 hd t4 x4 => ?_)))
    refine ⟨_, _, rfl, rfl, _, rfl, ?_⟩
    have X4 := X3.trans x4
    have hh' : h < nm.length := by omega
    split
    · exact ⟨_, rfl, ⟨_, rfl, ⟨p5, L nm, (h : Int), vi (fn nm h), rfl, rfl, sq_of (X4 _ _ n5 g5), L_at hh', ⟨by decide, fin (fn nm h) H4 (mb _ (fn_mem hh')) t4 X4 _ rfl⟩⟩⟩⟩
    · refine r_pick (am rfl rfl) t4 (by omega) (by omega) fun y H5 hy t5 x5 => ?_
      exact ⟨by decide, fin y H5 (by omega) t5 (X4.trans x5) _ rfl⟩
  · rintro σ' H' ⟨as, fx, v8, v9, rfl, tt, g4, g5, g6, g7, ga, fl, fb⟩
    rw [Int.toNat_natCast] at fl
    exact lawB tt g4 g6 g7 ga n4 n6 n7 n46 n76 hN hl he hO ol (by omega) fb k
theorem rd_law {K : PySem.W.Frag} (F : KF K) (vs : List V) (H : Hp) (Q : VK) (E : XK) (h : sp_law K vs H Q E) : Wt_law K vs H Q := by
  obtain ⟨a, zs, rfl, hS, k⟩ := h
  show t_law K _ [some (.ref a), none, none, none, none, none, none, none, none, none, none, none, none, none, none, none, none, none] H
  refine q_asgC (ea_2 (ev_var rfl) ev_c) (fun H1 e1 => ?_)
  refine ⟨a, zs, 0, rfl, ex_l e1 hS, by decide, by decide, fun t H2 ht tp e2 => ?_⟩
  have x2 := e1.trans e2
  have ht0 : H t = none := fresh_back e1 ht
  refine q_asgC (ea_1 (ev_var rfl)) (fun H3 e3 => ⟨t, rfl, tp_ex tp e3, fun e H4 he t4 o4 => ?_⟩)
  have x4 : Ex H H4 := fun b o hb => o4 b o (ne_of_none hb ht0) (e3 _ _ (x2 b o hb))
  obtain ⟨e', he', hv⟩ : ∃ e' : Nat, e' ≤ 30 ∧ ((decide ((e : Int) > 12) = true → e' = 29) ∧ (decide ((e : Int) > 12) = false → e' = e)) := by
    by_cases c : (e : Int) > 12
    · exact ⟨29, by omega, fun _ => rfl, fun h => by rw [decide_eq_true c] at h; cases h⟩
    · exact ⟨e, he, fun h => absurd (of_decide_eq_true h) c, fun _ => rfl⟩
  refine q_ifAsg (b := decide ((e : Int) > 12)) (v := .int (e' : Int)) (et_test (ev_op (ev_var rfl) ev_c rv_I0)) (fun hb => by rw [hv.1 hb]; exact ev_c) (fun hb => by rw [hv.2 hb]; rfl) (fun H5 e5 => ?_)
  refine r_asg (r_pick (ea_2 (ev_var rfl) ev_c) (tp_ex t4 e5) (by decide) (by decide) fun c H6 hc t6 o6 => ?_)
  have x6 : Ex H H6 := fun b o hb => o6 b o (ne_of_none hb ht0) (e5 _ _ (x4 b o hb))
  refine q_nexts (e := e') (zs := zs) rfl (ex_l x6 hS) (by decide) (by decide) rfl (by omega) (fun p4 ns H8 hp4 x8 h8 P8 l8 => ?_)
  have hN : MP ns := ⟨P8, by omega, by omega⟩
  have X8 := x6.trans x8
  refine q_asgC (ea_2 (ev_var rfl) ev_c) (fun H9 e9 => ?_)
  refine ⟨a, zs, 2, rfl, ex_l (X8.trans e9) hS, by decide, by decide, fun t2 H10 ht2 tp2 e10 => ?_⟩
  have n4 : p4 ≠ t2 := ne_of_none (e9 _ _ h8) ht2
  have h410 := e10 _ _ (e9 _ _ h8)
  refine q_asgG' (ea_2 (ev_var rfl) (ev_var rfl)) (fun H11 e11 => ?_)
  refine ⟨t2, p4, ns, rfl, tp_ex tp2 e11, e11 _ _ h410, n4, hN, fun p u v names os H12 hp hu hv hp12 hu12 hv12 uv nl nb io ol t12 x12 => ?_⟩
  have tt11 := tp_ex tp2 e11
  have nu : u ≠ t2 := tp_ne tt11 hu
  have nv : v ≠ t2 := tp_ne tt11 hv
  have h412 := x12 _ _ n4 (e11 _ _ h410)
  have n46 : p4 ≠ v := ne_of_none (e11 _ _ h410) hv
  refine ⟨p, [.ref u, .ref v], rfl, sq_of hp12, rfl, .ref u, [.ref v], rfl, .ref v, [], rfl, rfl, ?_⟩
  refine q_asgL (el_lst ea_nil (Nat.zero_le _)) (fun p7 H13 h7 e13 h713 => ?_)
  exact lawA (tp_ex t12 e13) (e13 _ _ h412) (e13 _ _ hu12) (e13 _ _ hv12) h713 n4 nu nv (tp_ne t12 h7) n46 (ne_of_none hv12 h7).symm (ne_of_none h412 h7).symm (ne_of_none hu12 h7).symm hN (by omega) (by omega) io ol nl nb k
end K22
namespace K22
open PySem PySem.Spec PyProof.Rows L2 Evl Hm
def fileS : Str := PySem.Challenge.pw_halfmeshes_k22_renamings.main.file
def topS (i : Nat) : Stmt := PySem.Challenge.pw_halfmeshes_k22_renamings.main.body.getD i (.Pass ⟨0, 0, 0, 0⟩)
abbrev s_NotAMeshinit : Stmt := inClass (topS 3) 0
abbrev s_Meshinit : Stmt := inClass (topS 5) 0
abbrev s_Meshlen : Stmt := inClass (topS 5) 2
abbrev s_Meshafter : Stmt := inClass (topS 5) 5
abbrev s_Meshtwin : Stmt := inClass (topS 5) 7
abbrev s_Meshpieces : Stmt := inClass (topS 5) 12
abbrev s_Meshpiece : Stmt := inClass (topS 5) 13
abbrev s_isinteger : Stmt := topS 6
abbrev s_arehalves : Stmt := topS 7
abbrev s_areallhalves : Stmt := topS 8
abbrev s_inverse : Stmt := topS 9
abbrev s_renaming : Stmt := topS 12
abbrev s_placesomewhere : Stmt := topS 13
abbrev s_place : Stmt := topS 14
abbrev s_spread : Stmt := topS 15
abbrev s_Ltape : Stmt := topS 17
abbrev s_Lpick : Stmt := topS 18
abbrev s_Lnexts : Stmt := topS 19
abbrev s_Lsize : Stmt := topS 20
abbrev s_Ltwin : Stmt := topS 21
abbrev s_Lpieces : Stmt := topS 23
abbrev s_Lmoved : Stmt := topS 24
abbrev s_Lspread : Stmt := topS 25
abbrev s_Limage : Stmt := topS 26
abbrev s_Lpossible : Stmt := topS 27
abbrev s_Lright : Stmt := topS 28
abbrev s_law : Stmt := topS 29
theorem sc_Meshinit : FnScope nm_Meshinit pr_Meshinit (defScope s_Meshinit) := ⟨rfl, rfl, rfl, by decide +kernel, rfl, by decide +kernel, by decide +kernel⟩
theorem sc_Meshlen : FnScope nm_Meshlen pr_Meshlen (defScope s_Meshlen) := ⟨rfl, rfl, rfl, by decide +kernel, rfl, by decide +kernel, by decide +kernel⟩
theorem sc_Meshafter : FnScope nm_Meshafter pr_Meshafter (defScope s_Meshafter) := ⟨rfl, rfl, rfl, by decide +kernel, rfl, by decide +kernel, by decide +kernel⟩
theorem sc_Meshtwin : FnScope nm_Meshtwin pr_Meshtwin (defScope s_Meshtwin) := ⟨rfl, rfl, rfl, by decide +kernel, rfl, by decide +kernel, by decide +kernel⟩
theorem sc_Meshpieces : FnScope nm_Meshpieces pr_Meshpieces (defScope s_Meshpieces) := ⟨rfl, rfl, rfl, by decide +kernel, rfl, by decide +kernel, by decide +kernel⟩
theorem sc_Meshpiece : FnScope nm_Meshpiece pr_Meshpiece (defScope s_Meshpiece) := ⟨rfl, rfl, rfl, by decide +kernel, rfl, by decide +kernel, by decide +kernel⟩
theorem sc_isinteger : FnScope nm_isinteger pr_isinteger (defScope s_isinteger) := ⟨rfl, rfl, rfl, by decide +kernel, rfl, by decide +kernel, by decide +kernel⟩
theorem sc_arehalves : FnScope nm_arehalves pr_arehalves (defScope s_arehalves) := ⟨rfl, rfl, rfl, by decide +kernel, rfl, by decide +kernel, by decide +kernel⟩
theorem sc_areallhalves : FnScope nm_areallhalves pr_areallhalves (defScope s_areallhalves) := ⟨rfl, rfl, rfl, by decide +kernel, rfl, by decide +kernel, by decide +kernel⟩
theorem sc_inverse : FnScope nm_inverse pr_inverse (defScope s_inverse) := ⟨rfl, rfl, rfl, by decide +kernel, rfl, by decide +kernel, by decide +kernel⟩
theorem sc_renaming : FnScope nm_renaming pr_renaming (defScope s_renaming) := ⟨rfl, rfl, rfl, by decide +kernel, rfl, by decide +kernel, by decide +kernel⟩
theorem sc_placesomewhere : FnScope nm_placesomewhere pr_placesomewhere (defScope s_placesomewhere) := ⟨rfl, rfl, rfl, by decide +kernel, rfl, by decide +kernel, by decide +kernel⟩
theorem sc_place : FnScope nm_place pr_place (defScope s_place) := ⟨rfl, rfl, rfl, by decide +kernel, rfl, by decide +kernel, by decide +kernel⟩
theorem sc_spread : FnScope nm_spread pr_spread (defScope s_spread) := ⟨rfl, rfl, rfl, by decide +kernel, rfl, by decide +kernel, by decide +kernel⟩
theorem sc_Ltape : FnScope nm_Ltape pr_Ltape (defScope s_Ltape) := ⟨rfl, rfl, rfl, by decide +kernel, rfl, by decide +kernel, by decide +kernel⟩
theorem sc_Lpick : FnScope nm_Lpick pr_Lpick (defScope s_Lpick) := ⟨rfl, rfl, rfl, by decide +kernel, rfl, by decide +kernel, by decide +kernel⟩
theorem sc_Lnexts : FnScope nm_Lnexts pr_Lnexts (defScope s_Lnexts) := ⟨rfl, rfl, rfl, by decide +kernel, rfl, by decide +kernel, by decide +kernel⟩
theorem sc_Lsize : FnScope nm_Lsize pr_Lsize (defScope s_Lsize) := ⟨rfl, rfl, rfl, by decide +kernel, rfl, by decide +kernel, by decide +kernel⟩
theorem sc_Ltwin : FnScope nm_Ltwin pr_Ltwin (defScope s_Ltwin) := ⟨rfl, rfl, rfl, by decide +kernel, rfl, by decide +kernel, by decide +kernel⟩
theorem sc_Lpieces : FnScope nm_Lpieces pr_Lpieces (defScope s_Lpieces) := ⟨rfl, rfl, rfl, by decide +kernel, rfl, by decide +kernel, by decide +kernel⟩
theorem sc_Lmoved : FnScope nm_Lmoved pr_Lmoved (defScope s_Lmoved) := ⟨rfl, rfl, rfl, by decide +kernel, rfl, by decide +kernel, by decide +kernel⟩
theorem sc_Lspread : FnScope nm_Lspread pr_Lspread (defScope s_Lspread) := ⟨rfl, rfl, rfl, by decide +kernel, rfl, by decide +kernel, by decide +kernel⟩
theorem sc_Limage : FnScope nm_Limage pr_Limage (defScope s_Limage) := ⟨rfl, rfl, rfl, by decide +kernel, rfl, by decide +kernel, by decide +kernel⟩
theorem sc_Lpossible : FnScope nm_Lpossible pr_Lpossible (defScope s_Lpossible) := ⟨rfl, rfl, rfl, by decide +kernel, rfl, by decide +kernel, by decide +kernel⟩
theorem sc_Lright : FnScope nm_Lright pr_Lright (defScope s_Lright) := ⟨rfl, rfl, rfl, by decide +kernel, rfl, by decide +kernel, by decide +kernel⟩
theorem sc_law : FnScope nm_law pr_law (defScope s_law) := ⟨rfl, rfl, rfl, by decide +kernel, rfl, by decide +kernel, by decide +kernel⟩
def cl_NotAMesh : CloD := ⟨"NotAMesh", "NotAMesh.__init__", defArgs s_NotAMeshinit, defBody s_NotAMeshinit, defScope s_NotAMeshinit⟩
structure PF (P : Program) : Prop where
  file : P.main.file = fileS
  top : (P.main.scope.names.lookup ("super" : Str)).isSome = false
structure Tx (P : Program) (K : PySem.W.Frag) (mg : Str → Option Value) where
  n_len : mg "len" = none
  n_abs : mg "abs" = none
  n_int : mg "int" = none
  n_list : mg "list" = none
  n_sorted : mg "sorted" = none
  n_all : mg "all" = none
  n_isinstance : mg "isinstance" = none
  n_min : mg "min" = none
  n_range : mg "range" = none
  n_bool : mg "bool" = none
  n_enumerate : mg "enumerate" = none
  n_dict : mg "dict" = none
  n_super : mg "super" = none
  n_set : mg "set" = none
  m_NotAMesh : mg "NotAMesh" = some (.ref (He.ga K "NotAMesh"))
  m_Mesh : mg "Mesh" = some (.ref (He.ga K "Mesh"))
  cl_Mesh : Cls K (He.ga K "Mesh")
  na_nexts : NoAttr K (He.ga K "Mesh") "_nexts"
  na_prevs : NoAttr K (He.ga K "Mesh") "_prevs"
  na_turns : NoAttr K (He.ga K "Mesh") "_turns"
  mk_Mesh : Mk K (He.ga K "Mesh") (He.ma K (He.ga K "Mesh") "__init__")
  fd_NotAMeshinit : FuncData
  u_NotAMesh : SupX P K cl_NotAMesh fd_NotAMeshinit
  b_NotAMeshinit : Binds K fd_NotAMeshinit pr_NotAMeshinit []
  fd_Meshinit : FuncData
  F_Meshinit : FunD K "__init__" "Mesh.__init__" (defArgs s_Meshinit) (defBody s_Meshinit) (defScope s_Meshinit) [] [] (He.ma K (He.ga K "Mesh") "__init__") fd_Meshinit
  b_Meshinit : Binds K fd_Meshinit pr_Meshinit []
  me_Meshlen : Meth K (He.ga K "Mesh") "__len__" (He.ma K (He.ga K "Mesh") "__len__")
  fd_Meshlen : FuncData
  F_Meshlen : FunD K "__len__" "Mesh.__len__" (defArgs s_Meshlen) (defBody s_Meshlen) (defScope s_Meshlen) [] [] (He.ma K (He.ga K "Mesh") "__len__") fd_Meshlen
  b_Meshlen : Binds K fd_Meshlen pr_Meshlen []
  me_Meshafter : Meth K (He.ga K "Mesh") "after" (He.ma K (He.ga K "Mesh") "after")
  fd_Meshafter : FuncData
  F_Meshafter : FunD K "after" "Mesh.after" (defArgs s_Meshafter) (defBody s_Meshafter) (defScope s_Meshafter) [] [] (He.ma K (He.ga K "Mesh") "after") fd_Meshafter
  b_Meshafter : Binds K fd_Meshafter pr_Meshafter []
  me_Meshtwin : Meth K (He.ga K "Mesh") "twin" (He.ma K (He.ga K "Mesh") "twin")
  fd_Meshtwin : FuncData
  F_Meshtwin : FunD K "twin" "Mesh.twin" (defArgs s_Meshtwin) (defBody s_Meshtwin) (defScope s_Meshtwin) [] [] (He.ma K (He.ga K "Mesh") "twin") fd_Meshtwin
  b_Meshtwin : Binds K fd_Meshtwin pr_Meshtwin []
  me_Meshpieces : Meth K (He.ga K "Mesh") "pieces" (He.ma K (He.ga K "Mesh") "pieces")
  fd_Meshpieces : FuncData
  F_Meshpieces : FunD K "pieces" "Mesh.pieces" (defArgs s_Meshpieces) (defBody s_Meshpieces) (defScope s_Meshpieces) [] [] (He.ma K (He.ga K "Mesh") "pieces") fd_Meshpieces
  b_Meshpieces : Binds K fd_Meshpieces pr_Meshpieces []
  me_Meshpiece : Meth K (He.ga K "Mesh") "_piece" (He.ma K (He.ga K "Mesh") "_piece")
  fd_Meshpiece : FuncData
  F_Meshpiece : FunD K "_piece" "Mesh._piece" (defArgs s_Meshpiece) (defBody s_Meshpiece) (defScope s_Meshpiece) [] [] (He.ma K (He.ga K "Mesh") "_piece") fd_Meshpiece
  b_Meshpiece : Binds K fd_Meshpiece pr_Meshpiece []
  m_isinteger : mg "_is_integer" = some (.ref (He.ga K "_is_integer"))
  fd_isinteger : FuncData
  F_isinteger : FunD K "_is_integer" "_is_integer" (defArgs s_isinteger) (defBody s_isinteger) (defScope s_isinteger) [] [] (He.ga K "_is_integer") fd_isinteger
  b_isinteger : Binds K fd_isinteger pr_isinteger []
  m_arehalves : mg "are_halves" = some (.ref (He.ga K "are_halves"))
  fd_arehalves : FuncData
  F_arehalves : FunD K "are_halves" "are_halves" (defArgs s_arehalves) (defBody s_arehalves) (defScope s_arehalves) [] [] (He.ga K "are_halves") fd_arehalves
  b_arehalves : Binds K fd_arehalves pr_arehalves []
  m_areallhalves : mg "_are_all_halves" = some (.ref (He.ga K "_are_all_halves"))
  fd_areallhalves : FuncData
  F_areallhalves : FunD K "_are_all_halves" "_are_all_halves" (defArgs s_areallhalves) (defBody s_areallhalves) (defScope s_areallhalves) [] [] (He.ga K "_are_all_halves") fd_areallhalves
  b_areallhalves : Binds K fd_areallhalves pr_areallhalves []
  m_inverse : mg "_inverse" = some (.ref (He.ga K "_inverse"))
  fd_inverse : FuncData
  F_inverse : FunD K "_inverse" "_inverse" (defArgs s_inverse) (defBody s_inverse) (defScope s_inverse) [] [] (He.ga K "_inverse") fd_inverse
  b_inverse : Binds K fd_inverse pr_inverse []
  m_renaming : mg "renaming" = some (.ref (He.ga K "renaming"))
  fd_renaming : FuncData
  F_renaming : FunD K "renaming" "renaming" (defArgs s_renaming) (defBody s_renaming) (defScope s_renaming) [] [] (He.ga K "renaming") fd_renaming
  b_renaming : Binds K fd_renaming pr_renaming []
  m_placesomewhere : mg "_place_somewhere" = some (.ref (He.ga K "_place_somewhere"))
  fd_placesomewhere : FuncData
  F_placesomewhere : FunD K "_place_somewhere" "_place_somewhere" (defArgs s_placesomewhere) (defBody s_placesomewhere) (defScope s_placesomewhere) [] [] (He.ga K "_place_somewhere") fd_placesomewhere
  b_placesomewhere : Binds K fd_placesomewhere pr_placesomewhere []
  m_place : mg "_place" = some (.ref (He.ga K "_place"))
  fd_place : FuncData
  F_place : FunD K "_place" "_place" (defArgs s_place) (defBody s_place) (defScope s_place) [] [] (He.ga K "_place") fd_place
  b_place : Binds K fd_place pr_place []
  m_spread : mg "_spread" = some (.ref (He.ga K "_spread"))
  fd_spread : FuncData
  F_spread : FunD K "_spread" "_spread" (defArgs s_spread) (defBody s_spread) (defScope s_spread) [] [] (He.ga K "_spread") fd_spread
  b_spread : Binds K fd_spread pr_spread []
  m_Ltape : mg "_law_tape" = some (.ref (He.ga K "_law_tape"))
  fd_Ltape : FuncData
  F_Ltape : FunD K "_law_tape" "_law_tape" (defArgs s_Ltape) (defBody s_Ltape) (defScope s_Ltape) [] [] (He.ga K "_law_tape") fd_Ltape
  b_Ltape : Binds K fd_Ltape pr_Ltape []
  m_Lpick : mg "_law_pick" = some (.ref (He.ga K "_law_pick"))
  fd_Lpick : FuncData
  F_Lpick : FunD K "_law_pick" "_law_pick" (defArgs s_Lpick) (defBody s_Lpick) (defScope s_Lpick) [] [] (He.ga K "_law_pick") fd_Lpick
  b_Lpick : Binds K fd_Lpick pr_Lpick []
  m_Lnexts : mg "_law_nexts" = some (.ref (He.ga K "_law_nexts"))
  fd_Lnexts : FuncData
  F_Lnexts : FunD K "_law_nexts" "_law_nexts" (defArgs s_Lnexts) (defBody s_Lnexts) (defScope s_Lnexts) [] [] (He.ga K "_law_nexts") fd_Lnexts
  b_Lnexts : Binds K fd_Lnexts pr_Lnexts []
  m_Lsize : mg "_law_size" = some (.ref (He.ga K "_law_size"))
  fd_Lsize : FuncData
  F_Lsize : FunD K "_law_size" "_law_size" (defArgs s_Lsize) (defBody s_Lsize) (defScope s_Lsize) [] [] (He.ga K "_law_size") fd_Lsize
  b_Lsize : Binds K fd_Lsize pr_Lsize []
  m_Ltwin : mg "_law_twin" = some (.ref (He.ga K "_law_twin"))
  fd_Ltwin : FuncData
  F_Ltwin : FunD K "_law_twin" "_law_twin" (defArgs s_Ltwin) (defBody s_Ltwin) (defScope s_Ltwin) [] [] (He.ga K "_law_twin") fd_Ltwin
  b_Ltwin : Binds K fd_Ltwin pr_Ltwin []
  m_Lpieces : mg "_law_pieces" = some (.ref (He.ga K "_law_pieces"))
  fd_Lpieces : FuncData
  F_Lpieces : FunD K "_law_pieces" "_law_pieces" (defArgs s_Lpieces) (defBody s_Lpieces) (defScope s_Lpieces) [] [] (He.ga K "_law_pieces") fd_Lpieces
  b_Lpieces : Binds K fd_Lpieces pr_Lpieces []
  m_Lmoved : mg "_law_moved" = some (.ref (He.ga K "_law_moved"))
  fd_Lmoved : FuncData
  F_Lmoved : FunD K "_law_moved" "_law_moved" (defArgs s_Lmoved) (defBody s_Lmoved) (defScope s_Lmoved) [] [] (He.ga K "_law_moved") fd_Lmoved
  b_Lmoved : Binds K fd_Lmoved pr_Lmoved []
  m_Lspread : mg "_law_spread" = some (.ref (He.ga K "_law_spread"))
  fd_Lspread : FuncData
  F_Lspread : FunD K "_law_spread" "_law_spread" (defArgs s_Lspread) (defBody s_Lspread) (defScope s_Lspread) [] [] (He.ga K "_law_spread") fd_Lspread
  b_Lspread : Binds K fd_Lspread pr_Lspread []
  m_Limage : mg "_law_image" = some (.ref (He.ga K "_law_image"))
  fd_Limage : FuncData
  F_Limage : FunD K "_law_image" "_law_image" (defArgs s_Limage) (defBody s_Limage) (defScope s_Limage) [] [] (He.ga K "_law_image") fd_Limage
  b_Limage : Binds K fd_Limage pr_Limage []
  m_Lpossible : mg "_law_possible" = some (.ref (He.ga K "_law_possible"))
  fd_Lpossible : FuncData
  F_Lpossible : FunD K "_law_possible" "_law_possible" (defArgs s_Lpossible) (defBody s_Lpossible) (defScope s_Lpossible) [] [] (He.ga K "_law_possible") fd_Lpossible
  b_Lpossible : Binds K fd_Lpossible pr_Lpossible []
  m_Lright : mg "_law_right" = some (.ref (He.ga K "_law_right"))
  fd_Lright : FuncData
  F_Lright : FunD K "_law_right" "_law_right" (defArgs s_Lright) (defBody s_Lright) (defScope s_Lright) [] [] (He.ga K "_law_right") fd_Lright
  b_Lright : Binds K fd_Lright pr_Lright []
  fd_law : FuncData
  F_law : FunD K "law" "law" (defArgs s_law) (defBody s_law) (defScope s_law) [] [] (He.ga K "law") fd_law
  b_law : Binds K fd_law pr_law []
theorem Tx.kf {P : Program} {K : PySem.W.Frag} {mg : Str → Option Value} (T : Tx P K mg) : Hm.KF K := ⟨T.cl_Mesh, T.na_nexts, T.na_prevs, T.na_turns⟩

def fnD : List He.DefD := [⟨("Mesh", some "__init__"), "__init__", "Mesh.__init__", defArgs s_Meshinit, defBody s_Meshinit, defScope s_Meshinit, [], []⟩,
  ⟨("Mesh", some "__len__"), "__len__", "Mesh.__len__", defArgs s_Meshlen, defBody s_Meshlen, defScope s_Meshlen, [], []⟩,
  ⟨("Mesh", some "after"), "after", "Mesh.after", defArgs s_Meshafter, defBody s_Meshafter, defScope s_Meshafter, [], []⟩,
  ⟨("Mesh", some "twin"), "twin", "Mesh.twin", defArgs s_Meshtwin, defBody s_Meshtwin, defScope s_Meshtwin, [], []⟩,
  ⟨("Mesh", some "pieces"), "pieces", "Mesh.pieces", defArgs s_Meshpieces, defBody s_Meshpieces, defScope s_Meshpieces, [], []⟩,
  ⟨("Mesh", some "_piece"), "_piece", "Mesh._piece", defArgs s_Meshpiece, defBody s_Meshpiece, defScope s_Meshpiece, [], []⟩,
  ⟨("_is_integer", none), "_is_integer", "_is_integer", defArgs s_isinteger, defBody s_isinteger, defScope s_isinteger, [], []⟩,
  ⟨("are_halves", none), "are_halves", "are_halves", defArgs s_arehalves, defBody s_arehalves, defScope s_arehalves, [], []⟩,
  ⟨("_are_all_halves", none), "_are_all_halves", "_are_all_halves", defArgs s_areallhalves, defBody s_areallhalves, defScope s_areallhalves, [], []⟩,
  ⟨("_inverse", none), "_inverse", "_inverse", defArgs s_inverse, defBody s_inverse, defScope s_inverse, [], []⟩,
  ⟨("renaming", none), "renaming", "renaming", defArgs s_renaming, defBody s_renaming, defScope s_renaming, [], []⟩,
  ⟨("_place_somewhere", none), "_place_somewhere", "_place_somewhere", defArgs s_placesomewhere, defBody s_placesomewhere, defScope s_placesomewhere, [], []⟩,
  ⟨("_place", none), "_place", "_place", defArgs s_place, defBody s_place, defScope s_place, [], []⟩,
  ⟨("_spread", none), "_spread", "_spread", defArgs s_spread, defBody s_spread, defScope s_spread, [], []⟩,
  ⟨("_law_tape", none), "_law_tape", "_law_tape", defArgs s_Ltape, defBody s_Ltape, defScope s_Ltape, [], []⟩,
  ⟨("_law_pick", none), "_law_pick", "_law_pick", defArgs s_Lpick, defBody s_Lpick, defScope s_Lpick, [], []⟩,
  ⟨("_law_nexts", none), "_law_nexts", "_law_nexts", defArgs s_Lnexts, defBody s_Lnexts, defScope s_Lnexts, [], []⟩,
  ⟨("_law_size", none), "_law_size", "_law_size", defArgs s_Lsize, defBody s_Lsize, defScope s_Lsize, [], []⟩,
  ⟨("_law_twin", none), "_law_twin", "_law_twin", defArgs s_Ltwin, defBody s_Ltwin, defScope s_Ltwin, [], []⟩,
  ⟨("_law_pieces", none), "_law_pieces", "_law_pieces", defArgs s_Lpieces, defBody s_Lpieces, defScope s_Lpieces, [], []⟩,
  ⟨("_law_moved", none), "_law_moved", "_law_moved", defArgs s_Lmoved, defBody s_Lmoved, defScope s_Lmoved, [], []⟩,
  ⟨("_law_spread", none), "_law_spread", "_law_spread", defArgs s_Lspread, defBody s_Lspread, defScope s_Lspread, [], []⟩,
  ⟨("_law_image", none), "_law_image", "_law_image", defArgs s_Limage, defBody s_Limage, defScope s_Limage, [], []⟩,
  ⟨("_law_possible", none), "_law_possible", "_law_possible", defArgs s_Lpossible, defBody s_Lpossible, defScope s_Lpossible, [], []⟩,
  ⟨("_law_right", none), "_law_right", "_law_right", defArgs s_Lright, defBody s_Lright, defScope s_Lright, [], []⟩,
  ⟨("law", none), "law", "law", defArgs s_law, defBody s_law, defScope s_law, [], []⟩]
def fa : List He.Fa := [.free "len", .free "abs", .free "int", .free "list", .free "sorted", .free "all", .free "isinstance", .free "min", .free "range", .free "bool", .free "enumerate", .free "dict", .free "super", .free "set", .glo "NotAMesh", .glo "Mesh", .cls "Mesh", .noat "Mesh" "_nexts", .noat "Mesh" "_prevs", .noat "Mesh" "_turns", .mkr "Mesh", .meth "Mesh" "__len__", .meth "Mesh" "after", .meth "Mesh" "twin", .meth "Mesh" "pieces", .meth "Mesh" "_piece", .glo "_is_integer", .glo "are_halves", .glo "_are_all_halves", .glo "_inverse", .glo "renaming", .glo "_place_somewhere", .glo "_place", .glo "_spread", .glo "_law_tape", .glo "_law_pick", .glo "_law_nexts", .glo "_law_size", .glo "_law_twin", .glo "_law_pieces", .glo "_law_moved", .glo "_law_spread", .glo "_law_image", .glo "_law_possible", .glo "_law_right", .glo "law"]
def fx : List Fx := [.sup "NotAMesh"]
def cl : List CloD := [cl_NotAMesh]
def pg : List PgD := []
theorem tx_of {P : Program} {K : PySem.W.Frag} {h : Heap} {mg : Str → Option Value} (hP : PF P) (X : K.In h) (G : h.Ns mainGlobals mg) (c : SaysS fa fnD fx cl fileS K) : Nonempty (Tx P K mg) := by
  have cd := c.d
  obtain ⟨fd_NotAMeshinit, u_NotAMesh⟩ := sup_of (P := P) (d := cl_NotAMesh) (c.clo 0 rfl) (by rw [hP.file]; exact c.fact 0 (f := .sup "NotAMesh") rfl) hP.top
  have b_NotAMeshinit : Binds K fd_NotAMeshinit pr_NotAMeshinit [] := by
    obtain ⟨cl, kV, doc, pm, an, cdv, ct, e⟩ := u_NotAMesh.fx
    rw [e]
    exact Binds.all fun us hl => match us, hl with | [_], _ => rfl
  obtain ⟨fd_Meshinit, F_Meshinit⟩ := cd.def_ 0 rfl
  have b_Meshinit : Binds K fd_Meshinit pr_Meshinit [] := F_Meshinit.bindsN fun _ _ _ _ _ _ us hl => match us, hl with | [_, _], _ => rfl
  obtain ⟨fd_Meshlen, F_Meshlen⟩ := cd.def_ 1 rfl
  have b_Meshlen : Binds K fd_Meshlen pr_Meshlen [] := F_Meshlen.bindsN fun _ _ _ _ _ _ us hl => match us, hl with | [_], _ => rfl
  obtain ⟨fd_Meshafter, F_Meshafter⟩ := cd.def_ 2 rfl
  have b_Meshafter : Binds K fd_Meshafter pr_Meshafter [] := F_Meshafter.bindsN fun _ _ _ _ _ _ us hl => match us, hl with | [_, _], _ => rfl
  obtain ⟨fd_Meshtwin, F_Meshtwin⟩ := cd.def_ 3 rfl
  have b_Meshtwin : Binds K fd_Meshtwin pr_Meshtwin [] := F_Meshtwin.bindsN fun _ _ _ _ _ _ us hl => match us, hl with | [_, _], _ => rfl
  obtain ⟨fd_Meshpieces, F_Meshpieces⟩ := cd.def_ 4 rfl
  have b_Meshpieces : Binds K fd_Meshpieces pr_Meshpieces [] := F_Meshpieces.bindsN fun _ _ _ _ _ _ us hl => match us, hl with | [_], _ => rfl
  obtain ⟨fd_Meshpiece, F_Meshpiece⟩ := cd.def_ 5 rfl
  have b_Meshpiece : Binds K fd_Meshpiece pr_Meshpiece [] := F_Meshpiece.bindsN fun _ _ _ _ _ _ us hl => match us, hl with | [_, _], _ => rfl
  obtain ⟨fd_isinteger, F_isinteger⟩ := cd.def_ 6 rfl
  have b_isinteger : Binds K fd_isinteger pr_isinteger [] := F_isinteger.bindsN fun _ _ _ _ _ _ us hl => match us, hl with | [_], _ => rfl
  obtain ⟨fd_arehalves, F_arehalves⟩ := cd.def_ 7 rfl
  have b_arehalves : Binds K fd_arehalves pr_arehalves [] := F_arehalves.bindsN fun _ _ _ _ _ _ us hl => match us, hl with | [_, _], _ => rfl
  obtain ⟨fd_areallhalves, F_areallhalves⟩ := cd.def_ 8 rfl
  have b_areallhalves : Binds K fd_areallhalves pr_areallhalves [] := F_areallhalves.bindsN fun _ _ _ _ _ _ us hl => match us, hl with | [_], _ => rfl
  obtain ⟨fd_inverse, F_inverse⟩ := cd.def_ 9 rfl
  have b_inverse : Binds K fd_inverse pr_inverse [] := F_inverse.bindsN fun _ _ _ _ _ _ us hl => match us, hl with | [_], _ => rfl
  obtain ⟨fd_renaming, F_renaming⟩ := cd.def_ 10 rfl
  have b_renaming : Binds K fd_renaming pr_renaming [] := F_renaming.bindsN fun _ _ _ _ _ _ us hl => match us, hl with | [_, _, _], _ => rfl
  obtain ⟨fd_placesomewhere, F_placesomewhere⟩ := cd.def_ 11 rfl
  have b_placesomewhere : Binds K fd_placesomewhere pr_placesomewhere [] := F_placesomewhere.bindsN fun _ _ _ _ _ _ us hl => match us, hl with | [_, _, _, _], _ => rfl
  obtain ⟨fd_place, F_place⟩ := cd.def_ 12 rfl
  have b_place : Binds K fd_place pr_place [] := F_place.bindsN fun _ _ _ _ _ _ us hl => match us, hl with | [_, _, _, _, _], _ => rfl
  obtain ⟨fd_spread, F_spread⟩ := cd.def_ 13 rfl
  have b_spread : Binds K fd_spread pr_spread [] := F_spread.bindsN fun _ _ _ _ _ _ us hl => match us, hl with | [_, _, _, _], _ => rfl
  obtain ⟨fd_Ltape, F_Ltape⟩ := cd.def_ 14 rfl
  have b_Ltape : Binds K fd_Ltape pr_Ltape [] := F_Ltape.bindsN fun _ _ _ _ _ _ us hl => match us, hl with | [_, _], _ => rfl
  obtain ⟨fd_Lpick, F_Lpick⟩ := cd.def_ 15 rfl
  have b_Lpick : Binds K fd_Lpick pr_Lpick [] := F_Lpick.bindsN fun _ _ _ _ _ _ us hl => match us, hl with | [_, _], _ => rfl
  obtain ⟨fd_Lnexts, F_Lnexts⟩ := cd.def_ 16 rfl
  have b_Lnexts : Binds K fd_Lnexts pr_Lnexts [] := F_Lnexts.bindsN fun _ _ _ _ _ _ us hl => match us, hl with | [_, _], _ => rfl
  obtain ⟨fd_Lsize, F_Lsize⟩ := cd.def_ 17 rfl
  have b_Lsize : Binds K fd_Lsize pr_Lsize [] := F_Lsize.bindsN fun _ _ _ _ _ _ us hl => match us, hl with | [_], _ => rfl
  obtain ⟨fd_Ltwin, F_Ltwin⟩ := cd.def_ 18 rfl
  have b_Ltwin : Binds K fd_Ltwin pr_Ltwin [] := F_Ltwin.bindsN fun _ _ _ _ _ _ us hl => match us, hl with | [_], _ => rfl
  obtain ⟨fd_Lpieces, F_Lpieces⟩ := cd.def_ 19 rfl
  have b_Lpieces : Binds K fd_Lpieces pr_Lpieces [] := F_Lpieces.bindsN fun _ _ _ _ _ _ us hl => match us, hl with | [_], _ => rfl
  obtain ⟨fd_Lmoved, F_Lmoved⟩ := cd.def_ 20 rfl
  have b_Lmoved : Binds K fd_Lmoved pr_Lmoved [] := F_Lmoved.bindsN fun _ _ _ _ _ _ us hl => match us, hl with | [_, _], _ => rfl
  obtain ⟨fd_Lspread, F_Lspread⟩ := cd.def_ 21 rfl
  have b_Lspread : Binds K fd_Lspread pr_Lspread [] := F_Lspread.bindsN fun _ _ _ _ _ _ us hl => match us, hl with | [_, _, _, _], _ => rfl
  obtain ⟨fd_Limage, F_Limage⟩ := cd.def_ 22 rfl
  have b_Limage : Binds K fd_Limage pr_Limage [] := F_Limage.bindsN fun _ _ _ _ _ _ us hl => match us, hl with | [_, _, _, _, _], _ => rfl
  obtain ⟨fd_Lpossible, F_Lpossible⟩ := cd.def_ 23 rfl
  have b_Lpossible : Binds K fd_Lpossible pr_Lpossible [] := F_Lpossible.bindsN fun _ _ _ _ _ _ us hl => match us, hl with | [_, _, _], _ => rfl
  obtain ⟨fd_Lright, F_Lright⟩ := cd.def_ 24 rfl
  have b_Lright : Binds K fd_Lright pr_Lright [] := F_Lright.bindsN fun _ _ _ _ _ _ us hl => match us, hl with | [_, _, _, _], _ => rfl
  obtain ⟨fd_law, F_law⟩ := cd.def_ 25 rfl
  have b_law : Binds K fd_law pr_law [] := F_law.bindsN fun _ _ _ _ _ _ us hl => match us, hl with | [_], _ => rfl
  exact ⟨⟨He.free_ok X G (cd.fact 0 (f := .free "len") rfl),
    He.free_ok X G (cd.fact 1 (f := .free "abs") rfl),
    He.free_ok X G (cd.fact 2 (f := .free "int") rfl),
    He.free_ok X G (cd.fact 3 (f := .free "list") rfl),
    He.free_ok X G (cd.fact 4 (f := .free "sorted") rfl),
    He.free_ok X G (cd.fact 5 (f := .free "all") rfl),
    He.free_ok X G (cd.fact 6 (f := .free "isinstance") rfl),
    He.free_ok X G (cd.fact 7 (f := .free "min") rfl),
    He.free_ok X G (cd.fact 8 (f := .free "range") rfl),
    He.free_ok X G (cd.fact 9 (f := .free "bool") rfl),
    He.free_ok X G (cd.fact 10 (f := .free "enumerate") rfl),
    He.free_ok X G (cd.fact 11 (f := .free "dict") rfl),
    He.free_ok X G (cd.fact 12 (f := .free "super") rfl),
    He.free_ok X G (cd.fact 13 (f := .free "set") rfl),
    He.glo_ok X G (cd.fact 14 (f := .glo "NotAMesh") rfl),
    He.glo_ok X G (cd.fact 15 (f := .glo "Mesh") rfl),
    He.cls_ok (cd.fact 16 (f := .cls "Mesh") rfl),
    He.noat_ok (cd.fact 17 (f := .noat "Mesh" "_nexts") rfl),
    He.noat_ok (cd.fact 18 (f := .noat "Mesh" "_prevs") rfl),
    He.noat_ok (cd.fact 19 (f := .noat "Mesh" "_turns") rfl),
    He.mkr_ok (cd.fact 20 (f := .mkr "Mesh") rfl),
    fd_NotAMeshinit,
    u_NotAMesh,
    b_NotAMeshinit,
    fd_Meshinit,
    F_Meshinit,
    b_Meshinit,
    He.meth_ok (cd.fact 21 (f := .meth "Mesh" "__len__") rfl),
    fd_Meshlen,
    F_Meshlen,
    b_Meshlen,
    He.meth_ok (cd.fact 22 (f := .meth "Mesh" "after") rfl),
    fd_Meshafter,
    F_Meshafter,
    b_Meshafter,
    He.meth_ok (cd.fact 23 (f := .meth "Mesh" "twin") rfl),
    fd_Meshtwin,
    F_Meshtwin,
    b_Meshtwin,
    He.meth_ok (cd.fact 24 (f := .meth "Mesh" "pieces") rfl),
    fd_Meshpieces,
    F_Meshpieces,
    b_Meshpieces,
    He.meth_ok (cd.fact 25 (f := .meth "Mesh" "_piece") rfl),
    fd_Meshpiece,
    F_Meshpiece,
    b_Meshpiece,
    He.glo_ok X G (cd.fact 26 (f := .glo "_is_integer") rfl),
    fd_isinteger,
    F_isinteger,
    b_isinteger,
    He.glo_ok X G (cd.fact 27 (f := .glo "are_halves") rfl),
    fd_arehalves,
    F_arehalves,
    b_arehalves,
    He.glo_ok X G (cd.fact 28 (f := .glo "_are_all_halves") rfl),
    fd_areallhalves,
    F_areallhalves,
    b_areallhalves,
    He.glo_ok X G (cd.fact 29 (f := .glo "_inverse") rfl),
    fd_inverse,
    F_inverse,
    b_inverse,
    He.glo_ok X G (cd.fact 30 (f := .glo "renaming") rfl),
    fd_renaming,
    F_renaming,
    b_renaming,
    He.glo_ok X G (cd.fact 31 (f := .glo "_place_somewhere") rfl),
    fd_placesomewhere,
    F_placesomewhere,
    b_placesomewhere,
    He.glo_ok X G (cd.fact 32 (f := .glo "_place") rfl),
    fd_place,
    F_place,
    b_place,
    He.glo_ok X G (cd.fact 33 (f := .glo "_spread") rfl),
    fd_spread,
    F_spread,
    b_spread,
    He.glo_ok X G (cd.fact 34 (f := .glo "_law_tape") rfl),
    fd_Ltape,
    F_Ltape,
    b_Ltape,
    He.glo_ok X G (cd.fact 35 (f := .glo "_law_pick") rfl),
    fd_Lpick,
    F_Lpick,
    b_Lpick,
    He.glo_ok X G (cd.fact 36 (f := .glo "_law_nexts") rfl),
    fd_Lnexts,
    F_Lnexts,
    b_Lnexts,
    He.glo_ok X G (cd.fact 37 (f := .glo "_law_size") rfl),
    fd_Lsize,
    F_Lsize,
    b_Lsize,
    He.glo_ok X G (cd.fact 38 (f := .glo "_law_twin") rfl),
    fd_Ltwin,
    F_Ltwin,
    b_Ltwin,
    He.glo_ok X G (cd.fact 39 (f := .glo "_law_pieces") rfl),
    fd_Lpieces,
    F_Lpieces,
    b_Lpieces,
    He.glo_ok X G (cd.fact 40 (f := .glo "_law_moved") rfl),
    fd_Lmoved,
    F_Lmoved,
    b_Lmoved,
    He.glo_ok X G (cd.fact 41 (f := .glo "_law_spread") rfl),
    fd_Lspread,
    F_Lspread,
    b_Lspread,
    He.glo_ok X G (cd.fact 42 (f := .glo "_law_image") rfl),
    fd_Limage,
    F_Limage,
    b_Limage,
    He.glo_ok X G (cd.fact 43 (f := .glo "_law_possible") rfl),
    fd_Lpossible,
    F_Lpossible,
    b_Lpossible,
    He.glo_ok X G (cd.fact 44 (f := .glo "_law_right") rfl),
    fd_Lright,
    F_Lright,
    b_Lright,
    fd_law,
    F_law,
    b_law⟩⟩
abbrev RR : PySem.W.OpenRow := PySem.W.OpenLaw.row PySem.Challenge.rw_halfmeshes_k22_renamings
abbrev hk : PySem.W.Hook := hookS 5 fa fnD fx cl fileS
def ob (s : PySem.W.SharedT) : AlS := obsSG 5 fa fnD fx cl fileS (HandSHeadRun.getT s)
theorem ob_hk (s : PySem.W.SharedT) : ob s = hk.obs s.abs := obsSG_eq (HandSHeadRun.getT_eq s)
def lse : List Str := (["_wall", "MeshError", "NotAMesh", "Mesh", "_is_integer", "are_halves", "_are_all_halves", "_inverse", "_rounds", "renaming", "_place_somewhere", "_place", "_spread", "_law_tape", "_law_pick", "_law_nexts", "_law_size", "_law_twin", "_law_turned", "_law_pieces"] : List Str) ++ (["_law_moved", "_law_spread", "_law_image", "_law_possible", "_law_right"] : List Str)
theorem top_run (w : World) : HandSHeadRun.RunEq RR (PySem.W.view RR.prog [29]) hk ob 9000 lse w := by
  intro os
  kernel_rfl
theorem ok_NotAMeshinit {P : Program} {w : World} {K : PySem.W.Frag} {mg : Str → Option Value} {base : Heap} (T : Tx P K mg) : FnOk P w K mg base (L2.CX P w) 1 (iA K "NotAMesh") T.fd_NotAMeshinit pr_NotAMeshinit (sp_NotAMeshinit K) :=
  sup_fn (N := ["self", "__class__"]) (k := 0) T.u_NotAMesh.F (NdefX.nscope_by (by decide +kernel)) rfl rfl (by decide) rfl ln_NotAMeshinit (fun F A outer s H vs Q E hq hsc hr h => by
    obtain ⟨x, rfl, hx, q⟩ := h
    exact ⟨x, _, _, rfl, hx, pa_cons pe_str pa_nil, pss_nil, ⟨by show 1 ≤ 1000; decide, hx, q⟩⟩) (fun _ => rfl) (fun _ => rfl) (fun _ => ⟨_, rfl⟩)
theorem ok_isinteger {P : Program} {w : World} {K : PySem.W.Frag} {mg : Str → Option Value} {base : Heap} (T : Tx P K mg) : FnOk P w K mg base (L2.CX P w) 1 (He.ga K "_is_integer") T.fd_isinteger pr_isinteger (sp_isinteger K) := by
  refine T.F_isinteger.ok sc_isinteger ln_isinteger (fun cdv A outer s H vs Q E hr h => ⟨t_isinteger K, PSs.nox ?_, rd_isinteger T.kf vs H Q E h⟩)
  exact (pss_one (ps_ret (pe_and (pe_callB call_isi (by rfl) T.n_isinstance (by decide +kernel) (pa_cons (pv 0) (pa_cons (pe_bltn (v := .ty "int") rfl T.n_int (by decide +kernel) rfl) pa_nil))) (pe_one (pe_not (pe_callB call_isi (by rfl) T.n_isinstance (by decide +kernel) (pa_cons (pv 0) (pa_cons (pe_bltn (v := .ty "bool") rfl T.n_bool (by decide +kernel) rfl) pa_nil))))))))
theorem ok_arehalves {P : Program} {w : World} {K : PySem.W.Frag} {mg : Str → Option Value} {base : Heap} (T : Tx P K mg) : FnOk P w K mg base (L2.CX P w) 2 (He.ga K "are_halves") T.fd_arehalves pr_arehalves (sp_arehalves K) := by
  have G_isinteger := ok_isinteger (P := P) (w := w) (base := base) T
  refine T.F_arehalves.ok sc_arehalves ln_arehalves (fun cdv A outer s H vs Q E hr h => ⟨t_arehalves K, PSs.nox ?_, rd_arehalves T.kf vs H Q E h⟩)
  exact (pss_cons (ps_if (pt_not (pt_val (pe_callB (cr_all rfl) (by rfl) T.n_all (by decide +kernel) (pa_cons (pe_lc (own := [("number", 2)]) (g := gName 2) (tt := tYes) rfl sc_arehalves.nd (pi_list (pv 0)) (blkOk_by (own := [("number", 2)]) (N := nm_arehalves) (sc := defScope s_arehalves) (by decide +kernel)) (fun _ _ _ _ _ => (pg_name (i := 2) sc_arehalves.nd rfl (by first | exact Or.inl rfl | exact Or.inr rfl))) (fun _ _ _ _ _ => pts_nil) (fun _ _ _ _ _ => (pe_and (pe_call G_isinteger (hr.mono (by decide)) rfl T.m_isinteger T.F_isinteger.kp T.b_isinteger .nil passL (pa_cons (pv 2) pa_nil)) (pe_one (pe_chain op_le op_lt pe_int (pv 2) (pv 1)))))) pa_nil)))) (pss_one (ps_ret pe_bl)) pss_nil)
      (pss_one (ps_ret (pe_cmpR op_eq (PSetI.pe_lenI rfl (by rfl) T.n_len (by rfl) T.n_set (pv 0)) (pe_callB call_len_seq (by rfl) T.n_len PySem.boot_len (pa_cons (pv 0) pa_nil)) (nomark _)))))
theorem ok_areallhalves {P : Program} {w : World} {K : PySem.W.Frag} {mg : Str → Option Value} {base : Heap} (T : Tx P K mg) : FnOk P w K mg base (L2.CX P w) 3 (He.ga K "_are_all_halves") T.fd_areallhalves pr_areallhalves (sp_areallhalves K) := by
  have G_arehalves := ok_arehalves (P := P) (w := w) (base := base) T
  refine T.F_areallhalves.ok sc_areallhalves ln_areallhalves (fun cdv A outer s H vs Q E hr h => ⟨t_areallhalves K, PSs.nox ?_, rd_areallhalves T.kf vs H Q E h⟩)
  exact (pss_one (ps_ret (pe_and (pe_cmpR op_eq (pe_op op_modN (pe_callB call_len_seq (by rfl) T.n_len PySem.boot_len (pa_cons (pv 0) pa_nil)) pe_int) pe_int (nomark _)) (pe_one (pe_call G_arehalves (hr.mono (by decide)) rfl T.m_arehalves T.F_arehalves.kp T.b_arehalves .nil passL (pa_cons (pv 0) (pa_cons (pe_callB call_len_seq (by rfl) T.n_len PySem.boot_len (pa_cons (pv 0) pa_nil)) pa_nil)))))))
theorem ok_inverse {P : Program} {w : World} {K : PySem.W.Frag} {mg : Str → Option Value} {base : Heap} (T : Tx P K mg) : FnOk P w K mg base (L2.CX P w) 1 (He.ga K "_inverse") T.fd_inverse pr_inverse (sp_inverse K) := by
  refine T.F_inverse.ok sc_inverse ln_inverse (fun cdv A outer s H vs Q E hr h => ⟨t_inverse K, PSs.nox ?_, rd_inverse T.kf vs H Q E h⟩)
  exact (pss_cons (ps_set (i := 1) sc_inverse.nd rfl (Or.inl rfl) (pe_op op_rep (pe_lst (pa_cons pe_int pa_nil)) (pe_callB call_len_seq (by rfl) T.n_len PySem.boot_len (pa_cons (pv 0) pa_nil))))
      (pss_cons (ps_for PassesOwn.never rfl (pi_enum (by rfl) T.n_enumerate (pa_cons (pv 0) pa_nil)) (pg_tup (by rfl) (pgs_cons (pg_name (i := 2) sc_inverse.nd rfl (Or.inl rfl)) (pgs_cons (pg_name (i := 3) sc_inverse.nd rfl (Or.inl rfl)) pgs_nil))) (pss_one (ps_asg (pv 2) (pg_sub (pv 1) (pv 3) set_list))))
      (pss_one (ps_ret (pv 1)))))
theorem ok_Meshinit {P : Program} {w : World} {K : PySem.W.Frag} {mg : Str → Option Value} {base : Heap} (T : Tx P K mg) : FnOk P w K mg base (L2.CX P w) 4 (He.ma K (He.ga K "Mesh") "__init__") T.fd_Meshinit pr_Meshinit (sp_Meshinit K) := by
  have G_NotAMeshinit := ok_NotAMeshinit (P := P) (w := w) (base := base) T
  have G_areallhalves := ok_areallhalves (P := P) (w := w) (base := base) T
  have G_inverse := ok_inverse (P := P) (w := w) (base := base) T
  refine T.F_Meshinit.ok sc_Meshinit ln_Meshinit (fun cdv A outer s H vs Q E hr h => ⟨t_Meshinit K E, ?_, rd_Meshinit T.kf vs H Q E h⟩)
  exact (pss_cons (ps_set (i := 2) sc_Meshinit.nd rfl (Or.inl rfl) (pe_callTy call_list_of (by rfl) T.n_list (by decide +kernel) (pa_cons (pv 1) pa_nil)))
      (pss_cons (ps_if (pt_not (pt_val (pe_call G_areallhalves (hr.mono (by decide)) rfl T.m_areallhalves T.F_areallhalves.kp T.b_areallhalves .nil passL (pa_cons (pv 2) pa_nil)))) (pss_one (ps_raise rfl (takes_of rfl rfl rfl rfl) (pmk_sup0 T.u_NotAMesh.F.oex T.u_NotAMesh.iC T.u_NotAMesh.tI G_NotAMeshinit (hr.mono (by decide)) T.b_NotAMeshinit passL rfl T.m_NotAMesh))) pss_nil)
      (pss_cons (ps_fld (pv 0) (pv 2) rfl)
      (pss_cons (ps_fld (pv 0) (pe_call G_inverse (hr.mono (by decide)) rfl T.m_inverse T.F_inverse.kp T.b_inverse .nil passL (pa_cons (pv 2) pa_nil)) rfl)
      (pss_one (ps_fld (pv 0) (pe_lc (own := [("half", 3)]) (g := gName 3) (tt := tYes) rfl sc_Meshinit.nd (pi_list (pe_fld (pv 0) rfl)) (blkOk_by (own := [("half", 3)]) (N := nm_Meshinit) (sc := defScope s_Meshinit) (by decide +kernel)) (fun _ _ _ _ _ => (pg_name (i := 3) sc_Meshinit.nd rfl (by first | exact Or.inl rfl | exact Or.inr rfl))) (fun _ _ _ _ _ => pts_nil) (fun _ _ _ _ _ => (pe_op op_xor (pv 3) pe_int))) rfl))))))
theorem ok_Meshlen {P : Program} {w : World} {K : PySem.W.Frag} {mg : Str → Option Value} {base : Heap} (T : Tx P K mg) : FnOk P w K mg base (L2.CX P w) 1 (He.ma K (He.ga K "Mesh") "__len__") T.fd_Meshlen pr_Meshlen (sp_Meshlen K) := by
  refine T.F_Meshlen.ok sc_Meshlen ln_Meshlen (fun cdv A outer s H vs Q E hr h => ⟨t_Meshlen K, PSs.nox ?_, rd_Meshlen T.kf vs H Q E h⟩)
  exact (pss_one (ps_ret (pe_callB call_len_seq (by rfl) T.n_len PySem.boot_len (pa_cons (pe_fld (pv 0) rfl) pa_nil))))
theorem ok_Meshafter {P : Program} {w : World} {K : PySem.W.Frag} {mg : Str → Option Value} {base : Heap} (T : Tx P K mg) : FnOk P w K mg base (L2.CX P w) 1 (He.ma K (He.ga K "Mesh") "after") T.fd_Meshafter pr_Meshafter (sp_Meshafter K) := by
  refine T.F_Meshafter.ok sc_Meshafter ln_Meshafter (fun cdv A outer s H vs Q E hr h => ⟨t_Meshafter K, PSs.nox ?_, rd_Meshafter T.kf vs H Q E h⟩)
  exact (pss_one (ps_ret (pe_ix ix_list (pe_fld (pv 0) rfl) (pv 1) (fun _ _ => rfl))))
theorem ok_Meshtwin {P : Program} {w : World} {K : PySem.W.Frag} {mg : Str → Option Value} {base : Heap} (T : Tx P K mg) : FnOk P w K mg base (L2.CX P w) 1 (He.ma K (He.ga K "Mesh") "twin") T.fd_Meshtwin pr_Meshtwin (sp_Meshtwin K) := by
  refine T.F_Meshtwin.ok sc_Meshtwin ln_Meshtwin (fun cdv A outer s H vs Q E hr h => ⟨t_Meshtwin K, PSs.nox ?_, rd_Meshtwin T.kf vs H Q E h⟩)
  exact (pss_one (ps_ret (pe_op op_xor (pv 1) pe_int)))
theorem ok_Meshpiece {P : Program} {w : World} {K : PySem.W.Frag} {mg : Str → Option Value} {base : Heap} (T : Tx P K mg) : FnOk P w K mg base (L2.CX P w) 1 (He.ma K (He.ga K "Mesh") "_piece") T.fd_Meshpiece pr_Meshpiece (sp_Meshpiece K) := by
  refine T.F_Meshpiece.ok sc_Meshpiece ln_Meshpiece (fun cdv A outer s H vs Q E hr h => ⟨t_Meshpiece K, PSs.nox ?_, rd_Meshpiece T.kf vs H Q E h⟩)
  exact (pss_cons (ps_set (i := 2) sc_Meshpiece.nd rfl (Or.inl rfl) pe_dnewK)
      (pss_cons (ps_set (i := 3) sc_Meshpiece.nd rfl (Or.inl rfl) (pe_lst (pa_cons (pv 1) pa_nil)))
      (pss_cons (ps_while PassesOwn.never (pt_truL (pv 3)) (pss_cons (ps_set (i := 4) sc_Meshpiece.nd rfl (Or.inl rfl) (pe_bm0 PySem.F.plainAttrs_list PySem.F.slot_list_pop PySem.F.type_list_pop mt_pop (pv 3)))
      (pss_one (ps_if (pt_cmp (pc_dnotin (hu1 hr) (pv 4) (pv 2)) rfl) (pss_cons (ps_dput (hu1 hr) (pv 2) (pv 4) pe_bl rfl)
      (pss_cons (ps_expr (pe_bm PySem.F.plainAttrs_list PySem.F.slot_list_append PySem.F.type_list_append mt_append (pv 3) (pa_cons (pe_ix ix_list (pe_fld (pv 0) rfl) (pv 4) (fun _ _ => rfl)) pa_nil)))
      (pss_one (ps_expr (pe_bm PySem.F.plainAttrs_list PySem.F.slot_list_append PySem.F.type_list_append mt_append (pv 3) (pa_cons (pe_op op_xor (pv 4) pe_int) pa_nil)))))) pss_nil))))
      (pss_one (ps_ret (pe_callB (call_sortedDI rfl) (by rfl) T.n_sorted (by decide +kernel) (pa_cons (pv 2) pa_nil)))))))
theorem ok_Meshpieces {P : Program} {w : World} {K : PySem.W.Frag} {mg : Str → Option Value} {base : Heap} (T : Tx P K mg) : FnOk P w K mg base (L2.CX P w) 2 (He.ma K (He.ga K "Mesh") "pieces") T.fd_Meshpieces pr_Meshpieces (sp_Meshpieces K) := by
  have G_Meshpiece := ok_Meshpiece (P := P) (w := w) (base := base) T
  refine T.F_Meshpieces.ok sc_Meshpieces ln_Meshpieces (fun cdv A outer s H vs Q E hr h => ⟨t_Meshpieces K, PSs.nox ?_, rd_Meshpieces T.kf vs H Q E h⟩)
  exact (pss_cons (ps_set (i := 1) sc_Meshpieces.nd rfl (Or.inl rfl) (pe_lst pa_nil))
      (pss_cons (ps_set (i := 2) sc_Meshpieces.nd rfl (Or.inl rfl) pe_dnewK)
      (pss_cons (ps_for PassesOwn.never rfl (pi_range1 (by rfl) T.n_range (pa_cons (pe_callB call_len_seq (by rfl) T.n_len PySem.boot_len (pa_cons (pe_fld (pv 0) rfl) pa_nil)) pa_nil)) (pg_name (i := 3) sc_Meshpieces.nd rfl (Or.inl rfl)) (pss_one (ps_if (pt_cmp (pc_dnotin (hu1 hr) (pv 3) (pv 2)) rfl) (pss_cons (ps_set (i := 4) sc_Meshpieces.nd rfl (Or.inl rfl) (pe_meth (pv 0) T.cl_Mesh T.me_Meshpiece G_Meshpiece (hr.mono (by decide)) T.b_Meshpiece .nil passL (pa_cons (pv 3) pa_nil)))
      (pss_cons (ps_expr (pe_bm PySem.F.plainAttrs_dict PySem.F.slot_dict_update PySem.F.type_dict_update mt_update (pv 2) (pa_cons (pe_dc (own := [("member", 5)]) (g := gName 5) (tt := tYes) rfl sc_Meshpieces.nd (pi_list (pv 4)) (blkOk_by (own := [("member", 5)]) (N := nm_Meshpieces) (sc := defScope s_Meshpieces) (by decide +kernel)) (fun _ _ _ _ _ => pg_name (i := 5) sc_Meshpieces.nd rfl (by first | exact Or.inl rfl | exact Or.inr rfl)) (fun _ _ _ _ _ => pts_nil) (fun _ _ _ _ _ => (pv 5)) (fun _ _ _ _ _ => pe_bl)) pa_nil)))
      (pss_one (ps_expr (pe_bm PySem.F.plainAttrs_list PySem.F.slot_list_append PySem.F.type_list_append mt_append (pv 1) (pa_cons (pv 4) pa_nil)))))) pss_nil)))
      (pss_one (ps_ret (pv 1))))))
theorem ok_spread {P : Program} {w : World} {K : PySem.W.Frag} {mg : Str → Option Value} {base : Heap} (T : Tx P K mg) : FnOk P w K mg base (L2.CX P w) 2 (He.ga K "_spread") T.fd_spread pr_spread (sp_spread K) := by
  have G_Meshafter := ok_Meshafter (P := P) (w := w) (base := base) T
  have G_Meshtwin := ok_Meshtwin (P := P) (w := w) (base := base) T
  refine T.F_spread.ok sc_spread ln_spread (fun cdv A outer s H vs Q E hr h => ⟨t_spread K, PSs.nox ?_, rd_spread T.kf vs H Q E h⟩)
  exact (pss_cons (ps_set (i := 4) sc_spread.nd rfl (Or.inl rfl) pe_dnewK)
      (pss_cons (ps_set (i := 5) sc_spread.nd rfl (Or.inl rfl) pe_dnewK)
      (pss_cons (ps_set (i := 6) sc_spread.nd rfl (Or.inl rfl) (pe_lst (pa_cons (pe_tup (pa_cons (pv 2) (pa_cons (pv 3) pa_nil))) pa_nil)))
      (pss_cons (ps_while PassesOwn.never (pt_truL (pv 6)) (pss_cons (ps_asg (pe_bm0 PySem.F.plainAttrs_list PySem.F.slot_list_pop PySem.F.type_list_pop mt_pop (pv 6)) (pg_tup (by rfl) (pgs_cons (pg_name (i := 7) sc_spread.nd rfl (Or.inl rfl)) (pgs_cons (pg_name (i := 8) sc_spread.nd rfl (Or.inl rfl)) pgs_nil))))
      (pss_one (ps_if (PW.pt (pw_and (pt_cmp (pc_dnotin (hu1 hr) (pv 7) (pv 4)) rfl) (pw_and1 (pt_cmp (pc_dnotin (hu1 hr) (pv 8) (pv 5)) rfl)))) (pss_cons (ps_dput (hu1 hr) (pv 4) (pv 7) (pv 8) rfl)
      (pss_cons (ps_dput (hu1 hr) (pv 5) (pv 8) pe_bl rfl)
      (pss_cons (ps_expr (pe_bm PySem.F.plainAttrs_list PySem.F.slot_list_append PySem.F.type_list_append mt_append (pv 6) (pa_cons (pe_tup (pa_cons (pe_meth (pv 0) T.cl_Mesh T.me_Meshafter G_Meshafter (hr.mono (by decide)) T.b_Meshafter .nil passL (pa_cons (pv 7) pa_nil)) (pa_cons (pe_meth (pv 1) T.cl_Mesh T.me_Meshafter G_Meshafter (hr.mono (by decide)) T.b_Meshafter .nil passL (pa_cons (pv 8) pa_nil)) pa_nil))) pa_nil)))
      (pss_one (ps_expr (pe_bm PySem.F.plainAttrs_list PySem.F.slot_list_append PySem.F.type_list_append mt_append (pv 6) (pa_cons (pe_tup (pa_cons (pe_meth (pv 0) T.cl_Mesh T.me_Meshtwin G_Meshtwin (hr.mono (by decide)) T.b_Meshtwin .nil passL (pa_cons (pv 7) pa_nil)) (pa_cons (pe_meth (pv 1) T.cl_Mesh T.me_Meshtwin G_Meshtwin (hr.mono (by decide)) T.b_Meshtwin .nil passL (pa_cons (pv 8) pa_nil)) pa_nil))) pa_nil))))))) (pss_one (ps_if (pt_cmpR op_ne (pe_bm PySem.F.plainAttrs_dict PySem.F.slot_dict_get PySem.F.type_dict_get mt_get1 (pv 4) (pa_cons (pv 7) pa_nil)) (pv 8) (nomark _)) (pss_one (ps_ret pe_non)) pss_nil))))))
      (pss_one (ps_ret (pv 4)))))))
theorem ok_place {P : Program} {w : World} {K : PySem.W.Frag} {mg : Str → Option Value} {base : Heap} (T : Tx P K mg) : FnOk P w K mg base (L2.CX P w) 3 (He.ga K "_place") T.fd_place pr_place (sp_place K) := by
  have G_spread := ok_spread (P := P) (w := w) (base := base) T
  refine T.F_place.ok sc_place ln_place (fun cdv A outer s H vs Q E hr h => ⟨t_place K, PSs.nox ?_, rd_place T.kf vs H Q E h⟩)
  exact (pss_cons (ps_if (pt_cmp (pc_din (hu1 hr) (pv 2) (pv 4)) rfl) (pss_one (ps_ret (pe_cmpR op_eq (pe_dget (hu1 hr) (pv 4) (pv 2) (fun _ _ => rfl)) (pv 3) (nomark _)))) pss_nil)
      (pss_cons (ps_if (pt_cmpR op_in_seq (pv 3) (pe_listVals rfl (pv 4) (by rfl) T.n_list (by decide +kernel)) rfl) (pss_one (ps_ret pe_bl)) pss_nil)
      (pss_cons (ps_set (i := 5) sc_place.nd rfl (Or.inl rfl) (pe_call G_spread (hr.mono (by decide)) rfl T.m_spread T.F_spread.kp T.b_spread .nil passL (pa_cons (pv 0) (pa_cons (pv 1) (pa_cons (pv 2) (pa_cons (pv 3) pa_nil))))))
      (pss_cons (ps_if (pt_cmpR op_isN (pv 5) pe_non (nomark _)) (pss_one (ps_ret pe_bl)) pss_nil)
      (pss_cons (ps_expr (pe_bm PySem.F.plainAttrs_dict PySem.F.slot_dict_update PySem.F.type_dict_update mt_update (pv 4) (pa_cons (pv 5) pa_nil)))
      (pss_one (ps_ret pe_bl)))))))
theorem ok_placesomewhere {P : Program} {w : World} {K : PySem.W.Frag} {mg : Str → Option Value} {base : Heap} (T : Tx P K mg) : FnOk P w K mg base (L2.CX P w) 4 (He.ga K "_place_somewhere") T.fd_placesomewhere pr_placesomewhere (sp_placesomewhere K) := by
  have G_Meshlen := ok_Meshlen (P := P) (w := w) (base := base) T
  have G_place := ok_place (P := P) (w := w) (base := base) T
  refine T.F_placesomewhere.ok sc_placesomewhere ln_placesomewhere (fun cdv A outer s H vs Q E hr h => ⟨t_placesomewhere K, PSs.nox ?_, rd_placesomewhere T.kf vs H Q E h⟩)
  exact (pss_cons (ps_for PassesOwn.never rfl (pi_range1 (by rfl) T.n_range (pa_cons (pe_callB (call_own_len (E := E0) G_Meshlen T.me_Meshlen.1 T.me_Meshlen.2 T.b_Meshlen passL (hr.mono (by decide))) (by rfl) T.n_len PySem.boot_len (pa_cons (pv 1) pa_nil)) pa_nil)) (pg_name (i := 4) sc_placesomewhere.nd rfl (Or.inl rfl)) (pss_one (ps_if (pt_val (pe_call G_place (hr.mono (by decide)) rfl T.m_place T.F_place.kp T.b_place .nil passL (pa_cons (pv 0) (pa_cons (pv 1) (pa_cons (pv 2) (pa_cons (pv 4) (pa_cons (pv 3) pa_nil))))))) (pss_one (ps_ret pe_bl)) pss_nil)))
      (pss_one (ps_ret pe_bl)))
theorem ok_renaming {P : Program} {w : World} {K : PySem.W.Frag} {mg : Str → Option Value} {base : Heap} (T : Tx P K mg) : FnOk P w K mg base (L2.CX P w) 5 (He.ga K "renaming") T.fd_renaming pr_renaming (sp_renaming K) := by
  have G_Meshlen := ok_Meshlen (P := P) (w := w) (base := base) T
  have G_Meshpieces := ok_Meshpieces (P := P) (w := w) (base := base) T
  have G_place := ok_place (P := P) (w := w) (base := base) T
  have G_placesomewhere := ok_placesomewhere (P := P) (w := w) (base := base) T
  refine T.F_renaming.ok sc_renaming ln_renaming (fun cdv A outer s H vs Q E hr h => ⟨t_renaming K, PSs.nox ?_, rd_renaming T.kf vs H Q E h⟩)
  exact (pss_cons (ps_if (pt_cmpR op_ne (pe_callB (call_own_len (E := E0) G_Meshlen T.me_Meshlen.1 T.me_Meshlen.2 T.b_Meshlen passL (hr.mono (by decide))) (by rfl) T.n_len PySem.boot_len (pa_cons (pv 0) pa_nil)) (pe_callB (call_own_len (E := E0) G_Meshlen T.me_Meshlen.1 T.me_Meshlen.2 T.b_Meshlen passL (hr.mono (by decide))) (by rfl) T.n_len PySem.boot_len (pa_cons (pv 1) pa_nil)) (nomark _)) (pss_one (ps_ret pe_non)) pss_nil)
      (pss_cons (ps_set (i := 3) sc_renaming.nd rfl (Or.inl rfl) pe_dnewK)
      (pss_cons (ps_for PassesOwn.never rfl (pi_list (pv 2)) (pg_tup (by rfl) (pgs_cons (pg_name (i := 4) sc_renaming.nd rfl (Or.inl rfl)) (pgs_cons (pg_name (i := 5) sc_renaming.nd rfl (Or.inl rfl)) pgs_nil))) (pss_one (ps_if (pt_not (pt_val (pe_call G_place (hr.mono (by decide)) rfl T.m_place T.F_place.kp T.b_place .nil passL (pa_cons (pv 0) (pa_cons (pv 1) (pa_cons (pv 4) (pa_cons (pv 5) (pa_cons (pv 3) pa_nil)))))))) (pss_one (ps_ret pe_non)) pss_nil)))
      (pss_cons (ps_for PassesOwn.never rfl (pi_list (pe_meth0 (pv 0) T.cl_Mesh T.me_Meshpieces G_Meshpieces (hr.mono (by decide)) T.b_Meshpieces .nil passL)) (pg_name (i := 6) sc_renaming.nd rfl (Or.inl rfl)) (pss_one (ps_if (PW.pt (pw_and (pt_cmp (pc_dnotin (hu1 hr) (pe_ix ix_list (pv 6) pe_int (fun _ _ => rfl)) (pv 3)) rfl) (pw_and1 (pt_not (pt_val (pe_call G_placesomewhere (hr.mono (by decide)) rfl T.m_placesomewhere T.F_placesomewhere.kp T.b_placesomewhere .nil passL (pa_cons (pv 0) (pa_cons (pv 1) (pa_cons (pe_ix ix_list (pv 6) pe_int (fun _ _ => rfl)) (pa_cons (pv 3) pa_nil)))))))))) (pss_one (ps_ret pe_non)) pss_nil)))
      (pss_one (ps_ret (pv 3)))))))
theorem ok_Ltape {P : Program} {w : World} {K : PySem.W.Frag} {mg : Str → Option Value} {base : Heap} (T : Tx P K mg) : FnOk P w K mg base (L2.CX P w) 1 (He.ga K "_law_tape") T.fd_Ltape pr_Ltape (sp_Ltape K) := by
  refine T.F_Ltape.ok sc_Ltape ln_Ltape (fun cdv A outer s H vs Q E hr h => ⟨t_Ltape K, PSs.nox ?_, rd_Ltape T.kf vs H Q E h⟩)
  exact (pss_cons (ps_set (i := 2) sc_Ltape.nd rfl (Or.inl rfl) pe_int)
      (pss_cons (ps_if (pt_cmpR (op_neD hr.units) (pv 0) (pe_lst pa_nil) (nomark _)) (pss_one (ps_set (i := 2) sc_Ltape.nd rfl (Or.inl rfl) (pe_ix ix_list (pv 0) (pe_op op_modN (pe_callTy call_int1 (by rfl) T.n_int (by decide +kernel) (pa_cons (pv 1) pa_nil)) (pe_callB call_len_seq (by rfl) T.n_len PySem.boot_len (pa_cons (pv 0) pa_nil))) (fun _ _ => rfl)))) pss_nil)
      (pss_one (ps_ret (pe_lst (pa_cons (pe_callB call_abs (by rfl) T.n_abs (by decide +kernel) (pa_cons (pv 2) pa_nil)) (pa_cons (pe_op op_add (pe_op op_mul pe_int (pv 1)) pe_int) pa_nil)))))))
theorem ok_Lpick {P : Program} {w : World} {K : PySem.W.Frag} {mg : Str → Option Value} {base : Heap} (T : Tx P K mg) : FnOk P w K mg base (L2.CX P w) 1 (He.ga K "_law_pick") T.fd_Lpick pr_Lpick (sp_Lpick K) := by
  refine T.F_Lpick.ok sc_Lpick ln_Lpick (fun cdv A outer s H vs Q E hr h => ⟨t_Lpick K, PSs.nox ?_, rd_Lpick T.kf vs H Q E h⟩)
  exact (pss_cons (ps_if (pt_cmpR op_ge (pe_ix ix_list (pv 0) pe_int (fun _ _ => rfl)) (pe_op op_pow pe_int pe_int) (nomark _)) (pss_cons (ps_set (i := 2) sc_Lpick.nd rfl (Or.inl rfl) (pe_op op_modN (pe_callTy call_int1 (by rfl) T.n_int (by decide +kernel) (pa_cons (pe_ix ix_list (pv 0) pe_int (fun _ _ => rfl)) pa_nil)) (pv 1)))
      (pss_cons (ps_asg (pe_op op_fdivN (pe_ix ix_list (pv 0) pe_int (fun _ _ => rfl)) (pv 1)) (pg_sub (pv 0) pe_int set_list))
      (pss_one (ps_ret (pv 2))))) pss_nil)
      (pss_cons (ps_asg (pe_op op_modN (pe_callTy call_int1 (by rfl) T.n_int (by decide +kernel) (pa_cons (pe_op op_add (pe_op op_add (pe_op op_mul (pe_ix ix_list (pv 0) pe_int (fun _ _ => rfl)) pe_int) (pe_op op_mul (pe_ix ix_list (pv 0) pe_int (fun _ _ => rfl)) pe_int)) pe_int) pa_nil)) pe_int) (pg_sub (pv 0) pe_int set_list))
      (pss_cons (ps_set (i := 3) sc_Lpick.nd rfl (Or.inl rfl) (pe_op op_modN (pe_callTy call_int1 (by rfl) T.n_int (by decide +kernel) (pa_cons (pe_op op_add (pe_op op_add (pe_op op_mul (pe_ix ix_list (pv 0) pe_int (fun _ _ => rfl)) (pe_ix ix_list (pv 0) pe_int (fun _ _ => rfl))) (pe_op op_mul (pe_ix ix_list (pv 0) pe_int (fun _ _ => rfl)) pe_int)) pe_int) pa_nil)) pe_int))
      (pss_one (ps_ret (pe_op op_modN (pe_callTy call_int1 (by rfl) T.n_int (by decide +kernel) (pa_cons (pe_op op_fdivN (pv 3) pe_int) pa_nil)) (pv 1)))))))
theorem ok_Lnexts {P : Program} {w : World} {K : PySem.W.Frag} {mg : Str → Option Value} {base : Heap} (T : Tx P K mg) : FnOk P w K mg base (L2.CX P w) 2 (He.ga K "_law_nexts") T.fd_Lnexts pr_Lnexts (sp_Lnexts K) := by
  have G_Lpick := ok_Lpick (P := P) (w := w) (base := base) T
  refine T.F_Lnexts.ok sc_Lnexts ln_Lnexts (fun cdv A outer s H vs Q E hr h => ⟨t_Lnexts K, PSs.nox ?_, rd_Lnexts T.kf vs H Q E h⟩)
  exact (pss_cons (ps_setLc (i := 3) (own := [("_law_k", 2)]) (g := gName 2) (tt := tYes) rfl sc_Lnexts.nd rfl rfl (sw_true rfl rfl rfl (by decide +kernel)) (pi_range1 (by rfl) T.n_range (pa_cons (pe_op op_mul pe_int (pv 1)) pa_nil)) (blkOk_by (own := [("_law_k", 2)]) (N := nm_Lnexts) (sc := defScope s_Lnexts) (by decide +kernel)) (fun _ _ _ _ _ => (pg_name (i := 2) sc_Lnexts.nd rfl (by first | exact Or.inl rfl | exact Or.inr rfl))) (fun _ _ _ _ _ => pts_nil) (fun _ _ _ _ _ => (pv 2)))
      (pss_cons (ps_set (i := 4) sc_Lnexts.nd rfl (Or.inl rfl) (pe_lst pa_nil))
      (pss_cons (ps_for PassesOwn.never rfl (pi_range1 (by rfl) T.n_range (pa_cons (pe_op op_mul pe_int (pv 1)) pa_nil)) (pg_name (i := 2) sc_Lnexts.nd rfl (Or.inl rfl)) (pss_cons (ps_set (i := 5) sc_Lnexts.nd rfl (Or.inl rfl) (pe_call G_Lpick (hr.mono (by decide)) rfl T.m_Lpick T.F_Lpick.kp T.b_Lpick .nil passL (pa_cons (pv 0) (pa_cons (pe_callB call_len_seq (by rfl) T.n_len PySem.boot_len (pa_cons (pv 3) pa_nil)) pa_nil))))
      (pss_cons (ps_expr (pe_bm PySem.F.plainAttrs_list PySem.F.slot_list_append PySem.F.type_list_append mt_append (pv 4) (pa_cons (pe_ix ix_list (pv 3) (pv 5) (fun _ _ => rfl)) pa_nil)))
      (pss_one (ps_set (i := 3) sc_Lnexts.nd rfl (Or.inl rfl) (pe_op op_cat (pe_slice sl_list (pv 3) po_none (po_some (pv 5))) (pe_slice sl_list (pv 3) (po_some (pe_op op_add (pv 5) pe_int)) po_none)))))))
      (pss_one (ps_ret (pv 4))))))
theorem ok_Lsize {P : Program} {w : World} {K : PySem.W.Frag} {mg : Str → Option Value} {base : Heap} (T : Tx P K mg) : FnOk P w K mg base (L2.CX P w) 2 (He.ga K "_law_size") T.fd_Lsize pr_Lsize (sp_Lsize K) := by
  have G_Lpick := ok_Lpick (P := P) (w := w) (base := base) T
  refine T.F_Lsize.ok sc_Lsize ln_Lsize (fun cdv A outer s H vs Q E hr h => ⟨t_Lsize K, PSs.nox ?_, rd_Lsize T.kf vs H Q E h⟩)
  exact (pss_cons (ps_set (i := 1) sc_Lsize.nd rfl (Or.inl rfl) (pe_call G_Lpick (hr.mono (by decide)) rfl T.m_Lpick T.F_Lpick.kp T.b_Lpick .nil passL (pa_cons (pv 0) (pa_cons pe_int pa_nil))))
      (pss_cons (ps_if (pt_cmpR op_eq (pv 1) pe_int (nomark _)) (pss_one (ps_ret pe_int)) pss_nil)
      (pss_cons (ps_if (pt_cmpR op_lt (pv 1) pe_int (nomark _)) (pss_one (ps_ret (pe_call G_Lpick (hr.mono (by decide)) rfl T.m_Lpick T.F_Lpick.kp T.b_Lpick .nil passL (pa_cons (pv 0) (pa_cons pe_int pa_nil))))) pss_nil)
      (pss_one (ps_ret (pe_call G_Lpick (hr.mono (by decide)) rfl T.m_Lpick T.F_Lpick.kp T.b_Lpick .nil passL (pa_cons (pv 0) (pa_cons pe_int pa_nil))))))))
theorem ok_Ltwin {P : Program} {w : World} {K : PySem.W.Frag} {mg : Str → Option Value} {base : Heap} (T : Tx P K mg) : FnOk P w K mg base (L2.CX P w) 1 (He.ga K "_law_twin") T.fd_Ltwin pr_Ltwin (sp_Ltwin K) := by
  refine T.F_Ltwin.ok sc_Ltwin ln_Ltwin (fun cdv A outer s H vs Q E hr h => ⟨t_Ltwin K, PSs.nox ?_, rd_Ltwin T.kf vs H Q E h⟩)
  exact (pss_one (ps_ret (pe_op op_sub (pe_op op_add (pv 0) pe_int) (pe_op op_mul pe_int (pe_op op_modN (pe_callTy call_int1 (by rfl) T.n_int (by decide +kernel) (pa_cons (pv 0) pa_nil)) pe_int)))))
theorem ok_Lpieces {P : Program} {w : World} {K : PySem.W.Frag} {mg : Str → Option Value} {base : Heap} (T : Tx P K mg) : FnOk P w K mg base (L2.CX P w) 2 (He.ga K "_law_pieces") T.fd_Lpieces pr_Lpieces (sp_Lpieces K) := by
  have G_Ltwin := ok_Ltwin (P := P) (w := w) (base := base) T
  refine T.F_Lpieces.ok sc_Lpieces ln_Lpieces (fun cdv A outer s H vs Q E hr h => ⟨t_Lpieces K, PSs.nox ?_, rd_Lpieces T.kf vs H Q E h⟩)
  exact (pss_cons (ps_set (i := 2) sc_Lpieces.nd rfl (Or.inr rfl) (pe_lc (own := [("_law_k", 1)]) (g := gName 1) (tt := tYes) rfl sc_Lpieces.nd (pi_range1 (by rfl) T.n_range (pa_cons (pe_callB call_len_seq (by rfl) T.n_len PySem.boot_len (pa_cons (pv 0) pa_nil)) pa_nil)) (blkOk_by (own := [("_law_k", 1)]) (N := nm_Lpieces) (sc := defScope s_Lpieces) (by decide +kernel)) (fun _ _ _ _ _ => (pg_name (i := 1) sc_Lpieces.nd rfl (by first | exact Or.inl rfl | exact Or.inr rfl))) (fun _ _ _ _ _ => pts_nil) (fun _ _ _ _ _ => (pv 1))))
      (pss_cons (ps_for PassesOwn.never rfl (pi_range1 (by rfl) T.n_range (pa_cons (pe_callB call_len_seq (by rfl) T.n_len PySem.boot_len (pa_cons (pv 0) pa_nil)) pa_nil)) (pg_name (i := 3) sc_Lpieces.nd rfl (Or.inl rfl)) (pss_one (ps_for PassesOwn.never rfl (pi_range1 (by rfl) T.n_range (pa_cons (pe_callB call_len_seq (by rfl) T.n_len PySem.boot_len (pa_cons (pv 0) pa_nil)) pa_nil)) (pg_name (i := 1) sc_Lpieces.nd rfl (Or.inl rfl)) (pss_cons (ps_set (i := 4) sc_Lpieces.nd rfl (Or.inl rfl) (pe_callB (call_min3Nu rfl) (by rfl) T.n_min (by decide +kernel) (pa_cons (pe_ix ix_list (pv 2) (pv 1) (fun _ _ => rfl)) (pa_cons (pe_ix ix_list (pv 2) (pe_ix ix_list (pv 0) (pv 1) (fun _ _ => rfl)) (fun _ _ => rfl)) (pa_cons (pe_ix ix_list (pv 2) (pe_call G_Ltwin (hr.mono (by decide)) rfl T.m_Ltwin T.F_Ltwin.kp T.b_Ltwin .nil passL (pa_cons (pv 1) pa_nil)) (fun _ _ => rfl)) pa_nil)))))
      (pss_cons (ps_asg (pv 4) (pg_sub (pv 2) (pv 1) set_list))
      (pss_cons (ps_asg (pv 4) (pg_sub (pv 2) (pe_ix ix_list (pv 0) (pv 1) (fun _ _ => rfl)) set_list))
      (pss_one (ps_asg (pv 4) (pg_sub (pv 2) (pe_call G_Ltwin (hr.mono (by decide)) rfl T.m_Ltwin T.F_Ltwin.kp T.b_Ltwin .nil passL (pa_cons (pv 1) pa_nil)) set_list)))))))))
      (pss_cons (ps_setLc (i := 5) (own := [("_law_k", 1)]) (g := gName 1) (tt := _) rfl sc_Lpieces.nd rfl rfl (sw_true rfl rfl rfl (by decide +kernel)) (pi_range1 (by rfl) T.n_range (pa_cons (pe_callB call_len_seq (by rfl) T.n_len PySem.boot_len (pa_cons (pv 0) pa_nil)) pa_nil)) (blkOk_by (own := [("_law_k", 1)]) (N := nm_Lpieces) (sc := defScope s_Lpieces) (by decide +kernel)) (fun _ _ _ _ _ => (pg_name (i := 1) sc_Lpieces.nd rfl (by first | exact Or.inl rfl | exact Or.inr rfl))) (fun _ _ _ _ _ => pts_one (pt_cmpR op_eq (pe_ix ix_list (pv 2) (pv 1) (fun _ _ => rfl)) (pv 1) (nomark _))) (fun _ _ _ _ _ => (pv 1)))
      (pss_one (ps_ret (pe_lc (own := [("_law_first", 6)]) (g := gName 6) (tt := tYes) rfl sc_Lpieces.nd (pi_list (pv 5)) (blkOk_by (own := [("_law_first", 6)]) (N := nm_Lpieces) (sc := defScope s_Lpieces) (by decide +kernel)) (fun _ _ _ _ _ => (pg_name (i := 6) sc_Lpieces.nd rfl (by first | exact Or.inl rfl | exact Or.inr rfl))) (fun _ _ _ _ _ => pts_nil) (fun _ _ _ _ _ => (pe_lc (own := [("_law_k", 1)]) (g := gName 1) (tt := _) rfl sc_Lpieces.nd (pi_range1 (by rfl) T.n_range (pa_cons (pe_callB call_len_seq (by rfl) T.n_len PySem.boot_len (pa_cons (pv 0) pa_nil)) pa_nil)) (blkOk_n (own := [("_law_k", 1)]) (N := nm_Lpieces) (by decide +kernel)) (fun _ _ _ _ _ => (pg_name (i := 1) sc_Lpieces.nd rfl (by first | exact Or.inl rfl | exact Or.inr rfl))) (fun _ _ _ _ _ => pts_one (pt_cmpR op_eq (pe_ix ix_list (pv 2) (pv 1) (fun _ _ => rfl)) (pv 6) (nomark _))) (fun _ _ _ _ _ => (pv 1))))))))))
theorem ok_Lmoved {P : Program} {w : World} {K : PySem.W.Frag} {mg : Str → Option Value} {base : Heap} (T : Tx P K mg) : FnOk P w K mg base (L2.CX P w) 2 (He.ga K "_law_moved") T.fd_Lmoved pr_Lmoved (sp_Lmoved K) := by
  have G_Lpick := ok_Lpick (P := P) (w := w) (base := base) T
  have G_Ltwin := ok_Ltwin (P := P) (w := w) (base := base) T
  refine T.F_Lmoved.ok sc_Lmoved ln_Lmoved (fun cdv A outer s H vs Q E hr h => ⟨t_Lmoved K, PSs.nox ?_, rd_Lmoved T.kf vs H Q E h⟩)
  exact (pss_cons (ps_setLc (i := 3) (own := [("_law_k", 2)]) (g := gName 2) (tt := tYes) rfl sc_Lmoved.nd rfl rfl (sw_true rfl rfl rfl (by decide +kernel)) (pi_range1 (by rfl) T.n_range (pa_cons (pe_op op_fdivN (pe_callB call_len_seq (by rfl) T.n_len PySem.boot_len (pa_cons (pv 1) pa_nil)) pe_int) pa_nil)) (blkOk_by (own := [("_law_k", 2)]) (N := nm_Lmoved) (sc := defScope s_Lmoved) (by decide +kernel)) (fun _ _ _ _ _ => (pg_name (i := 2) sc_Lmoved.nd rfl (by first | exact Or.inl rfl | exact Or.inr rfl))) (fun _ _ _ _ _ => pts_nil) (fun _ _ _ _ _ => (pv 2)))
      (pss_cons (ps_set (i := 4) sc_Lmoved.nd rfl (Or.inl rfl) (pe_lst pa_nil))
      (pss_cons (ps_for PassesOwn.never rfl (pi_range1 (by rfl) T.n_range (pa_cons (pe_op op_fdivN (pe_callB call_len_seq (by rfl) T.n_len PySem.boot_len (pa_cons (pv 1) pa_nil)) pe_int) pa_nil)) (pg_name (i := 2) sc_Lmoved.nd rfl (Or.inl rfl)) (pss_cons (ps_set (i := 5) sc_Lmoved.nd rfl (Or.inl rfl) (pe_call G_Lpick (hr.mono (by decide)) rfl T.m_Lpick T.F_Lpick.kp T.b_Lpick .nil passL (pa_cons (pv 0) (pa_cons (pe_callB call_len_seq (by rfl) T.n_len PySem.boot_len (pa_cons (pv 3) pa_nil)) pa_nil))))
      (pss_cons (ps_set (i := 6) sc_Lmoved.nd rfl (Or.inl rfl) (pe_op op_add (pe_op op_mul pe_int (pe_ix ix_list (pv 3) (pv 5) (fun _ _ => rfl))) (pe_call G_Lpick (hr.mono (by decide)) rfl T.m_Lpick T.F_Lpick.kp T.b_Lpick .nil passL (pa_cons (pv 0) (pa_cons pe_int pa_nil)))))
      (pss_cons (ps_set (i := 4) sc_Lmoved.nd rfl (Or.inl rfl) (pe_op op_cat (pv 4) (pe_lst (pa_cons (pv 6) (pa_cons (pe_call G_Ltwin (hr.mono (by decide)) rfl T.m_Ltwin T.F_Ltwin.kp T.b_Ltwin .nil passL (pa_cons (pv 6) pa_nil)) pa_nil)))))
      (pss_one (ps_set (i := 3) sc_Lmoved.nd rfl (Or.inl rfl) (pe_op op_cat (pe_slice sl_list (pv 3) po_none (po_some (pv 5))) (pe_slice sl_list (pv 3) (po_some (pe_op op_add (pv 5) pe_int)) po_none))))))))
      (pss_cons (ps_setLc (i := 8) (own := [("_law_half", 7)]) (g := gName 7) (tt := tYes) rfl sc_Lmoved.nd rfl rfl (sw_true rfl rfl rfl (by decide +kernel)) (pi_list (pv 1)) (blkOk_by (own := [("_law_half", 7)]) (N := nm_Lmoved) (sc := defScope s_Lmoved) (by decide +kernel)) (fun _ _ _ _ _ => (pg_name (i := 7) sc_Lmoved.nd rfl (by first | exact Or.inl rfl | exact Or.inr rfl))) (fun _ _ _ _ _ => pts_nil) (fun _ _ _ _ _ => pe_int))
      (pss_cons (ps_for PassesOwn.never rfl (pi_range1 (by rfl) T.n_range (pa_cons (pe_callB call_len_seq (by rfl) T.n_len PySem.boot_len (pa_cons (pv 1) pa_nil)) pa_nil)) (pg_name (i := 7) sc_Lmoved.nd rfl (Or.inl rfl)) (pss_one (ps_asg (pe_ix ix_list (pv 4) (pe_ix ix_list (pv 1) (pv 7) (fun _ _ => rfl)) (fun _ _ => rfl)) (pg_sub (pv 8) (pe_ix ix_list (pv 4) (pv 7) (fun _ _ => rfl)) set_list))))
      (pss_one (ps_ret (pe_lst (pa_cons (pv 4) (pa_cons (pv 8) pa_nil))))))))))
theorem ok_Lspread {P : Program} {w : World} {K : PySem.W.Frag} {mg : Str → Option Value} {base : Heap} (T : Tx P K mg) : FnOk P w K mg base (L2.CX P w) 2 (He.ga K "_law_spread") T.fd_Lspread pr_Lspread (sp_Lspread K) := by
  have G_Ltwin := ok_Ltwin (P := P) (w := w) (base := base) T
  refine T.F_Lspread.ok sc_Lspread ln_Lspread (fun cdv A outer s H vs Q E hr h => ⟨t_Lspread K, PSs.nox ?_, rd_Lspread T.kf vs H Q E h⟩)
  exact (pss_cons (ps_set (i := 4) sc_Lspread.nd rfl (Or.inl rfl) (pe_lst (pa_cons (pe_lst (pa_cons (pv 2) (pa_cons (pv 3) pa_nil))) pa_nil)))
      (pss_cons (ps_set (i := 5) sc_Lspread.nd rfl (Or.inl rfl) pe_int)
      (pss_cons (ps_while PassesOwn.never (PW.pt (pw_and (pt_cmpR op_lt (pv 5) (pe_callB call_len_seq (by rfl) T.n_len PySem.boot_len (pa_cons (pv 4) pa_nil)) (nomark _)) (pw_and1 (pt_cmpR op_le (pv 5) (pe_callB call_len_seq (by rfl) T.n_len PySem.boot_len (pa_cons (pv 0) pa_nil)) (nomark _))))) (pss_cons (ps_asg (pe_ix ix_list (pv 4) (pv 5) (fun _ _ => rfl)) (pg_lst (by rfl) (pgs_cons (pg_name (i := 6) sc_Lspread.nd rfl (Or.inl rfl)) (pgs_cons (pg_name (i := 7) sc_Lspread.nd rfl (Or.inl rfl)) pgs_nil))))
      (pss_cons (ps_for PassesOwn.never rfl (pi_list (pe_lst (pa_cons (pe_lst (pa_cons (pe_call G_Ltwin (hr.mono (by decide)) rfl T.m_Ltwin T.F_Ltwin.kp T.b_Ltwin .nil passL (pa_cons (pv 6) pa_nil)) (pa_cons (pe_call G_Ltwin (hr.mono (by decide)) rfl T.m_Ltwin T.F_Ltwin.kp T.b_Ltwin .nil passL (pa_cons (pv 7) pa_nil)) pa_nil))) (pa_cons (pe_lst (pa_cons (pe_ix ix_list (pv 0) (pv 6) (fun _ _ => rfl)) (pa_cons (pe_ix ix_list (pv 1) (pv 7) (fun _ _ => rfl)) pa_nil))) pa_nil)))) (pg_name (i := 8) sc_Lspread.nd rfl (Or.inr rfl)) (pss_cons (ps_setLc (i := 9) (own := [("_law_entry", 10)]) (g := gName 10) (tt := _) rfl sc_Lspread.nd rfl rfl (sw_true rfl rfl rfl (by decide +kernel)) (pi_list (pv 4)) (blkOk_by (own := [("_law_entry", 10)]) (N := nm_Lspread) (sc := defScope s_Lspread) (by decide +kernel)) (fun _ _ _ _ _ => (pg_name (i := 10) sc_Lspread.nd rfl (by first | exact Or.inl rfl | exact Or.inr rfl))) (fun _ _ _ _ _ => pts_one (PW.pt (pw_or (pt_cmpR op_eq (pe_ix ix_list (pv 10) pe_int (fun _ _ => rfl)) (pe_ix ix_list (pv 8) pe_int (fun _ _ => rfl)) (nomark _)) (pw_or1 (pt_cmpR op_eq (pe_ix ix_list (pv 10) pe_int (fun _ _ => rfl)) (pe_ix ix_list (pv 8) pe_int (fun _ _ => rfl)) (nomark _)))))) (fun _ _ _ _ _ => (pv 10)))
      (pss_one (ps_if (pt_cmpR (op_eqD hr.units) (pv 9) (pe_lst pa_nil) (nomark _)) (pss_one (ps_expr (pe_bm PySem.F.plainAttrs_list PySem.F.slot_list_append PySem.F.type_list_append mt_append (pv 4) (pa_cons (pv 8) pa_nil)))) (pss_one (ps_if (pt_cmpR (op_neD hr.units) (pv 9) (pe_lst (pa_cons (pv 8) pa_nil)) (nomark _)) (pss_one (ps_ret pe_non)) pss_nil))))))
      (pss_one (ps_set (i := 5) sc_Lspread.nd rfl (Or.inl rfl) (pe_op op_add (pv 5) pe_int))))))
      (pss_one (ps_ret (pv 4))))))
theorem ok_Limage {P : Program} {w : World} {K : PySem.W.Frag} {mg : Str → Option Value} {base : Heap} (T : Tx P K mg) : FnOk P w K mg base (L2.CX P w) 3 (He.ga K "_law_image") T.fd_Limage pr_Limage (sp_Limage K) := by
  have G_Lspread := ok_Lspread (P := P) (w := w) (base := base) T
  refine T.F_Limage.ok sc_Limage ln_Limage (fun cdv A outer s H vs Q E hr h => ⟨t_Limage K, PSs.nox ?_, rd_Limage T.kf vs H Q E h⟩)
  exact (pss_cons (ps_for PassesOwn.never rfl (pi_range1 (by rfl) T.n_range (pa_cons (pe_callB call_len_seq (by rfl) T.n_len PySem.boot_len (pa_cons (pv 1) pa_nil)) pa_nil)) (pg_name (i := 5) sc_Limage.nd rfl (Or.inl rfl)) (pss_cons (ps_set (i := 6) sc_Limage.nd rfl (Or.inl rfl) (pe_call G_Lspread (hr.mono (by decide)) rfl T.m_Lspread T.F_Lspread.kp T.b_Lspread .nil passL (pa_cons (pv 0) (pa_cons (pv 1) (pa_cons (pe_ix ix_list (pv 2) pe_int (fun _ _ => rfl)) (pa_cons (pv 5) pa_nil))))))
      (pss_one (ps_if (PW.pt (pw_and (pt_cmpR op_notN (pv 6) pe_non (nomark _)) (pw_and1 (pt_cmpR op_eq (pe_callB call_len_seq (by rfl) T.n_len PySem.boot_len (pa_cons (pv 6) pa_nil)) (pe_callB call_len_seq (by rfl) T.n_len PySem.boot_len (pa_cons (pv 2) pa_nil)) (nomark _))))) (pss_cons (ps_set (i := 7) sc_Limage.nd rfl (Or.inl rfl) pe_bl)
      (pss_cons (ps_for PassesOwn.never rfl (pi_list (pv 6)) (pg_name (i := 8) sc_Limage.nd rfl (Or.inl rfl)) (pss_cons (ps_if (pt_cmpR op_in_seq (pe_ix ix_list (pv 8) pe_int (fun _ _ => rfl)) (pv 4) rfl) (pss_one (ps_set (i := 7) sc_Limage.nd rfl (Or.inl rfl) pe_bl)) pss_nil)
      (pss_one (ps_for PassesOwn.never rfl (pi_list (pv 3)) (pg_name (i := 9) sc_Limage.nd rfl (Or.inl rfl)) (pss_one (ps_if (PW.pt (pw_and (pt_cmpR op_eq (pe_ix ix_tup (pv 9) pe_int (fun _ _ => rfl)) (pe_ix ix_list (pv 8) pe_int (fun _ _ => rfl)) (nomark _)) (pw_and1 (pt_cmpR op_ne (pe_ix ix_tup (pv 9) pe_int (fun _ _ => rfl)) (pe_ix ix_list (pv 8) pe_int (fun _ _ => rfl)) (nomark _))))) (pss_one (ps_set (i := 7) sc_Limage.nd rfl (Or.inl rfl) pe_bl)) pss_nil))))))
      (pss_one (ps_if (pt_val (pv 7)) (pss_one (ps_ret (pe_lc (own := [("_law_pair", 8)]) (g := gName 8) (tt := tYes) rfl sc_Limage.nd (pi_list (pv 6)) (blkOk_by (own := [("_law_pair", 8)]) (N := nm_Limage) (sc := defScope s_Limage) (by decide +kernel)) (fun _ _ _ _ _ => (pg_name (i := 8) sc_Limage.nd rfl (by first | exact Or.inl rfl | exact Or.inr rfl))) (fun _ _ _ _ _ => pts_nil) (fun _ _ _ _ _ => (pe_ix ix_list (pv 8) pe_int (fun _ _ => rfl)))))) pss_nil)))) pss_nil))))
      (pss_one (ps_ret pe_non)))
theorem ok_Lpossible {P : Program} {w : World} {K : PySem.W.Frag} {mg : Str → Option Value} {base : Heap} (T : Tx P K mg) : FnOk P w K mg base (L2.CX P w) 4 (He.ga K "_law_possible") T.fd_Lpossible pr_Lpossible (sp_Lpossible K) := by
  have G_Limage := ok_Limage (P := P) (w := w) (base := base) T
  have G_Lpieces := ok_Lpieces (P := P) (w := w) (base := base) T
  refine T.F_Lpossible.ok sc_Lpossible ln_Lpossible (fun cdv A outer s H vs Q E hr h => ⟨t_Lpossible K, PSs.nox ?_, rd_Lpossible T.kf vs H Q E h⟩)
  exact (pss_cons (ps_if (pt_cmpR op_ne (pe_callB call_len_seq (by rfl) T.n_len PySem.boot_len (pa_cons (pv 0) pa_nil)) (pe_callB call_len_seq (by rfl) T.n_len PySem.boot_len (pa_cons (pv 1) pa_nil)) (nomark _)) (pss_one (ps_ret pe_bl)) pss_nil)
      (pss_cons (ps_set (i := 3) sc_Lpossible.nd rfl (Or.inl rfl) (pe_lst pa_nil))
      (pss_cons (ps_set (i := 4) sc_Lpossible.nd rfl (Or.inl rfl) (pe_call G_Lpieces (hr.mono (by decide)) rfl T.m_Lpieces T.F_Lpieces.kp T.b_Lpieces .nil passL (pa_cons (pv 0) pa_nil)))
      (pss_cons (ps_set (i := 6) sc_Lpossible.nd rfl (Or.inr rfl) (pe_lc (own := [("_law_members", 5)]) (g := gName 5) (tt := _) rfl sc_Lpossible.nd (pi_list (pv 4)) (blkOk_by (own := [("_law_members", 5)]) (N := nm_Lpossible) (sc := defScope s_Lpossible) (by decide +kernel)) (fun _ _ _ _ _ => (pg_name (i := 5) sc_Lpossible.nd rfl (by first | exact Or.inl rfl | exact Or.inr rfl))) (fun _ _ _ _ _ => pts_one (pt_cmpR (op_neD hr.units) (pe_lc (own := [("_law_pair", 8)]) (g := gName 8) (tt := _) rfl sc_Lpossible.nd (pi_list (pv 2)) (blkOk_n (own := [("_law_pair", 8)]) (N := nm_Lpossible) (by decide +kernel)) (fun _ _ _ _ _ => (pg_name (i := 8) sc_Lpossible.nd rfl (by first | exact Or.inl rfl | exact Or.inr rfl))) (fun _ _ _ _ _ => pts_one (pt_cmpR op_in_seq (pe_ix ix_tup (pv 8) pe_int (fun _ _ => rfl)) (pv 5) rfl)) (fun _ _ _ _ _ => (pv 8))) (pe_lst pa_nil) (nomark _))) (fun _ _ _ _ _ => (pv 5))))
      (pss_cons (ps_for PassesOwn.never rfl (pi_list (pe_op op_cat (pv 6) (pe_lc (own := [("_law_members", 5)]) (g := gName 5) (tt := _) rfl sc_Lpossible.nd (pi_list (pv 4)) (blkOk_by (own := [("_law_members", 5)]) (N := nm_Lpossible) (sc := defScope s_Lpossible) (by decide +kernel)) (fun _ _ _ _ _ => (pg_name (i := 5) sc_Lpossible.nd rfl (by first | exact Or.inl rfl | exact Or.inr rfl))) (fun _ _ _ _ _ => pts_one (pt_cmpR (op_notInD (hu65 hr)) (pv 5) (pv 6) rfl)) (fun _ _ _ _ _ => (pv 5))))) (pg_name (i := 5) sc_Lpossible.nd rfl (Or.inl rfl)) (pss_cons (ps_set (i := 7) sc_Lpossible.nd rfl (Or.inl rfl) (pe_call G_Limage (hr.mono (by decide)) rfl T.m_Limage T.F_Limage.kp T.b_Limage .nil passL (pa_cons (pv 0) (pa_cons (pv 1) (pa_cons (pv 5) (pa_cons (pv 2) (pa_cons (pv 3) pa_nil)))))))
      (pss_cons (ps_if (pt_cmpR op_isN (pv 7) pe_non (nomark _)) (pss_one (ps_ret pe_bl)) pss_nil)
      (pss_one (ps_set (i := 3) sc_Lpossible.nd rfl (Or.inl rfl) (pe_op op_cat (pv 3) (pv 7)))))))
      (pss_one (ps_ret pe_bl)))))))
theorem ok_Lright {P : Program} {w : World} {K : PySem.W.Frag} {mg : Str → Option Value} {base : Heap} (T : Tx P K mg) : FnOk P w K mg base (L2.CX P w) 2 (He.ga K "_law_right") T.fd_Lright pr_Lright (sp_Lright K) := by
  have G_Ltwin := ok_Ltwin (P := P) (w := w) (base := base) T
  refine T.F_Lright.ok sc_Lright ln_Lright (fun cdv A outer s H vs Q E hr h => ⟨t_Lright K, PSs.nox ?_, rd_Lright T.kf vs H Q E h⟩)
  exact (pss_cons (ps_if (PW.pt (pw_or (pt_not (pt_val (pe_callB call_isi (by rfl) T.n_isinstance (by decide +kernel) (pa_cons (pv 0) (pa_cons (pe_bltn (v := .ty "dict") rfl T.n_dict (by decide +kernel) rfl) pa_nil))))) (pw_or1 (pt_cmpR op_ne (pe_callB call_lenD (by rfl) T.n_len PySem.boot_len (pa_cons (pv 0) pa_nil)) (pe_callB call_len_seq (by rfl) T.n_len PySem.boot_len (pa_cons (pv 1) pa_nil)) (nomark _))))) (pss_one (ps_ret pe_bl)) pss_nil)
      (pss_cons (ps_set (i := 4) sc_Lright.nd rfl (Or.inl rfl) (pe_lst pa_nil))
      (pss_cons (ps_for PassesOwn.never rfl (pi_range1 (by rfl) T.n_range (pa_cons (pe_callB call_len_seq (by rfl) T.n_len PySem.boot_len (pa_cons (pv 1) pa_nil)) pa_nil)) (pg_name (i := 5) sc_Lright.nd rfl (Or.inl rfl)) (pss_cons (ps_set (i := 6) sc_Lright.nd rfl (Or.inl rfl) (pe_bm PySem.F.plainAttrs_dict PySem.F.slot_dict_get PySem.F.type_dict_get mt_get2 (pv 0) (pa_cons (pv 5) (pa_cons (pe_un un_neg pe_int) pa_nil))))
      (pss_cons (ps_if (PW.pt (pw_or (pt_not (pt_chain op_le op_lt pe_int (pv 6) (pe_callB call_len_seq (by rfl) T.n_len PySem.boot_len (pa_cons (pv 2) pa_nil)))) (pw_or1 (pt_cmpR op_in_seq (pv 6) (pv 4) rfl)))) (pss_one (ps_ret pe_bl)) pss_nil)
      (pss_cons (ps_expr (pe_bm PySem.F.plainAttrs_list PySem.F.slot_list_append PySem.F.type_list_append mt_append (pv 4) (pa_cons (pv 6) pa_nil)))
      (pss_one (ps_if (PW.pt (pw_or (pt_cmpR op_ne (pe_bm PySem.F.plainAttrs_dict PySem.F.slot_dict_get PySem.F.type_dict_get mt_get2 (pv 0) (pa_cons (pe_call G_Ltwin (hr.mono (by decide)) rfl T.m_Ltwin T.F_Ltwin.kp T.b_Ltwin .nil passL (pa_cons (pv 5) pa_nil)) (pa_cons (pe_un un_neg pe_int) pa_nil))) (pe_call G_Ltwin (hr.mono (by decide)) rfl T.m_Ltwin T.F_Ltwin.kp T.b_Ltwin .nil passL (pa_cons (pv 6) pa_nil)) (nomark _)) (pw_or1 (pt_cmpR op_ne (pe_bm PySem.F.plainAttrs_dict PySem.F.slot_dict_get PySem.F.type_dict_get mt_get2 (pv 0) (pa_cons (pe_ix ix_list (pv 1) (pv 5) (fun _ _ => rfl)) (pa_cons (pe_un un_neg pe_int) pa_nil))) (pe_ix ix_list (pv 2) (pv 6) (fun _ _ => rfl)) (nomark _))))) (pss_one (ps_ret pe_bl)) pss_nil))))))
      (pss_cons (ps_for PassesOwn.never rfl (pi_list (pv 3)) (pg_name (i := 7) sc_Lright.nd rfl (Or.inl rfl)) (pss_one (ps_if (pt_cmpR op_ne (pe_dget (hu1 hr) (pv 0) (pe_ix ix_tup (pv 7) pe_int (fun _ _ => rfl)) (fun _ _ => rfl)) (pe_ix ix_tup (pv 7) pe_int (fun _ _ => rfl)) (nomark _)) (pss_one (ps_ret pe_bl)) pss_nil)))
      (pss_one (ps_ret pe_bl))))))
theorem ok_law {P : Program} {w : World} {K : PySem.W.Frag} {mg : Str → Option Value} {base : Heap} (T : Tx P K mg) : FnOk P w K mg base CX0 6 (He.ga K "law") T.fd_law pr_law (sp_law K) := by
  have G_Meshinit := ok_Meshinit (P := P) (w := w) (base := base) T
  have G_Lmoved := ok_Lmoved (P := P) (w := w) (base := base) T
  have G_Lnexts := ok_Lnexts (P := P) (w := w) (base := base) T
  have G_Lpick := ok_Lpick (P := P) (w := w) (base := base) T
  have G_Lpossible := ok_Lpossible (P := P) (w := w) (base := base) T
  have G_Lright := ok_Lright (P := P) (w := w) (base := base) T
  have G_Lsize := ok_Lsize (P := P) (w := w) (base := base) T
  have G_Ltape := ok_Ltape (P := P) (w := w) (base := base) T
  have G_renaming := ok_renaming (P := P) (w := w) (base := base) T
  refine T.F_law.ok sc_law ln_law (fun cdv A outer s H vs Q E hr h => ⟨t_law K, PSs.nox ?_, rd_law T.kf vs H Q E h⟩)
  exact (pss_cons (ps_set (i := 1) sc_law.nd rfl (Or.inl rfl) (pe_call G_Ltape (hr.mono (by decide)) rfl T.m_Ltape T.F_Ltape.kp T.b_Ltape .nil passL (pa_cons (pv 0) (pa_cons pe_int pa_nil))))
      (pss_cons (ps_set (i := 2) sc_law.nd rfl (Or.inl rfl) (pe_call G_Lsize (hr.mono (by decide)) rfl T.m_Lsize T.F_Lsize.kp T.b_Lsize .nil passL (pa_cons (pv 1) pa_nil)))
      (pss_cons (ps_if (pt_cmpR op_gt (pv 2) pe_int (nomark _)) (pss_one (ps_set (i := 2) sc_law.nd rfl (Or.inl rfl) pe_int)) pss_nil)
      (pss_cons (ps_set (i := 3) sc_law.nd rfl (Or.inl rfl) (pe_call G_Lpick (hr.mono (by decide)) rfl T.m_Lpick T.F_Lpick.kp T.b_Lpick .nil passL (pa_cons (pv 1) (pa_cons pe_int pa_nil))))
      (pss_cons (ps_set (i := 4) sc_law.nd rfl (Or.inl rfl) (pe_call G_Lnexts (hr.mono (by decide)) rfl T.m_Lnexts T.F_Lnexts.kp T.b_Lnexts .nil passL (pa_cons (pe_call G_Ltape (hr.mono (by decide)) rfl T.m_Ltape T.F_Ltape.kp T.b_Ltape .nil passL (pa_cons (pv 0) (pa_cons pe_int pa_nil))) (pa_cons (pv 2) pa_nil))))
      (pss_cons (ps_set (i := 1) sc_law.nd rfl (Or.inl rfl) (pe_call G_Ltape (hr.mono (by decide)) rfl T.m_Ltape T.F_Ltape.kp T.b_Ltape .nil passL (pa_cons (pv 0) (pa_cons pe_int pa_nil))))
      (pss_cons (ps_asg (pe_call G_Lmoved (hr.mono (by decide)) rfl T.m_Lmoved T.F_Lmoved.kp T.b_Lmoved .nil passL (pa_cons (pv 1) (pa_cons (pv 4) pa_nil))) (pg_lst (by rfl) (pgs_cons (pg_name (i := 5) sc_law.nd rfl (Or.inl rfl)) (pgs_cons (pg_name (i := 6) sc_law.nd rfl (Or.inl rfl)) pgs_nil))))
      (pss_cons (ps_set (i := 7) sc_law.nd rfl (Or.inl rfl) (pe_lst pa_nil))
      (pss_cons (ps_for PassesOwn.never rfl (pi_range1 (by rfl) T.n_range (pa_cons (pe_call G_Lpick (hr.mono (by decide)) rfl T.m_Lpick T.F_Lpick.kp T.b_Lpick .nil passL (pa_cons (pv 1) (pa_cons pe_int pa_nil))) pa_nil)) (pg_name (i := 8) sc_law.nd rfl (Or.inl rfl)) (pss_one (ps_if (pt_cmpR op_gt (pv 2) pe_int (nomark _)) (pss_cons (ps_set (i := 9) sc_law.nd rfl (Or.inl rfl) (pe_call G_Lpick (hr.mono (by decide)) rfl T.m_Lpick T.F_Lpick.kp T.b_Lpick .nil passL (pa_cons (pv 1) (pa_cons (pe_op op_mul pe_int (pv 2)) pa_nil))))
      (pss_one (ps_expr (pe_bm PySem.F.plainAttrs_list PySem.F.slot_list_append PySem.F.type_list_append mt_append (pv 7) (pa_cons (pe_tup (pa_cons (pv 9) (pa_cons (pe_ifExp (pt_cmpR op_gt (pe_call G_Lpick (hr.mono (by decide)) rfl T.m_Lpick T.F_Lpick.kp T.b_Lpick .nil passL (pa_cons (pv 1) (pa_cons pe_int pa_nil))) pe_int (nomark _)) (pe_ix ix_list (pv 5) (pv 9) (fun _ _ => rfl)) (pe_call G_Lpick (hr.mono (by decide)) rfl T.m_Lpick T.F_Lpick.kp T.b_Lpick .nil passL (pa_cons (pv 1) (pa_cons (pe_op op_mul pe_int (pv 2)) pa_nil)))) pa_nil))) pa_nil))))) pss_nil)))
      (pss_cons (ps_if (PW.pt (pw_and (pt_cmpR op_lt (pv 3) pe_int (nomark _)) (pw_and1 (pt_cmpR op_gt (pv 2) pe_int (nomark _))))) (pss_cons (ps_set (i := 10) sc_law.nd rfl (Or.inl rfl) (pe_call G_Lpick (hr.mono (by decide)) rfl T.m_Lpick T.F_Lpick.kp T.b_Lpick .nil passL (pa_cons (pv 1) (pa_cons (pe_op op_mul pe_int (pv 2)) pa_nil))))
      (pss_cons (ps_set (i := 11) sc_law.nd rfl (Or.inl rfl) (pe_call G_Lpick (hr.mono (by decide)) rfl T.m_Lpick T.F_Lpick.kp T.b_Lpick .nil passL (pa_cons (pv 1) (pa_cons (pe_op op_mul pe_int (pv 2)) pa_nil))))
      (pss_cons (ps_set (i := 12) sc_law.nd rfl (Or.inl rfl) (pe_ix ix_list (pv 6) (pv 10) (fun _ _ => rfl)))
      (pss_cons (ps_asg (pe_ix ix_list (pv 6) (pv 11) (fun _ _ => rfl)) (pg_sub (pv 6) (pv 10) set_list))
      (pss_one (ps_asg (pv 12) (pg_sub (pv 6) (pv 11) set_list))))))) pss_nil)
      (pss_cons (ps_if (pt_cmpR op_eq (pv 3) pe_int (nomark _)) (pss_one (ps_set (i := 6) sc_law.nd rfl (Or.inl rfl) (pe_op op_cat (pv 6) (pe_lst (pa_cons (pe_op op_add (pe_callB call_len_seq (by rfl) T.n_len PySem.boot_len (pa_cons (pv 6) pa_nil)) pe_int) (pa_cons (pe_callB call_len_seq (by rfl) T.n_len PySem.boot_len (pa_cons (pv 6) pa_nil)) pa_nil)))))) pss_nil)
      (pss_cons (ps_setLc (i := 13) (own := [("_law_pair", 17)]) (g := gName 17) (tt := tYes) rfl sc_law.nd rfl rfl (sw_true rfl rfl rfl (by decide +kernel)) (pi_list (pv 7)) (blkOk_by (own := [("_law_pair", 17)]) (N := nm_law) (sc := defScope s_law) (by decide +kernel)) (fun _ _ _ _ _ => (pg_name (i := 17) sc_law.nd rfl (by first | exact Or.inl rfl | exact Or.inr rfl))) (fun _ _ _ _ _ => pts_nil) (fun _ _ _ _ _ => (pv 17)))
      (pss_cons (ps_set (i := 14) sc_law.nd rfl (Or.inl rfl) (pe_make T.mk_Mesh G_Meshinit (hr.mono (by decide)) rfl T.m_Mesh T.b_Meshinit .nil passL (pa_cons (pv 4) pa_nil)))
      (pss_cons (ps_set (i := 15) sc_law.nd rfl (Or.inl rfl) (pe_make T.mk_Mesh G_Meshinit (hr.mono (by decide)) rfl T.m_Mesh T.b_Meshinit .nil passL (pa_cons (pv 6) pa_nil)))
      (pss_cons (ps_set (i := 16) sc_law.nd rfl (Or.inl rfl) (pe_call G_renaming (hr.mono (by decide)) rfl T.m_renaming T.F_renaming.kp T.b_renaming .nil passL (pa_cons (pv 14) (pa_cons (pv 15) (pa_cons (pv 13) pa_nil)))))
      (pss_cons (ps_if (PW.pt (pw_or (pt_cmpR (op_neD hr.units) (pv 13) (pv 7) (nomark _)) (pw_or1 (pt_not (pt_val (pe_call G_Lpossible (hr.mono (by decide)) rfl T.m_Lpossible T.F_Lpossible.kp T.b_Lpossible .nil passL (pa_cons (pv 4) (pa_cons (pv 6) (pa_cons (pv 7) pa_nil))))))))) (pss_one (ps_ret (pe_and (pe_cmpR (op_eqD hr.units) (pv 13) (pv 7) (nomark _)) (pe_one (pe_cmpR op_isN (pv 16) pe_non (nomark _)))))) pss_nil)
      (pss_cons (ps_if (pt_not (pt_val (pe_call G_Lright (hr.mono (by decide)) rfl T.m_Lright T.F_Lright.kp T.b_Lright .nil passL (pa_cons (pv 16) (pa_cons (pv 4) (pa_cons (pv 6) (pa_cons (pv 7) pa_nil))))))) (pss_one (ps_ret pe_bl)) pss_nil)
      (pss_cons (ps_if (pt_cmpR op_notN (pv 16) pe_non (nomark _)) (pss_one (ps_dput (hu1 hr) (pv 16) pe_int pe_int rfl)) pss_nil)
      (pss_one (ps_ret (pe_call G_Lright (hr.mono (by decide)) rfl T.m_Lright T.F_Lright.kp T.b_Lright .nil passL (pa_cons (pe_call G_renaming (hr.mono (by decide)) rfl T.m_renaming T.F_renaming.kp T.b_renaming .nil passL (pa_cons (pv 14) (pa_cons (pv 15) (pa_cons (pv 13) pa_nil)))) (pa_cons (pv 4) (pa_cons (pv 6) (pa_cons (pv 7) pa_nil)))))))))))))))))))))))))
theorem law_ok {P : Program} {w : World} {K : PySem.W.Frag} {h : Heap} {mg : Str → Option Value} {f : Addr} (X : K.In h) (G : h.Ns mainGlobals mg) (hP : PF P) (hf : mg ("law" : Str) = some (.ref f)) (c : SaysS fa fnD fx cl fileS K) :
    ∃ fd : FuncData, (∀ (s : Shared) (v : Value), BindsTo s fd ⟨[v], []⟩ [("_law_script", v)]) ∧ ∀ base : Heap, K.In base → base.Ns mainGlobals mg → FnOk P w K mg base CX0 6 f fd ["_law_script"] (sp_law K) := by
  obtain ⟨T⟩ := tx_of hP X G c
  have e : f = He.ga K "law" := by
    have q := hf.symm.trans (He.glo_ok X G (c.d.fact 45 (f := .glo "law") rfl))
    cases q
    rfl
  subst e
  have b := FunD.bindsA (ps := ["_law_script"]) T.F_law fun _ _ _ _ _ _ us hl => match us, hl with | [_], _ => rfl
  exact ⟨T.fd_law, fun s v => b s [v] rfl, fun base _ _ => ok_law T⟩
end K22
open PySem PySem.W PySem.Calls PyProof.Rows
set_option maxRecDepth 100000 in
set_option maxHeartbeats 0 in
theorem PySem.Challenge.cw_halfmeshes_k22_renamings_holds : PySem.Challenge.rw_halfmeshes_k22_renamings.Holds := by
  w_on; o_law
  refine HandSHeadRun.head_any (r := OpenLaw.row PySem.Challenge.rw_halfmeshes_k22_renamings) (q := view (OpenLaw.row PySem.Challenge.rw_halfmeshes_k22_renamings).prog [29]) (H := K22.hk) (ob := K22.ob) (M := 9000) (loose := K22.lse) (d := HandSHeadRun.topDef (OpenLaw.row PySem.Challenge.rw_halfmeshes_k22_renamings).prog 29) (kwd := []) K22.ob_hk
    (by kernel_rfl) (fun s => by kernel_rfl) K22.top_run (by kernel_rfl) (by kernel_rfl) (by kernel_rfl) (by rfl) (by first | assumption | decide +kernel) (by decide +kernel) ⟨rfl, rfl, rfl, rfl, rfl, by decide +kernel⟩ ?witness ?theCall
  case witness => w_witness2
  case theCall =>
    refine L2.walk_ofE (l := PySem.Challenge.rw_halfmeshes_k22_renamings) (n := 63) (k := 6) (x := "_law_script") (CX := L2.CX0) rfl (by decide) (by kernel_rfl) ⟨rfl, by decide, by decide⟩ ?promise (fun _ _ _ _ z => z)
    intro w mg ad hp says G named
    obtain ⟨K, inK, facts⟩ := says
    have named2 : mg ("law" : PySem.Str) = some (.ref ad) := by
      have e : (HandSHeadRun.topDef (OpenLaw.row PySem.Challenge.rw_halfmeshes_k22_renamings).prog 29).name = ("law" : PySem.Str) := by kernel_rfl
      exact e ▸ named
    obtain ⟨fd, binds, keeps⟩ := K22.law_ok (P := (PySem.Challenge.rw_halfmeshes_k22_renamings).prog) (w := w) inK G ⟨rfl, by decide +kernel⟩ named2 facts
    exact ⟨K, fd, K22.sp_law K, inK, binds, fun H a zs hl _ hS => ⟨a, zs, rfl, hS, fun _ => rfl⟩, keeps⟩
#print axioms PySem.Challenge.cw_halfmeshes_k22_renamings_holds
