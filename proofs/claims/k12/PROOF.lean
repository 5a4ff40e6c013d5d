import PyProof.Rows.All
import Wide.All
import OpenK.AllK
import Wide.FinOn
import KE.KStateDown
import HandS.ForMost
import HandS.More
import HandS.WordsExc
import HandS.Defaults
import HandS.IsInst
import HandS.Sort
import HandS.SortInts
import HandS.Conv
import HandS.Evl
import HandS.HeadHook1
import HandS.HeadHook2
import HandS.Zip
import HandS.Walk
import KE.KExcSuper
import HandS.Exc
import HandS.ExcInit
import HandS.Nested
import HandS.TryOnly
import HandS.ExcOwn
import HandS.ExcIs
import HandS.Property
import HandS.Dict
import PyProof.DictUpdate
import HandS.DictComp
import HandS.Steps
import HandS.Flt
import HandS.Head0
import HandS.Head1
import HandS.Head2
import HandS.HeadEnd
import PySem.Challenge.RW_halfmeshes_k12_counts_and_pieces
set_option Elab.async false
set_option linter.all false
set_option maxRecDepth 100000
set_option maxHeartbeats 0
/-! Mathematics of permutations of the numbers below N, their rounds. Own work of the verifier. -/
namespace Hm

/-- f maps the numbers below N to such, different ones to different ones -/
structure Pf (f : Nat → Nat) (N : Nat) : Prop where
  lt : ∀ x, x < N → f x < N
  inj : ∀ x y, x < N → y < N → f x = f y → x = y

def itr (f : Nat → Nat) : Nat → Nat → Nat
  | 0, x => x
  | k + 1, x => f (itr f k x)

theorem itr_succ' (f : Nat → Nat) (k x : Nat) : itr f (k + 1) x = itr f k (f x) := by
  induction k with
  | zero => rfl
  | succ k ih => show f (itr f (k + 1) x) = f (itr f k (f x)); rw [ih]
theorem itr_add (f : Nat → Nat) (a b x : Nat) : itr f (a + b) x = itr f a (itr f b x) := by
  induction a with
  | zero => rw [Nat.zero_add]; rfl
  | succ a ih => rw [Nat.succ_add]; show f (itr f (a + b) x) = f (itr f a (itr f b x)); rw [ih]
theorem itr_lt {f : Nat → Nat} {N : Nat} (P : Pf f N) {x : Nat} (h : x < N) (k : Nat) : itr f k x < N := by
  induction k with
  | zero => exact h
  | succ k ih => exact P.lt _ ih
theorem itr_inj {f : Nat → Nat} {N : Nat} (P : Pf f N) {x y : Nat} (hx : x < N) (hy : y < N) (k : Nat) (e : itr f k x = itr f k y) : x = y := by
  induction k with
  | zero => exact e
  | succ k ih => exact ih (P.inj _ _ (itr_lt P hx k) (itr_lt P hy k) e)

/-- a list without repetition of numbers below N is not longer than N -/
theorem nodup_le : ∀ (N : Nat) (l : List Nat), l.Nodup → (∀ x ∈ l, x < N) → l.length ≤ N
  | 0, l, _, h => by
    cases l with
    | nil => exact Nat.le_refl _
    | cons a r => exact absurd (h a (List.mem_cons_self ..)) (Nat.not_lt_zero _)
  | N + 1, l, hn, h => by
    have h1 := nodup_le N (l.erase N) (hn.erase N) (fun x hx => by
      have h2 := h x (List.mem_of_mem_erase hx)
      have h3 : x ≠ N := fun e => by
        subst e
        exact (hn.not_mem_erase) hx
      omega)
    have h4 : l.length ≤ (l.erase N).length + 1 := by
      rw [List.length_erase]
      split <;> omega
    omega

theorem itr_back {f : Nat → Nat} {N : Nat} (P : Pf f N) {x : Nat} (hx : x < N) {i j : Nat} (hij : i < j) (e : itr f i x = itr f j x) : itr f (j - i) x = x := by
  have h : j = i + (j - i) := by omega
  rw [h, itr_add] at e
  exact (itr_inj P hx (itr_lt P hx _) i e).symm

theorem ret_ex {f : Nat → Nat} {N : Nat} (P : Pf f N) {x : Nat} (hx : x < N) : ∃ k, k < N ∧ itr f (k + 1) x = x := by
  refine Classical.byContradiction fun hno => ?_
  have hno' : ∀ k, k < N → itr f (k + 1) x ≠ x := fun k hk e => hno ⟨k, hk, e⟩
  have hnd : ((List.range (N + 1)).map fun k => itr f k x).Nodup := by
    rw [List.nodup_iff_pairwise_ne, List.pairwise_map]
    refine List.Pairwise.imp_of_mem ?_ List.pairwise_lt_range
    intro a b ha hb hab e
    have hb' := List.mem_range.mp hb
    have e2 := itr_back P hx hab e
    have e3 : b - a = (b - a - 1) + 1 := by omega
    rw [e3] at e2
    exact hno' _ (by omega) e2
  have := nodup_le N _ hnd (fun y hy => by
    obtain ⟨k, _, rfl⟩ := List.mem_map.mp hy
    exact itr_lt P hx k)
  rw [List.length_map, List.length_range] at this
  omega

/-- the number of steps after which x is met again -/
def per (f : Nat → Nat) (N x : Nat) : Nat := ((List.range N).find? fun k => itr f (k + 1) x == x).getD 0 + 1
theorem per_pos (f : Nat → Nat) (N x : Nat) : 0 < per f N x := Nat.succ_pos _
theorem per_spec {f : Nat → Nat} {N : Nat} (P : Pf f N) {x : Nat} (hx : x < N) : itr f (per f N x) x = x ∧ per f N x ≤ N ∧ ∀ k, 0 < k → k < per f N x → itr f k x ≠ x := by
  unfold per
  cases e : (List.range N).find? (fun k => itr f (k + 1) x == x) with
  | none =>
    obtain ⟨k, hk, e2⟩ := ret_ex P hx
    have := List.find?_eq_none.mp e k (List.mem_range.mpr hk)
    rw [e2] at this
    exact absurd (beq_self_eq_true x) this
  | some k =>
    have h1 := List.find?_range_eq_some.mp e
    obtain ⟨h1, h2, h3⟩ := h1
    have h2 := List.mem_range.mp h2
    refine ⟨eq_of_beq h1, h2, fun j hj hjk e2 => ?_⟩
    have hjk : j < k + 1 := hjk
    have := h3 (j - 1) (by omega)
    rw [show j - 1 + 1 = j by omega, e2] at this
    simp at this

/-- the round of x: x, f x, .. -/
def rnd (f : Nat → Nat) (N x : Nat) : List Nat := (List.range (per f N x)).map fun k => itr f k x
theorem mem_rnd {f : Nat → Nat} {N : Nat} (P : Pf f N) {x : Nat} (hx : x < N) {y : Nat} : y ∈ rnd f N x ↔ ∃ k, itr f k x = y := by
  obtain ⟨s1, s2, s3⟩ := per_spec P hx
  constructor
  · intro h
    obtain ⟨k, _, e⟩ := List.mem_map.mp h
    exact ⟨k, e⟩
  · rintro ⟨k, rfl⟩
    have key : ∀ n k, k ≤ n → itr f k x ∈ rnd f N x := by
      intro n
      induction n with
      | zero =>
        intro k hk
        have : k = 0 := by omega
        subst this
        exact List.mem_map.mpr ⟨0, List.mem_range.mpr (per_pos _ _ _), rfl⟩
      | succ n ih =>
        intro k hk
        by_cases h : k < per f N x
        · exact List.mem_map.mpr ⟨k, List.mem_range.mpr h, rfl⟩
        · have e : itr f k x = itr f (k - per f N x) x := by
            have e2 : k = (k - per f N x) + per f N x := by omega
            rw [e2, itr_add, s1, ← e2]
          rw [e]
          have := per_pos f N x
          exact ih _ (by omega)
    exact key k k (Nat.le_refl _)
theorem rnd_lt {f : Nat → Nat} {N : Nat} (P : Pf f N) {x : Nat} (hx : x < N) {y : Nat} (h : y ∈ rnd f N x) : y < N := by
  obtain ⟨k, rfl⟩ := (mem_rnd P hx).mp h
  exact itr_lt P hx k
theorem rnd_symm {f : Nat → Nat} {N : Nat} (P : Pf f N) {x y : Nat} (hx : x < N) (h : y ∈ rnd f N x) : x ∈ rnd f N y := by
  have hy := rnd_lt P hx h
  obtain ⟨k, hk, rfl⟩ := List.mem_map.mp h
  have hk := List.mem_range.mp hk
  refine (mem_rnd P hy).mpr ⟨per f N x - k, ?_⟩
  rw [← itr_add, show per f N x - k + k = per f N x by omega]
  exact (per_spec P hx).1
theorem rnd_trans {f : Nat → Nat} {N : Nat} (P : Pf f N) {x y z : Nat} (hx : x < N) (h : y ∈ rnd f N x) (h2 : z ∈ rnd f N y) : z ∈ rnd f N x := by
  have hy := rnd_lt P hx h
  obtain ⟨k, rfl⟩ := (mem_rnd P hx).mp h
  obtain ⟨j, rfl⟩ := (mem_rnd P hy).mp h2
  exact (mem_rnd P hx).mpr ⟨j + k, itr_add f j k x⟩
theorem rnd_self {f : Nat → Nat} {N : Nat} (P : Pf f N) {x : Nat} (hx : x < N) : x ∈ rnd f N x := (mem_rnd P hx).mpr ⟨0, rfl⟩
theorem rnd_step {f : Nat → Nat} {N : Nat} (P : Pf f N) {x y : Nat} (hx : x < N) (h : y ∈ rnd f N x) : f y ∈ rnd f N x := by
  obtain ⟨k, rfl⟩ := (mem_rnd P hx).mp h
  exact (mem_rnd P hx).mpr ⟨k + 1, rfl⟩
theorem rnd_length (f : Nat → Nat) (N x : Nat) : (rnd f N x).length = per f N x := by
  unfold rnd; rw [List.length_map, List.length_range]
theorem rnd_take_nodup {f : Nat → Nat} {N : Nat} (P : Pf f N) {x : Nat} (hx : x < N) {k : Nat} (hk : k < per f N x) : itr f k x ∉ (List.range k).map fun j => itr f j x := by
  intro h
  obtain ⟨j, hj, e⟩ := List.mem_map.mp h
  have hj := List.mem_range.mp hj
  have e2 := itr_back P hx hj e
  exact (per_spec P hx).2.2 (k - j) (by omega) (by omega) e2
theorem rnd_nodup {f : Nat → Nat} {N : Nat} (P : Pf f N) {x : Nat} (hx : x < N) : (rnd f N x).Nodup := by
  unfold rnd
  rw [List.nodup_iff_pairwise_ne, List.pairwise_map]
  refine List.Pairwise.imp_of_mem ?_ List.pairwise_lt_range
  intro a b ha hb hab e
  have hb' := List.mem_range.mp hb
  have e2 := itr_back P hx hab e
  exact (per_spec P hx).2.2 (b - a) (by omega) (by omega) e2

/-- x is the least of its round -/
def isMin (f : Nat → Nat) (N x : Nat) : Bool := (rnd f N x).all fun y => decide (x ≤ y)
theorem isMin_iff {f : Nat → Nat} {N x : Nat} : isMin f N x = true ↔ ∀ y ∈ rnd f N x, x ≤ y := by
  unfold isMin
  rw [List.all_eq_true]
  exact ⟨fun h y hy => of_decide_eq_true (h y hy), fun h y hy => decide_eq_true (h y hy)⟩
/-- all rounds, by their least members, of the numbers below n -/
def cycs (f : Nat → Nat) (N n : Nat) : List (List Nat) := ((List.range n).filter (isMin f N)).map (rnd f N)
theorem cycs_yes {f : Nat → Nat} {N n : Nat} (h : isMin f N n = true) : cycs f N (n + 1) = cycs f N n ++ [rnd f N n] := by
  unfold cycs
  rw [List.range_succ, List.filter_append, List.map_append, List.filter_cons, if_pos h]
  rfl
theorem cycs_no {f : Nat → Nat} {N n : Nat} (h : ¬ isMin f N n = true) : cycs f N (n + 1) = cycs f N n := by
  unfold cycs
  rw [List.range_succ, List.filter_append, List.map_append, List.filter_cons, if_neg h]
  show _ ++ [] = _
  rw [List.append_nil]
theorem cycs_len (f : Nat → Nat) (N n : Nat) : (cycs f N n).length ≤ n := by
  unfold cycs
  rw [List.length_map]
  have := List.length_filter_le (isMin f N) (List.range n)
  rw [List.length_range] at this
  exact this
/-- y lies in the round of a number below n -/
def Sn (f : Nat → Nat) (N n y : Nat) : Prop := ∃ s, s < n ∧ s < N ∧ y ∈ rnd f N s
theorem sn_iff_notMin {f : Nat → Nat} {N : Nat} (P : Pf f N) {n : Nat} (hn : n < N) : Sn f N n n ↔ ¬ isMin f N n = true := by
  constructor
  · rintro ⟨s, h1, h2, h3⟩ h
    have := isMin_iff.mp h s (rnd_symm P h2 h3)
    omega
  · intro h
    rw [isMin_iff] at h
    refine Classical.byContradiction fun hno => h fun y hy => ?_
    refine Nat.le_of_not_lt fun hlt => hno ⟨y, hlt, rnd_lt P hn hy, rnd_symm P hn hy⟩
theorem sn_back {f : Nat → Nat} {N : Nat} (P : Pf f N) {n y : Nat} (hy : y < N) (h : Sn f N n (f y)) : Sn f N n y := by
  obtain ⟨s, h1, h2, h3⟩ := h
  refine ⟨s, h1, h2, rnd_trans P h2 h3 (rnd_symm P hy ?_)⟩
  exact (mem_rnd P hy).mpr ⟨1, rfl⟩
theorem sn_itr {f : Nat → Nat} {N : Nat} (P : Pf f N) {n x : Nat} (hx : x < N) (h : ¬ Sn f N n x) (k : Nat) : ¬ Sn f N n (itr f k x) := by
  induction k with
  | zero => exact h
  | succ k ih => exact fun q => ih (sn_back P (itr_lt P hx k) q)
theorem sn_succ {f : Nat → Nat} {N n y : Nat} (hn : n < N) : Sn f N (n + 1) y ↔ Sn f N n y ∨ y ∈ rnd f N n := by
  constructor
  · rintro ⟨s, h1, h2, h3⟩
    by_cases e : s = n
    · subst e; exact .inr h3
    · exact .inl ⟨s, by omega, h2, h3⟩
  · rintro (⟨s, h1, h2, h3⟩ | h)
    · exact ⟨s, by omega, h2, h3⟩
    · exact ⟨n, by omega, hn, h⟩

/-! ### lists as maps -/
/-- a list of the numbers below its length, each once -/
structure IsP (ns : List Nat) : Prop where
  perm : ns.Perm (List.range ns.length)
theorem IsP.nodup {ns : List Nat} (h : IsP ns) : ns.Nodup := h.perm.symm.nodup List.nodup_range
theorem IsP.mem {ns : List Nat} (h : IsP ns) {x : Nat} : x ∈ ns ↔ x < ns.length := by
  rw [h.perm.mem_iff, List.mem_range]
def fn (ns : List Nat) (x : Nat) : Nat := ns.getD x 0
theorem fn_get {ns : List Nat} {x : Nat} (h : x < ns.length) : ns[x]? = some (fn ns x) := by
  unfold fn
  rw [List.getD_eq_getElem?_getD, List.getElem?_eq_getElem h]
  rfl
theorem fn_at {ns : List Nat} {x y : Nat} (h : ns[x]? = some y) : fn ns x = y := by
  unfold fn
  rw [List.getD_eq_getElem?_getD, h]
  rfl
theorem fn_mem {ns : List Nat} {x : Nat} (h : x < ns.length) : fn ns x ∈ ns := List.mem_of_getElem? (fn_get h)
theorem pf_fn {ns : List Nat} (h : IsP ns) : Pf (fn ns) ns.length where
  lt := fun x hx => h.mem.mp (fn_mem hx)
  inj := fun x y hx hy e => by
    have h1 := fn_get hx
    have h2 := fn_get hy
    rw [e] at h1
    have hn := h.nodup
    obtain ⟨a1, b1⟩ := List.getElem?_eq_some_iff.mp h1
    obtain ⟨a2, b2⟩ := List.getElem?_eq_some_iff.mp h2
    exact (List.getElem_inj hn).mp (b1.trans b2.symm)
/-- the number whose next is x -/
def bk (ns : List Nat) (x : Nat) : Nat := ns.idxOf x
theorem bk_lt {ns : List Nat} (h : IsP ns) {x : Nat} (hx : x < ns.length) : bk ns x < ns.length := List.idxOf_lt_length_iff.mpr (h.mem.mpr hx)
theorem fn_bk {ns : List Nat} (h : IsP ns) {x : Nat} (hx : x < ns.length) : fn ns (bk ns x) = x := by
  have h1 := fn_get (bk_lt h hx)
  have h2 : ns[bk ns x]'(bk_lt h hx) = x := List.getElem_idxOf (bk_lt h hx)
  rw [List.getElem?_eq_getElem (bk_lt h hx), h2] at h1
  exact (Option.some.inj h1).symm
theorem bk_fn {ns : List Nat} (h : IsP ns) {x : Nat} (hx : x < ns.length) : bk ns (fn ns x) = x :=
  (pf_fn h).inj _ _ (bk_lt h ((pf_fn h).lt x hx)) hx (fn_bk h ((pf_fn h).lt x hx))
def tw (x : Nat) : Nat := if x % 2 = 0 then x + 1 else x - 1
theorem tw_tw (x : Nat) : tw (tw x) = x := by unfold tw; split <;> split <;> omega
theorem tw_lt {x N : Nat} (hN : N % 2 = 0) (h : x < N) : tw x < N := by unfold tw; split <;> omega
theorem tw_inj {x y : Nat} (h : tw x = tw y) : x = y := by rw [← tw_tw x, h, tw_tw]
def prevs (ns : List Nat) : List Nat := (List.range ns.length).map (bk ns)
def turns (ns : List Nat) : List Nat := (prevs ns).map tw
theorem prevs_len (ns : List Nat) : (prevs ns).length = ns.length := by unfold prevs; rw [List.length_map, List.length_range]
theorem turns_len (ns : List Nat) : (turns ns).length = ns.length := by unfold turns; rw [List.length_map, prevs_len]
theorem fn_prevs {ns : List Nat} {x : Nat} (h : x < ns.length) : fn (prevs ns) x = bk ns x := by
  apply fn_at
  unfold prevs
  rw [List.getElem?_map, List.getElem?_range h]
  rfl
theorem fn_turns {ns : List Nat} {x : Nat} (h : x < ns.length) : fn (turns ns) x = tw (bk ns x) := by
  apply fn_at
  unfold turns
  rw [List.getElem?_map, fn_get (by rw [prevs_len]; exact h), fn_prevs h]
  rfl
/-- from a map to its list -/
theorem isP_of {f : Nat → Nat} {N : Nat} (P : Pf f N) : IsP ((List.range N).map f) where
  perm := by
    rw [List.length_map, List.length_range]
    have hnd : ((List.range N).map f).Nodup := by
      rw [List.nodup_iff_pairwise_ne, List.pairwise_map]
      refine List.Pairwise.imp_of_mem ?_ List.pairwise_lt_range
      intro a b ha hb hab e
      have := P.inj _ _ (List.mem_range.mp ha) (List.mem_range.mp hb) e
      omega
    refine (List.perm_ext_iff_of_nodup hnd List.nodup_range).mpr fun x => ?_
    constructor
    · intro h
      obtain ⟨y, hy, rfl⟩ := List.mem_map.mp h
      exact List.mem_range.mpr (P.lt _ (List.mem_range.mp hy))
    · intro h
      have hx := List.mem_range.mp h
      have P' := P
      refine List.mem_map.mpr ⟨itr f (per f N x - 1) x, List.mem_range.mpr (itr_lt P hx _), ?_⟩
      have e := (per_spec P hx).1
      have hp := per_pos f N x
      rw [show per f N x = (per f N x - 1) + 1 by omega] at e
      exact e
theorem isP_prevs {ns : List Nat} (h : IsP ns) : IsP (prevs ns) := isP_of ⟨fun x hx => bk_lt h hx, fun x y hx hy e => by
  rw [← fn_bk h hx, e, fn_bk h hy]⟩
theorem pf_turn {ns : List Nat} (h : IsP ns) (hN : ns.length % 2 = 0) : Pf (fun x => tw (bk ns x)) ns.length where
  lt := fun x hx => tw_lt hN (bk_lt h hx)
  inj := fun x y hx hy e => by
    have e := tw_inj e
    rw [← fn_bk h hx, e, fn_bk h hy]
theorem isP_turns {ns : List Nat} (h : IsP ns) (hN : ns.length % 2 = 0) : IsP (turns ns) := by
  have e : turns ns = (List.range ns.length).map (fun x => tw (bk ns x)) := by
    unfold turns prevs
    rw [List.map_map]
    rfl
  rw [e]
  exact isP_of (pf_turn h hN)
end Hm
namespace Hm
open PySem PySem.Spec PyProof.Rows L2 Evl
/-! ### short names of what operators ask -/
abbrev iI (g : Int → Int → Int) : R2 := rI0 fun i j => .int (g i j)
abbrev iB (g : Int → Int → Bool) : R2 := rI0 fun i j => .bl (g i j)
abbrev zAdd : R2 := iI fun i j => i + j
abbrev zSub : R2 := iI fun i j => i - j
abbrev zMul : R2 := rI CMul fun i j => .int (i * j)
abbrev zDiv : R2 := rI CDivN fun i j => .int (i.fdiv j)
abbrev zMod : R2 := rI (fun _ j => j ≠ 0) fun i j => .int (i.fmod j)
abbrev zPow : R2 := rI CPow fun i j => .int (i ^ j.toNat)
abbrev zXor : R2 := iI fun i j => Builtin.bitXor i j
abbrev zLt : R2 := iB fun i j => decide (i < j)
abbrev zLe : R2 := iB fun i j => decide (i ≤ j)
abbrev zGt : R2 := iB fun i j => decide (j < i)
abbrev zGe : R2 := iB fun i j => decide (j ≤ i)
abbrev zNeg : V → Hp → VK → Prop := rU fun i => .int (-i)
abbrev CR1 := List V → Hp → VK → Prop
abbrev cInt : CR1 := fun vs H K => (∃ i : Int, vs = [V.int i] ∧ K (V.int i) H) ∨ (∃ b : Bool, vs = [V.bl b] ∧ K (V.int (if b then 1 else 0)) H)
abbrev cAbs : CR1 := fun vs H K => ∃ i : Int, vs = [V.int i] ∧ K (V.int (if i < 0 then -i else i)) H
abbrev cLen (F : PySem.W.Frag) : CR1 := fun vs H K => ∃ (p : Addr) (ys : List V), vs = [V.ref p] ∧ (SqL F H p ys ∨ SqT F H p ys) ∧ K (V.int ys.length) H
abbrev cList (F : PySem.W.Frag) : CR1 := fun vs H K => ∃ (p : Addr) (ys : List V), vs = [V.ref p] ∧ (SqL F H p ys ∨ SqT F H p ys) ∧ ∀ l, H l = none → K (V.ref l) (upd H l (.lst ys))
/-- what the written part says of the class Mesh -/
structure KF (K : PySem.W.Frag) : Prop where
  cl : Cls K (He.ga K "Mesh")
  n1 : NoAttr K (He.ga K "Mesh") "_nexts"
  n2 : NoAttr K (He.ga K "Mesh") "_prevs"
  n3 : NoAttr K (He.ga K "Mesh") "_turns"
end Hm
namespace Hm
open PySem PySem.Spec PyProof.Rows L2 Evl
/-! ### lists of numbers as values and as data -/
abbrev vi (n : Nat) : V := .int (n : Int)
def L (ns : List Nat) : List V := ns.map vi
theorem L_len (ns : List Nat) : (L ns).length = ns.length := by unfold L; rw [List.length_map]
theorem L_get {ns : List Nat} {i : Nat} (h : i < ns.length) : (L ns)[i]? = some (vi (fn ns i)) := by
  unfold L
  rw [List.getElem?_map, fn_get h]
  rfl
theorem L_at {ns : List Nat} {i : Nat} (h : i < ns.length) : atI (L ns) ((i : Nat) : Int) = some (vi (fn ns i)) := atI_nat (L_get h)
theorem L_app (a b : List Nat) : L (a ++ b) = L a ++ L b := by unfold L; rw [List.map_append]
theorem L_int (ns : List Nat) : L ns = (ns.map fun n : Nat => (n : Int)).map V.int := by unfold L; rw [List.map_map]; rfl
theorem L_item {ns : List Nat} {i : Nat} {v : V} (h : (L ns)[i]? = some v) : i < ns.length ∧ v = vi (fn ns i) := by
  have h1 : i < ns.length := by
    have := (List.getElem?_eq_some_iff.mp h).1
    rwa [L_len] at this
  rw [L_get h1] at h
  exact ⟨h1, (Option.some.inj h).symm⟩
def dN (ns : List Nat) : PyData := .list (ns.map fun n : Nat => PyData.int (n : Int))
def dNN (xss : List (List Nat)) : PyData := .list (xss.map dN)
theorem dpAll_L {K : PySem.W.Frag} {H : Hp} : ∀ ns : List Nat, DpAll K H (L ns) (ns.map fun n : Nat => PyData.int (n : Int))
  | [] => .nil
  | n :: r => .cons (.int _) (dpAll_L r)
theorem dp_L {K : PySem.W.Frag} {H : Hp} {p : Addr} {ns : List Nat} (h : SqL K H p (L ns)) : Dp K H (.ref p) (dN ns) := Dp.lst h (dpAll_L ns)
theorem lay_ints : ∀ ns : List Nat, PyData.canLayAll0 (ns.map fun n : Nat => PyData.int (n : Int)) = true ∧ PyData.depthAll (ns.map fun n : Nat => PyData.int (n : Int)) = 0
  | [] => ⟨by simp [PyData.canLayAll0], by simp [PyData.depthAll]⟩
  | n :: r => by
    obtain ⟨h1, h2⟩ := lay_ints r
    exact ⟨by simp [PyData.canLayAll0, PyData.canLay0, h1], by simp [PyData.depthAll, PyData.depth, h2]⟩
theorem lay_dN (ns : List Nat) : PyData.canLay0 (dN ns) = true ∧ PyData.depth (dN ns) = 1 := by
  obtain ⟨h1, h2⟩ := lay_ints ns
  unfold dN
  exact ⟨by simp [PyData.canLay0, h1], by simp [PyData.depth, h2]⟩
theorem lay_dNs : ∀ xss : List (List Nat), PyData.canLayAll0 (xss.map dN) = true ∧ PyData.depthAll (xss.map dN) ≤ 1
  | [] => ⟨by simp [PyData.canLayAll0], by simp [PyData.depthAll]⟩
  | n :: r => by
    obtain ⟨h1, h2⟩ := lay_dNs r
    obtain ⟨h3, h4⟩ := lay_dN n
    exact ⟨by simp [PyData.canLayAll0, h1, h3], by simp [PyData.depthAll, h4]; omega⟩
theorem shaped_dN (ns : List Nat) : SeqAt.shaped (dN ns) = true := by
  obtain ⟨h3, h4⟩ := lay_dN ns
  unfold SeqAt.shaped
  rw [h3, h4]
  rfl
theorem shaped_dNN (xss : List (List Nat)) : SeqAt.shaped (dNN xss) = true := by
  obtain ⟨h3, h4⟩ := lay_dNs xss
  unfold SeqAt.shaped dNN
  have e1 : PyData.canLay0 (.list (xss.map dN)) = true := by simp [PyData.canLay0, h3]
  have e2 : PyData.depth (.list (xss.map dN)) ≤ 64 := by simp [PyData.depth]; omega
  rw [e1, decide_eq_true e2]
  rfl
theorem eqv_ints : ∀ ns ms : List Nat, PyData.eqvAll (ns.map fun n : Nat => PyData.int (n : Int)) (ms.map fun n : Nat => PyData.int (n : Int)) = decide (ns = ms)
  | [], [] => by simp [PyData.eqvAll]
  | [], _ :: _ => by simp [PyData.eqvAll]
  | _ :: _, [] => by simp [PyData.eqvAll]
  | n :: r, m :: s => by
    have h := eqv_ints r s
    simp only [List.map_cons, PyData.eqvAll, PyData.eqv, h]
    by_cases e : n = m
    · subst e
      simp
    · have e2 : ((n : Int) == (m : Int)) = false := by
        rw [beq_eq_false_iff_ne]
        omega
      rw [e2]
      simp [e]
theorem eqv_dN (ns ms : List Nat) : PyData.eqv (dN ns) (dN ms) = decide (ns = ms) := by
  unfold dN
  simp only [PyData.eqv]
  exact eqv_ints ns ms
theorem eqv_dNs : ∀ xss yss : List (List Nat), PyData.eqvAll (xss.map dN) (yss.map dN) = decide (xss = yss)
  | [], [] => by simp [PyData.eqvAll]
  | [], _ :: _ => by simp [PyData.eqvAll]
  | _ :: _, [] => by simp [PyData.eqvAll]
  | n :: r, m :: s => by
    have h := eqv_dNs r s
    simp only [List.map_cons, PyData.eqvAll, eqv_dN, h]
    by_cases e : n = m <;> simp [e]
theorem eqv_dNN (xss yss : List (List Nat)) : PyData.eqv (dNN xss) (dNN yss) = decide (xss = yss) := by
  unfold dNN
  simp only [PyData.eqv]
  exact eqv_dNs xss yss
/-! ### new lists of lists -/
theorem paired_imp {α β : Type} {R R' : α → β → Prop} : ∀ {as : List α} {xs : List β}, Paired R as xs → (∀ a x, a ∈ as → R a x → R' a x) → Paired R' as xs
  | _, _, .nil, _ => .nil
  | _, _, .cons r t, f => .cons (f _ _ (List.mem_cons_self ..) r) (paired_imp t fun a x m => f a x (List.mem_cons_of_mem _ m))
theorem paired_snoc {α β : Type} {R : α → β → Prop} : ∀ {as : List α} {xs : List β} {a : α} {x : β}, Paired R as xs → R a x → Paired R (as ++ [a]) (xs ++ [x])
  | _, _, _, _, .nil, h => .cons h .nil
  | _, _, _, _, .cons r t, h => .cons r (paired_snoc t h)
abbrev LA (H : Hp) (as : List Addr) (xss : List (List Nat)) : Prop := Paired (fun a xs => H a = some (.lst (L xs))) as xss
def LL (H : Hp) (p : Addr) (xss : List (List Nat)) : Prop := ∃ as : List Addr, H p = some (.lst (as.map V.ref)) ∧ LA H as xss
def LLn (H0 H : Hp) (p : Addr) (xss : List (List Nat)) : Prop := ∃ as : List Addr, H p = some (.lst (as.map V.ref)) ∧ LA H as xss ∧ ∀ a ∈ as, H0 a = none ∧ a ≠ p
theorem LLn.ll {H0 H : Hp} {p : Addr} {xss : List (List Nat)} (h : LLn H0 H p xss) : LL H p xss := by
  obtain ⟨as, h1, h2, _⟩ := h
  exact ⟨as, h1, h2⟩
theorem LA.ex {H H' : Hp} {as : List Addr} {xss : List (List Nat)} (h : LA H as xss) (e : Ex H H') : LA H' as xss := paired_imp h fun a x _ q => e a _ q
theorem LA.upd {H : Hp} {as : List Addr} {xss : List (List Nat)} {p : Addr} {o : HO} (h : LA H as xss) (e : ∀ a ∈ as, a ≠ p) : LA (upd H p o) as xss := paired_imp h fun a x m q => by
  rw [upd_ne (e a m)]
  exact q
theorem LL.ex {H H' : Hp} {p : Addr} {xss : List (List Nat)} (h : LL H p xss) (e : Ex H H') : LL H' p xss := by
  obtain ⟨as, h1, h2⟩ := h
  exact ⟨as, e _ _ h1, LA.ex h2 e⟩
theorem dpAll_LA {K : PySem.W.Frag} {H : Hp} : ∀ {as : List Addr} {xss : List (List Nat)}, LA H as xss → DpAll K H (as.map V.ref) (xss.map dN)
  | _, _, .nil => .nil
  | _, _, .cons r t => .cons (dp_L (sq_of r)) (dpAll_LA t)
theorem dp_LL {K : PySem.W.Frag} {H : Hp} {p : Addr} {xss : List (List Nat)} (h : LL H p xss) : Dp K H (.ref p) (dNN xss) := by
  obtain ⟨as, h1, h2⟩ := h
  exact Dp.lst (sq_of h1) (dpAll_LA h2)
theorem LA.fresh {H : Hp} {as : List Addr} {xss : List (List Nat)} {p : Addr} (h : LA H as xss) (hp : H p = none) : ∀ a ∈ as, a ≠ p := by
  intro a ha
  have key : ∀ {as : List Addr} {xss : List (List Nat)}, LA H as xss → ∀ a ∈ as, ∃ xs, H a = some (.lst (L xs)) := by
    intro as xss h
    induction h with
    | nil => intro a ha; cases ha
    | cons r t ih =>
      intro a ha
      rcases List.mem_cons.mp ha with rfl | ha
      · exact ⟨_, r⟩
      · exact ih a ha
  obtain ⟨xs, q⟩ := key h a ha
  exact ne_of_none q hp
/-! ### further evaluations -/
section
variable {K : PySem.W.Frag} {σ : L2.St} {H H' : Hp} {ta tb te tx : TE} {t u : TT} {x y z v : V} {r : R2}
theorem et_yes : EvT tYes σ H true := fun H1 _ _ q => q H1 (Ex.refl H1)
theorem ev_cbN {r : CR1} {xs : List V} (h : EvL te σ H xs) (hr : ∀ p H1, H1 p = some (.lst xs) → Ex H H1 → RC r [.ref p] H1 z) : Ev (tCB r (tCons te tNil)) σ H z := fun H1 e Q q =>
  h H1 e _ fun p H2 _ e2 hp => hr p H2 hp (e.trans e2) H2 (Ex.refl H2) Q fun H3 e3 => q H3 (e2.trans e3)
theorem rc_isi {b : Bool} {x c : V} {t u : Value} (hc : ClsV c u) (ht : ∀ H1, Ex H H1 → TyX K H1 x t) (hk : PySem.W.kitOne K t u = some b) : RC (rIsi K) [x, c] H (.bl b) := fun H1 e Q q =>
  ⟨x, c, t, u, b, rfl, hc, ht H1 e, hk, q H1 (Ex.refl H1)⟩
theorem rc_int {i : Int} : RC cInt [.int i] H (.int i) := fun H1 _ _ q => Or.inl ⟨i, rfl, q H1 (Ex.refl H1)⟩
theorem rc_abs {i : Int} : RC cAbs [.int i] H (.int (if i < 0 then -i else i)) := fun H1 _ _ q => ⟨i, rfl, q H1 (Ex.refl H1)⟩
theorem rc_len {p : Addr} {xs : List V} (h : SqL K H p xs) : RC (cLen K) [.ref p] H (.int (xs.length : Int)) := fun H1 e _ q => ⟨p, xs, rfl, Or.inl (ex_l e h), q H1 (Ex.refl H1)⟩
theorem rcl_list {p : Addr} {xs : List V} (h : SqL K H p xs) : RCL (cList K) [.ref p] H xs := fun H1 e _ q => ⟨p, xs, rfl, Or.inl (ex_l e h), fun l hl => q l _ hl (Ex.new hl) upd_same⟩
theorem rc_all {p : Addr} {bs : List Bool} (h : SqL K H p (bs.map V.bl)) : RC (rAll K) [.ref p] H (.bl (bs.all id)) := fun H1 e _ q => ⟨p, bs, rfl, ex_l e h, q H1 (Ex.refl H1)⟩
theorem rc_min {p : Addr} {ns : List Int} {m : Int} (h : SqL K H p (ns.map V.int)) (hn : 0 < ns.length) (hm : ∀ m', m' ∈ ns → (∀ y, y ∈ ns → m' ≤ y) → m' = m) : RC (rMin K) [.ref p] H (.int m) := fun H1 e _ q => ⟨p, ns, rfl, ex_l e h, hn, fun m' a b => by
  rw [hm m' a b]
  exact q H1 (Ex.refl H1)⟩
theorem ea_1 (h : Ev ta σ H x) : EvA (tCons ta tNil) σ H [x] := ea_cons h ea_nil
theorem ea_2 (h : Ev ta σ H x) (h2 : Ev tb σ H y) : EvA (tCons ta (tCons tb tNil)) σ H [x, y] := ea_cons h (ea_cons h2 ea_nil)
theorem rv_eqD {d e : PyData} (hx : Dp K H x d) (hy : Dp K H y e) (h1 : SeqAt.shaped d = true) (h2 : SeqAt.shaped e = true) (mx : ∀ H1, Ex H H1 → Dp K H x d → Dp K H1 x d) (my : ∀ H1, Ex H H1 → Dp K H y e → Dp K H1 y e) : RV (rEqD K) x y H (.bl (PyData.eqv d e)) := fun H1 ex _ q =>
  ⟨d, e, mx H1 ex hx, my H1 ex hy, h1, h2, q H1 (Ex.refl H1)⟩
mutual
theorem dp_ex {H H1 : Hp} (e : Ex H H1) : ∀ {v : V} {d : PyData}, Dp K H v d → Dp K H1 v d
  | _, _, .non => .non
  | _, _, .bl b => .bl b
  | _, _, .int i => .int i
  | _, _, .str x => .str x
  | _, _, .lst h a => .lst (ex_l e h) (dpAll_ex e a)
  | _, _, .tup h a => .tup (ex_t e h) (dpAll_ex e a)
theorem dpAll_ex {H H1 : Hp} (e : Ex H H1) : ∀ {v : List V} {d : List PyData}, DpAll K H v d → DpAll K H1 v d
  | _, _, .nil => .nil
  | _, _, .cons h a => .cons (dp_ex e h) (dpAll_ex e a)
end
theorem rv_eqD' {d e : PyData} (hx : Dp K H x d) (hy : Dp K H y e) (h1 : SeqAt.shaped d = true) (h2 : SeqAt.shaped e = true) : RV (rEqD K) x y H (.bl (PyData.eqv d e)) := fun H1 ex _ q =>
  ⟨d, e, dp_ex ex hx, dp_ex ex hy, h1, h2, q H1 (Ex.refl H1)⟩
theorem rv_neD' {d e : PyData} (hx : Dp K H x d) (hy : Dp K H y e) (h1 : SeqAt.shaped d = true) (h2 : SeqAt.shaped e = true) : RV (rNeD K) x y H (.bl (!PyData.eqv d e)) := fun H1 ex _ q =>
  ⟨d, e, dp_ex ex hx, dp_ex ex hy, h1, h2, q H1 (Ex.refl H1)⟩
theorem rv_eqN {a b : Addr} {ns ms : List Nat} (h1 : SqL K H a (L ns)) (h2 : SqL K H b (L ms)) : RV (rEqD K) (.ref a) (.ref b) H (.bl (decide (ns = ms))) := by
  rw [← eqv_dN]
  exact rv_eqD' (dp_L h1) (dp_L h2) (shaped_dN _) (shaped_dN _)
theorem rv_neN {a b : Addr} {ns ms : List Nat} (h1 : SqL K H a (L ns)) (h2 : SqL K H b (L ms)) : RV (rNeD K) (.ref a) (.ref b) H (.bl (!decide (ns = ms))) := by
  rw [← eqv_dN]
  exact rv_neD' (dp_L h1) (dp_L h2) (shaped_dN _) (shaped_dN _)
theorem rv_eqNN {a b : Addr} {ns ms : List (List Nat)} (h1 : LL H a ns) (h2 : LL H b ms) : RV (rEqD K) (.ref a) (.ref b) H (.bl (decide (ns = ms))) := by
  rw [← eqv_dNN]
  exact rv_eqD' (dp_LL h1) (dp_LL h2) (shaped_dNN _) (shaped_dNN _)
theorem rv_neNN {a b : Addr} {ns ms : List (List Nat)} (h1 : LL H a ns) (h2 : LL H b ms) : RV (rNeD K) (.ref a) (.ref b) H (.bl (!decide (ns = ms))) := by
  rw [← eqv_dNN]
  exact rv_neD' (dp_LL h1) (dp_LL h2) (shaped_dNN _) (shaped_dNN _)
theorem ev_fld {a C dx : Addr} {fs : List (Str × V)} {f : Str} (h : Ev ta σ H (.ref a)) (ho : H a = some (.ins C dx fs)) (hc : Cls K C) (hn : NoAttr K C f) (hl : fs.lookup f = some v) : Ev (tFld K ta f) σ H v := fun H1 e Q q =>
  h H1 e _ fun H2 e2 => ⟨a, C, dx, fs, v, rfl, e2 _ _ (e _ _ ho), hc, hn, hl, q H2 e2⟩
/-- a call of a method that gives a value, a new list -/
theorem ev_meth {a C dx : Addr} {fs : List (Str × V)} {m : Str} {sp : Sp} {ta : TE} {tb : TA} {vs : List V} {E : XK} (h : Ev ta σ H (.ref a)) (ho : H a = some (.ins C dx fs)) (hl : fs.lookup m = none) (ha : EvA tb σ H vs) (hs : SpV sp (.ref a :: vs) H v) : Ev (tMeth C m sp [] E ta tb) σ H v := fun H1 e Q q =>
  h H1 e _ fun H2 e2 => ⟨a, dx, fs, rfl, e2 _ _ (e _ _ ho), hl, ha H2 (e.trans e2) _ fun H3 e3 => by
    have e4 := (e.trans e2).trans e3
    have q2 := hs H3 e4 Q (fun H4 e5 => q H4 ((e2.trans e3).trans e5)) E
    simpa using q2⟩
theorem el_meth {a C dx : Addr} {fs : List (Str × V)} {m : Str} {sp : Sp} {ta : TE} {tb : TA} {vs xs : List V} {E : XK} (h : Ev ta σ H (.ref a)) (ho : H a = some (.ins C dx fs)) (hl : fs.lookup m = none) (ha : EvA tb σ H vs) (hs : SpL sp (.ref a :: vs) H xs) : EvL (tMeth C m sp [] E ta tb) σ H xs := fun H1 e Q q =>
  h H1 e _ fun H2 e2 => ⟨a, dx, fs, rfl, e2 _ _ (e _ _ ho), hl, ha H2 (e.trans e2) _ fun H3 e3 => by
    have e4 := (e.trans e2).trans e3
    have q2 := hs H3 e4 Q (fun p H4 hp e5 h5 => q p H4 (fresh_back (e2.trans e3) hp) ((e2.trans e3).trans e5) h5) E
    simpa using q2⟩
end
/-- all but the object at t is kept -/
def ExO (t : Addr) (H H' : Hp) : Prop := ∀ a o, a ≠ t → H a = some o → H' a = some o
theorem ExO.of {t : Addr} {H H' : Hp} (e : Ex H H') : ExO t H H' := fun a o _ h => e a o h
theorem ExO.refl {t : Addr} {H : Hp} : ExO t H H := fun _ _ _ h => h
theorem ExO.trans {t : Addr} {H H1 H2 : Hp} (a : ExO t H H1) (b : ExO t H1 H2) : ExO t H H2 := fun x o n h => b x o n (a x o n h)
theorem ExO.upd {t : Addr} {H H' : Hp} {o : HO} (a : ExO t H H') : ExO t H (upd H' t o) := fun x o n h => by
  rw [upd_ne n]
  exact a x o n h
theorem ExO.mut {t p : Addr} {H H' : Hp} {o : HO} (a : ExO t H H') (h : H p = none) : ExO t H (L2.upd H' p o) := fun x u n hx => by
  rw [upd_ne (ne_of_none hx h)]
  exact a x u n hx
theorem ExO.mono {t : Addr} {H H' : Hp} (a : ExO t H H') (h : H t = none) : Ex H H' := fun x o hx => a x o (ne_of_none hx h) hx
theorem ExO.sq {K : PySem.W.Frag} {t : Addr} {H H' : Hp} {p : Addr} {xs : List V} (e : ExO t H H') (n : p ≠ t) (h : SqL K H p xs) : SqL K H' p xs := by
  rcases h with h | h
  · rcases h with h | ⟨o, h⟩
    · exact Or.inl (Or.inl (e p _ n h))
    · exact Or.inl (Or.inr ⟨o, e p _ n h⟩)
  · exact Or.inr h
/-- a tape: two numbers, the second one below 2147483647 -/
def Tp (o : Option HO) : Prop := ∃ x y : Int, o = some (.lst [.int x, .int y]) ∧ 0 ≤ x ∧ 0 ≤ y ∧ y < 2147483647
end Hm
/-! len(set(xs)), xs ints of any number -/
namespace Hm
open PySem PySem.Spec PyProof.Rows
def fmI (ns : List Int) (i : Nat) : List Int := PyProof.Rows.firstMet (fun i => ns.getD i 0) i
def cntI (ns : List Int) : Nat := (fmI ns ns.length).length
theorem fmI_succ (ns : List Int) (i : Nat) : fmI ns (i + 1) = if (fmI ns i).any (· == ns.getD i 0) then fmI ns i else fmI ns i ++ [ns.getD i 0] := PyProof.Rows.firstMet_succ _ _
theorem fmI_len (ns : List Int) : ∀ i, (fmI ns i).length ≤ i
  | 0 => Nat.le_refl _
  | i + 1 => by
    have h := fmI_len ns i
    rw [fmI_succ]
    split
    · omega
    · rw [List.length_append]
      show _ + 1 ≤ _
      omega
theorem fmI_full (ns : List Int) : ∀ i, i ≤ ns.length → (fmI ns i).length = i → fmI ns i = ns.take i ∧ (ns.take i).Nodup
  | 0, _, _ => ⟨rfl, List.nodup_nil⟩
  | i + 1, hi, h => by
    rw [fmI_succ] at h ⊢
    have hlt : i < ns.length := hi
    have e1 : ns.getD i 0 = ns[i] := by
      rw [List.getD_eq_getElem?_getD, List.getElem?_eq_getElem hlt] <;> rfl
    have e2 : ns.take (i + 1) = ns.take i ++ [ns[i]] := by
      rw [List.take_add_one, List.getElem?_eq_getElem hlt] <;> rfl
    by_cases hb : (fmI ns i).any (· == ns.getD i 0) = true
    · rw [if_pos hb] at h
      have := fmI_len ns i
      omega
    · rw [if_neg hb] at h ⊢
      rw [List.length_append] at h
      have h2 : [ns.getD i 0].length = 1 := rfl
      obtain ⟨q1, q2⟩ := fmI_full ns i (by omega) (by omega)
      rw [q1, e1, e2]
      refine ⟨rfl, ?_⟩
      refine List.nodup_append.mpr ⟨q2, by simp, fun x hx y hy e => ?_⟩
      have hy := List.mem_singleton.mp hy
      refine hb (List.any_eq_true.mpr ⟨x, by rw [q1]; exact hx, ?_⟩)
      rw [e1, e, hy]
      exact beq_self_eq_true _
theorem cntI_iff (ns : List Int) : cntI ns = ns.length ↔ ns.Nodup := by
  constructor
  · intro h
    have := (fmI_full ns ns.length (Nat.le_refl _) h).2
    rwa [List.take_length] at this
  · intro h
    unfold cntI fmI
    rw [RZ.firstMet_nodup h ns.length (Nat.le_refl _), List.take_length]
namespace PSetI
open PySem PySem.Spec PyProof.Rows L2
def tLenI (K : PySem.W.Frag) (ta : TE) : TE := fun σ H Q => ta σ H fun x H1 => ∃ (l : Addr) (ns : List Int), x = .ref l ∧ SqL K H1 l (ns.map V.int) ∧ ns.length ≤ 4000 ∧ Q (.int (cntI ns : Nat)) H1
theorem pe_lenI {X : Cx} {a : Expr} {ta : TE} {p p2 q pos : Pos} (hc : X.calm = true) (hg : Gl X "len") (hm : X.mg "len" = none) (hg2 : Gl X "set") (hm2 : X.mg "set" = none) (ha : PE X a ta)
    (na : starEach [a] X.env = (false, eval a X.env) :: starEach [] X.env := by rfl) : PE X (.Call (.Name "len" p) [.Call (.Name "set" p2) [a] [] q] [] pos) (tLenI X.K ta) := by
  refine ⟨fun pins s σ H Q I h => ?_⟩
  refine Call_ (ld_blt I hg hm PySem.boot_len ?_)
  refine PyProof.Rows.callWith_builtin1 (PyProof.Rows.args_cons ?_ rfl) rfl rfl
  refine Call_ (ld_blt I hg2 hm2 PyProof.Rows.boot_set ?_)
  refine PyProof.Rows.callWith_type1 (PyProof.Rows.args_cons (thn (ha.run pins s σ H _ I h) fun v s1 ⟨x, H1, I1, r1, q1⟩ => PyProof.Rows.args_nil ?_) na) na rfl
  obtain ⟨l, ns, rfl, hq, hl, q1⟩ := q1
  cases r1
  obtain ⟨its, r, pl, hz⟩ := I1.list hq
  have hlen : its.toArray.size = ns.length := by rw [List.size_toArray, ← r.length, List.length_map]
  refine call_set_list (I1.ok.hd hc) pl.isList (by simpa using RZ.intsAre_vals r) (by rw [hlen]; unfold scanBound; omega) fun h' tk hS hk => ?_
  refine PyProof.Rows.args_nil ?_
  rw [hlen] at hS
  obtain ⟨o, es, ep, t, ho, hex, hd, _, _, _, hf, hn⟩ := hS
  have I2 : Inv X pins σ H1 { s1 with heap := h', toks := tk } := I1.kept fun b o e => hk b o (Heap.lt_size e) e
  have hb := fmI_len ns ns.length
  exact call_len_set ho hex hd hf (by rw [hn]; unfold fmI at hb; omega) ⟨.int (cntI ns : Nat), H1, I2.tok _, ⟨_, by rw [hn]; rfl⟩, q1⟩
end PSetI
end Hm
namespace Hm
open PySem PySem.Spec PyProof.Rows L2 Evl
/-! ### the law's draws -/
def sp_Lpick (K : PySem.W.Frag) : Sp := fun vs H Q _ => ∃ (t : Addr) (m : Int), vs = [.ref t, .int m] ∧ Tp (H t) ∧ 1 ≤ m ∧ m ≤ 1000000 ∧
  ∀ (d : Int) H', 0 ≤ d → d < m → Tp (H' t) → ExO t H H' → Q (.int d) H'
abbrev nm_Lpick : List Str := ["_law_tape_here", "_law_many", "_law_digit", "_law_mixed"]
abbrev pr_Lpick : List Str := ["_law_tape_here", "_law_many"]
def t_Lpick (K : PySem.W.Frag) : TS :=
  (tSeq (tIfS (tTest (tOp zGe (tOp (rIxL K) (tVar 0) (tC (.int 0))) (tOp zPow (tC (.int 10)) (tC (.int 18))))) (tSeq (tAsg (tOp zMod (tCB cInt (tCons (tOp (rIxL K) (tVar 0) (tC (.int 0))) tNil)) (tVar 1)) (gName 2))
      (tSeq (tAsg (tOp zDiv (tOp (rIxL K) (tVar 0) (tC (.int 0))) (tVar 1)) (gSub (tVar 0) (tC (.int 0)) rSetL))
      (tRet (tVar 2)))) tNext)
  (tSeq (tAsg (tOp zMod (tCB cInt (tCons (tOp zAdd (tOp zAdd (tOp zMul (tOp (rIxL K) (tVar 0) (tC (.int 1))) (tC (.int 48271))) (tOp zMul (tOp (rIxL K) (tVar 0) (tC (.int 0))) (tC (.int 69621)))) (tC (.int 11))) tNil)) (tC (.int 2147483647))) (gSub (tVar 0) (tC (.int 1)) rSetL))
  (tSeq (tAsg (tOp zMod (tCB cInt (tCons (tOp zAdd (tOp zAdd (tOp zMul (tOp (rIxL K) (tVar 0) (tC (.int 1))) (tOp (rIxL K) (tVar 0) (tC (.int 1)))) (tOp zMul (tOp (rIxL K) (tVar 0) (tC (.int 1))) (tC (.int 40692)))) (tC (.int 7))) tNil)) (tC (.int 2147483399))) (gName 3))
  (tRet (tOp zMod (tCB cInt (tCons (tOp zDiv (tVar 3) (tC (.int 64))) tNil)) (tVar 1))))))
abbrev Wt_Lpick (K : PySem.W.Frag) (vs : List V) (H : Hp) (Q : VK) : Prop := t_Lpick K { nx := fun _ H' => Q .non H', rt := Q } (start nm_Lpick vs) H
theorem ln_Lpick {K : PySem.W.Frag} (vs : List V) (H : Hp) (Q : VK) (E : XK) (h : sp_Lpick K vs H Q E) : vs.length = pr_Lpick.length := by
  obtain ⟨_, _, rfl, _⟩ := h
  rfl
theorem ev_ix0 {K : PySem.W.Frag} {σ : L2.St} {H : Hp} {t : Addr} {x y : Int} {i : Nat} (hs : σ[i]? = some (some (.ref t))) (h : H t = some (.lst [.int x, .int y])) : Ev (tOp (rIxL K) (tVar i) (tC (.int 0))) σ H (.int x) :=
  ev_op (ev_var hs) ev_c (rv_ixL (sq_of h) rfl)
theorem ev_ix1 {K : PySem.W.Frag} {σ : L2.St} {H : Hp} {t : Addr} {x y : Int} {i : Nat} (hs : σ[i]? = some (some (.ref t))) (h : H t = some (.lst [.int x, .int y])) : Ev (tOp (rIxL K) (tVar i) (tC (.int 1))) σ H (.int y) :=
  ev_op (ev_var hs) ev_c (rv_ixL (sq_of h) rfl)
theorem fmod_pos {a b : Int} (h : 0 < b) : 0 ≤ a.fmod b ∧ a.fmod b < b := ⟨Int.fmod_nonneg_of_pos a h, Int.fmod_lt_of_pos a h⟩
theorem fdiv_nn {a b : Int} (ha : 0 ≤ a) (hb : 0 < b) : 0 ≤ a.fdiv b := Int.fdiv_nonneg ha (Int.le_of_lt hb)
theorem rd_Lpick {K : PySem.W.Frag} (F : KF K) (vs : List V) (H : Hp) (Q : VK) (E : XK) (h : sp_Lpick K vs H Q E) : Wt_Lpick K vs H Q := by
  obtain ⟨t, m, rfl, ⟨x, y, ht, hx, hy, hy2⟩, hm, hm2, k⟩ := h
  show t_Lpick K _ [some (.ref t), some (.int m), none, none] H
  have hm0 : m ≠ 0 := by omega
  refine q_when (b := decide ((10 : Int) ^ (18 : Int).toNat ≤ x)) (et_test (ev_op (ev_ix0 rfl ht) (ev_op ev_c ev_c (rv_I ⟨by decide, by decide, by decide⟩)) rv_I0)) (fun hb H1 e1 => ?_) (fun hb H1 e1 => ?_)
  · have ht1 := e1 _ _ ht
    refine q_asg (ev_op (ev_cb (ea_1 (ev_ix0 rfl ht1)) rc_int) (ev_var rfl) (rv_I hm0)) (fun H2 e2 => ?_)
    have ht2 := e2 _ _ ht1
    refine q_setL (j := 0) ht2 (ev_op (ev_ix0 rfl ht2) (ev_var rfl) (rv_I ⟨hm0, by omega⟩)) (ev_var rfl) ev_c (by show 0 < 2; decide) (fun H3 e3 => ?_)
    refine s_ret (ev_var rfl) (fun H4 e4 => ?_)
    obtain ⟨d1, d2⟩ := fmod_pos (a := x) (b := m) (by omega)
    refine k _ _ d1 d2 ⟨_, _, e4 _ _ upd_same, fdiv_nn hx (by omega), hy, hy2⟩ ?_
    exact ((ExO.of (e1.trans (e2.trans e3))).upd).trans (ExO.of e4)
  · have hb := of_decide_eq_false hb
    have hx2 : x < 1000000000000000000 := by
      have : (10 : Int) ^ (18 : Int).toNat = 1000000000000000000 := by decide
      omega
    have ht1 := e1 _ _ ht
    refine q_setL (j := 1) ht1 (ev_op (ev_cb (ea_1 (ev_op (ev_op (ev_op (ev_ix1 rfl ht1) ev_c (rv_I (Or.inr ⟨by decide, by decide⟩))) (ev_op (ev_ix0 rfl ht1) ev_c (rv_I (Or.inr ⟨by decide, by decide⟩))) rv_I0) ev_c rv_I0)) rc_int) ev_c (rv_I (by decide))) (ev_var rfl) ev_c (by show 1 < 2; decide) (fun H2 e2 => ?_)
    obtain ⟨z1, z2⟩ := fmod_pos (a := y * 48271 + x * 69621 + 11) (b := 2147483647) (by decide)
    have ht2 : (upd H2 t (.lst ([V.int x, V.int y].set 1 (V.int ((y * 48271 + x * 69621 + 11).fmod 2147483647))))) t = some (.lst [.int x, .int ((y * 48271 + x * 69621 + 11).fmod 2147483647)]) := upd_same
    have hz : ∀ z : Int, z = (y * 48271 + x * 69621 + 11).fmod 2147483647 → 0 ≤ z ∧ z < 2147483647 := fun z e => by rw [e]; exact ⟨z1, z2⟩
    revert ht2
    generalize (y * 48271 + x * 69621 + 11).fmod 2147483647 = z at *
    intro ht2
    have hz := hz z rfl
    refine q_asg (ev_op (ev_cb (ea_1 (ev_op (ev_op (ev_op (ev_ix1 rfl ht2) (ev_ix1 rfl ht2) (rv_I (Or.inr ⟨by omega, by omega⟩))) (ev_op (ev_ix1 rfl ht2) ev_c (rv_I (Or.inr ⟨by decide, by decide⟩))) rv_I0) ev_c rv_I0)) rc_int) ev_c (rv_I (by decide))) (fun H3 e3 => ?_)
    refine s_ret (ev_op (ev_cb (ea_1 (ev_op (ev_var rfl) ev_c (rv_I ⟨by decide, by decide⟩))) rc_int) (ev_var rfl) (rv_I hm0)) (fun H4 e4 => ?_)
    obtain ⟨d1, d2⟩ := fmod_pos (a := ((z * z + z * 40692 + 7).fmod 2147483399).fdiv 64) (b := m) (by omega)
    refine k _ _ d1 d2 ⟨x, z, e4 _ _ (e3 _ _ ht2), hx, hz.1, hz.2⟩ ?_
    exact ((ExO.of (e1.trans e2)).upd).trans (ExO.of (e3.trans e4))
def sp_Ltape (K : PySem.W.Frag) : Sp := fun vs H Q _ => ∃ (a : Addr) (zs : List Int) (k : Int), vs = [.ref a, .int k] ∧ SqL K H a (zs.map V.int) ∧ 0 ≤ k ∧ k ≤ 100 ∧
  ∀ p H', H p = none → Tp (H' p) → Ex H H' → Q (.ref p) H'
abbrev nm_Ltape : List Str := ["_law_script", "_law_k", "_law_cell"]
abbrev pr_Ltape : List Str := ["_law_script", "_law_k"]
def t_Ltape (K : PySem.W.Frag) : TS :=
  (tSeq (tAsg (tC (.int 0)) (gName 2))
  (tSeq (tIfS (tTest (tOp (rNeD K) (tVar 0) (tLst tNil))) (tAsg (tOp (rIxL K) (tVar 0) (tOp zMod (tCB cInt (tCons (tVar 1) tNil)) (tCB (cLen K) (tCons (tVar 0) tNil)))) (gName 2)) tNext)
  (tRet (tLst (tCons (tCB cAbs (tCons (tVar 2) tNil)) (tCons (tOp zAdd (tOp zMul (tC (.int 7919)) (tVar 1)) (tC (.int 104729))) tNil))))))
abbrev Wt_Ltape (K : PySem.W.Frag) (vs : List V) (H : Hp) (Q : VK) : Prop := t_Ltape K { nx := fun _ H' => Q .non H', rt := Q } (start nm_Ltape vs) H
theorem ln_Ltape {K : PySem.W.Frag} (vs : List V) (H : Hp) (Q : VK) (E : XK) (h : sp_Ltape K vs H Q E) : vs.length = pr_Ltape.length := by
  obtain ⟨_, _, _, rfl, _⟩ := h
  rfl
theorem dpAll_ints {K : PySem.W.Frag} {H : Hp} : ∀ zs : List Int, DpAll K H (zs.map V.int) (zs.map PyData.int)
  | [] => .nil
  | z :: r => .cons (.int z) (dpAll_ints r)
theorem shaped_ints (zs : List Int) : SeqAt.shaped (.list (zs.map PyData.int)) = true := by
  have h : ∀ zs : List Int, PyData.canLayAll0 (zs.map PyData.int) = true ∧ PyData.depthAll (zs.map PyData.int) = 0 := by
    intro zs
    induction zs with
    | nil => exact ⟨by simp [PyData.canLayAll0], by simp [PyData.depthAll]⟩
    | cons n r ih => exact ⟨by simp [PyData.canLayAll0, PyData.canLay0, ih.1], by simp [PyData.depthAll, PyData.depth, ih.2]⟩
  obtain ⟨h1, h2⟩ := h zs
  have e1 : PyData.canLay0 (.list (zs.map PyData.int)) = true := by simp [PyData.canLay0, h1]
  have e2 : PyData.depth (.list (zs.map PyData.int)) ≤ 64 := by simp [PyData.depth, h2]
  unfold SeqAt.shaped
  rw [e1, decide_eq_true e2]
  rfl
theorem eqv_nil (zs : List Int) : PyData.eqv (.list (zs.map PyData.int)) (.list []) = zs.isEmpty := by
  cases zs <;> simp [PyData.eqv, PyData.eqvAll]
theorem rd_Ltape {K : PySem.W.Frag} (F : KF K) (vs : List V) (H : Hp) (Q : VK) (E : XK) (h : sp_Ltape K vs H Q E) : Wt_Ltape K vs H Q := by
  obtain ⟨a, zs, k, rfl, hS, k0, k1, q⟩ := h
  show t_Ltape K _ [some (.ref a), some (.int k), none] H
  refine q_asg ev_c (fun H1 e1 => ?_)
  have hS1 := ex_l e1 hS
  have fin : ∀ (c : Int) (H2 : Hp), Ex H H2 → tRet (tLst (tCons (tCB cAbs (tCons (tVar 2) tNil)) (tCons (tOp zAdd (tOp zMul (tC (.int 7919)) (tVar 1)) (tC (.int 104729))) tNil))) { nx := fun _ H' => Q .non H', rt := Q } [some (.ref a), some (.int k), some (.int c)] H2 := by
    intro c H2 e2
    refine s_retL (el_lst (ea_2 (ev_cb (ea_1 (ev_var rfl)) rc_abs) (ev_op (ev_op ev_c (ev_var rfl) (rv_I (Or.inl ⟨by decide, by decide⟩))) ev_c rv_I0)) (by show 2 ≤ 100000; decide)) (fun p H3 hp e3 h3 => ?_)
    refine q p H3 (fresh_back e2 hp) ⟨_, _, h3, ?_, by dsimp only; omega, by dsimp only; omega⟩ (e2.trans e3)
    split <;> omega
  refine q_when (b := !zs.isEmpty) (et_test (ev_opL (xs := []) (ev_var rfl) (el_lst ea_nil (Nat.zero_le _)) (fun p H2 hp e2 => ?_))) (fun hb H2 e2 => ?_) (fun hb H2 e2 => ?_)
  · rw [← eqv_nil]
    exact rv_neD' (Dp.lst (ex_l e2 hS1) (dpAll_ints zs)) (Dp.lst (sq_of hp) .nil) (shaped_ints zs) (by decide)
  · have hS2 := ex_l e2 hS1
    have hl : 0 < zs.length := by
      cases zs with
      | nil => cases hb
      | cons z r => exact Nat.succ_pos _
    have hl2 : (zs.map V.int).length = zs.length := List.length_map ..
    obtain ⟨m1, m2⟩ := fmod_pos (a := k) (b := ((zs.map V.int).length : Int)) (by omega)
    have hj : (k.fmod ((zs.map V.int).length : Int)).toNat < zs.length := by omega
    have hat : atI (zs.map V.int) (k.fmod ((zs.map V.int).length : Int)) = some (.int (zs[(k.fmod ((zs.map V.int).length : Int)).toNat]'hj)) := by
      refine at_of (j := (k.fmod ((zs.map V.int).length : Int)).toNat) (by omega) ?_
      rw [List.getElem?_map, List.getElem?_eq_getElem hj]
      rfl
    refine s_asg (ev_op (ev_var rfl) (ev_op (ev_cb (ea_1 (ev_var rfl)) rc_int) (ev_cb (ea_1 (ev_var rfl)) (rc_len hS2)) (rv_I (by omega))) (rv_ixL hS2 hat)) (fun H3 e3 => ?_)
    exact fin _ H3 (e1.trans (e2.trans e3))
  · exact fin 0 H2 (e1.trans e2)
end Hm
namespace Hm
open PySem PySem.Spec PyProof.Rows L2 Evl
section
variable {K : PySem.W.Frag} {σ : L2.St} {H : Hp} {ta tb te : TE} {D : Ends} {tz : TS}
theorem q_asgC {sp : Sp} {E : XK} {ta : TA} {vs : List V} {i : Nat} (h : EvA ta σ H vs) (k : ∀ H1, Ex H H1 → sp vs H1 (fun v H2 => tz D (σ.set i (some v)) H2) E) : tSeq (tAsg (tCall sp [] E ta) (gName i)) tz D σ H :=
  h H (Ex.refl H) _ fun H1 e => by
    show sp (vs ++ []) H1 _ E
    rw [List.append_nil]
    exact k H1 e
theorem s_asgC {sp : Sp} {E : XK} {ta : TA} {vs : List V} {i : Nat} (h : EvA ta σ H vs) (k : ∀ H1, Ex H H1 → sp vs H1 (fun v H2 => D.nx (σ.set i (some v)) H2) E) : tAsg (tCall sp [] E ta) (gName i) D σ H :=
  h H (Ex.refl H) _ fun H1 e => by
    show sp (vs ++ []) H1 _ E
    rw [List.append_nil]
    exact k H1 e
theorem s_retC {sp : Sp} {E : XK} {ta : TA} {vs : List V} (h : EvA ta σ H vs) (k : ∀ H1, Ex H H1 → sp vs H1 D.rt E) : tRet (tCall sp [] E ta) D σ H :=
  h H (Ex.refl H) _ fun H1 e => by
    show sp (vs ++ []) H1 _ E
    rw [List.append_nil]
    exact k H1 e
theorem el_cat {xs ys : List V} (ha : EvL ta σ H xs) (hb : EvL tb σ H ys) (hz : xs.length + ys.length ≤ 100000) : EvL (tOp rCat ta tb) σ H (xs ++ ys) := fun H1 e Q q =>
  ha H1 e _ fun p H2 _ e2 h2 => hb H2 (e.trans e2) _ fun p' H3 _ e3 h3 => ⟨p, p', xs, ys, rfl, rfl, e3 _ _ h2, h3, sz_of hz, fun r hr => q r _ (fresh_back (e2.trans e3) hr) ((e2.trans e3).trans (Ex.new hr)) upd_same⟩
end
theorem given_all (n : Nat) (v : Nat → V) : given n (fun _ => true) v = (List.range n).map v := by
  show ((List.range n).filter fun _ => true).map v = _
  rw [List.filter_eq_self.mpr fun _ _ => rfl]
theorem cut_to {xs : List V} {j : Nat} (h : j ≤ xs.length) : cutV xs none (some (j : Int)) = xs.take j := by
  unfold cutV
  rw [HT.sIx_none, HT.sIx_nat, Nat.min_eq_left h]
  rfl
theorem cut_from {xs : List V} {j : Nat} (h : j ≤ xs.length) : cutV xs (some (j : Int)) none = xs.drop j := by
  unfold cutV
  rw [HT.sIx_none, HT.sIx_nat, Nat.min_eq_left h]
  rw [List.take_of_length_le (by rw [List.length_drop]; exact Nat.le_refl _)]
theorem L_take (ns : List Nat) (j : Nat) : (L ns).take j = L (ns.take j) := by unfold L; rw [List.map_take]
theorem L_drop (ns : List Nat) (j : Nat) : (L ns).drop j = L (ns.drop j) := by unfold L; rw [List.map_drop]
theorem perm_out {l : List Nat} {j : Nat} (h : j < l.length) : (fn l j :: (l.take j ++ l.drop (j + 1))).Perm l := by
  have e : l = l.take j ++ fn l j :: l.drop (j + 1) := by
    have h2 : l.drop j = fn l j :: l.drop (j + 1) := by
      rw [List.drop_eq_getElem_cons h]
      have h3 := fn_get h
      rw [List.getElem?_eq_getElem h] at h3
      rw [Option.some.inj h3]
    rw [← h2, List.take_append_drop]
  have h4 : (l.take j ++ fn l j :: l.drop (j + 1)).Perm (fn l j :: (l.take j ++ l.drop (j + 1))) := List.perm_middle
  rw [← e] at h4
  exact h4.symm

def sp_Lnexts (K : PySem.W.Frag) : Sp := fun vs H Q _ => ∃ (t : Addr) (e : Nat), vs = [.ref t, .int (e : Int)] ∧ Tp (H t) ∧ e ≤ 60 ∧
  ∀ p H' ns, H p = none → H' p = some (.lst (L ns)) → IsP ns → ns.length = 2 * e → Tp (H' t) → ExO t H H' → Q (.ref p) H'
abbrev nm_Lnexts : List Str := ["_law_tape_here", "_law_edges", "_law_k", "_law_left", "_law_nexts_here", "_law_at"]
abbrev pr_Lnexts : List Str := ["_law_tape_here", "_law_edges"]
def t_Lnexts (K : PySem.W.Frag) : TS :=
  (tSeq (tAsg (tLc (iRng1 (tCons (tOp zMul (tC (.int 2)) (tVar 1)) tNil)) (gName 2) tYes (tVar 2) [2]) (gName 3))
  (tSeq (tAsg (tLst tNil) (gName 4))
  (tSeq (tFor (iRng1 (tCons (tOp zMul (tC (.int 2)) (tVar 1)) tNil)) (gName 2) (tSeq (tAsg (tCall (sp_Lpick K) [] E0 (tCons (tVar 0) (tCons (tCB (cLen K) (tCons (tVar 3) tNil)) tNil))) (gName 5))
      (tSeq (tDrop (tBM K "list" rAppend (tVar 4) (tCons (tOp (rIxL K) (tVar 3) (tVar 5)) tNil)))
      (tAsg (tOp rCat (tSl (rSlL K) (tVar 3) tNoPart (tPart (tVar 5))) (tSl (rSlL K) (tVar 3) (tPart (tOp zAdd (tVar 5) (tC (.int 1)))) tNoPart)) (gName 3)))))
  (tRet (tVar 4)))))
abbrev Wt_Lnexts (K : PySem.W.Frag) (vs : List V) (H : Hp) (Q : VK) : Prop := t_Lnexts K { nx := fun _ H' => Q .non H', rt := Q } (start nm_Lnexts vs) H
theorem ln_Lnexts {K : PySem.W.Frag} (vs : List V) (H : Hp) (Q : VK) (E : XK) (h : sp_Lnexts K vs H Q E) : vs.length = pr_Lnexts.length := by
  obtain ⟨_, _, rfl, _⟩ := h
  rfl
theorem tp_ne {H : Hp} {t p : Addr} (h : Tp (H t)) (hp : H p = none) : p ≠ t := by
  obtain ⟨_, _, h, _⟩ := h
  exact (ne_of_none h hp).symm
theorem tp_ex {H H' : Hp} {t : Addr} (h : Tp (H t)) (e : Ex H H') : Tp (H' t) := by
  obtain ⟨x, y, h, r⟩ := h
  exact ⟨x, y, e _ _ h, r⟩
theorem rd_Lnexts {K : PySem.W.Frag} (F : KF K) (vs : List V) (H : Hp) (Q : VK) (E : XK) (h : sp_Lnexts K vs H Q E) : Wt_Lnexts K vs H Q := by
  obtain ⟨t, e, rfl, ht, he, k⟩ := h
  show t_Lnexts K _ [some (.ref t), some (.int (e : Int)), none, none, none, none] H
  have hn : ∀ σ H1, σ[1]? = some (some (V.int (e : Int))) → EvA (tCons (tOp zMul (tC (.int 2)) (tVar 1)) tNil) σ H1 [.int (2 * (e : Int))] := fun σ H1 hs => ea_1 (ev_op ev_c (ev_var hs) (rv_I (Or.inl ⟨by decide, by decide⟩)))
  have h2 : ((2 * (e : Int)).toNat) = 2 * e := by omega
  refine q_asgL (xs := L (List.range (2 * e))) ?_ (fun pl H1 hpl e1 h1 => ?_)
  · have := el_lcR1 (σ := [some (.ref t), some (.int (e : Int)), none, none, none, none]) (H := H) (j := 2) (vs := [2]) (t := tYes) (te := tVar 2) (fun _ => true) (fun i => vi i) (hn _ H rfl) (by omega) (fun _ => rfl) (fun i H1 _ _ => et_yes) (fun i H1 _ _ _ => ev_var rfl)
    rw [given_all, h2] at this
    exact this
  refine q_asgL (el_lst ea_nil (Nat.zero_le _)) (fun pn H2 hpn e2 hp2 => ?_)
  have hpn0 : H pn = none := fresh_back e1 hpn
  have hpt : pn ≠ t := tp_ne ht hpn0
  refine q_forR1 (hn _ _ rfl) (by omega) (fun i σ' H' => ∃ (left done : List Nat) (pl : Addr) (v2 v5 : Option V), σ' = [some (.ref t), some (.int (e : Int)), v2, some (.ref pl), some (.ref pn), v5] ∧
      H' pl = some (.lst (L left)) ∧ H' pn = some (.lst (L done)) ∧ pl ≠ pn ∧ pl ≠ t ∧ Tp (H' t) ∧ ExO t H H' ∧ (done ++ left).Perm (List.range (2 * e)) ∧ done.length = i) ?_ ?_ ?_
  · intro H3 e3
    refine ⟨List.range (2 * e), [], pl, _, _, rfl, e3 _ _ (e2 _ _ h1), e3 _ _ hp2, ne_of_none h1 hpn, tp_ne ht hpl, tp_ex (tp_ex (tp_ex ht e1) e2) e3, ExO.of (e1.trans (e2.trans e3)), ?_, rfl⟩
    exact List.Perm.refl _
  · rintro i σ' H' hi ⟨left, done, pl, v2, v5, rfl, a1, a2, a3, a4, a5, a6, a7, a8⟩
    have hlen : done.length + left.length = 2 * e := by
      have := a7.length_eq
      rw [List.length_append, List.length_range] at this
      exact this
    have hleft : 0 < left.length := by omega
    refine q_asgC (ea_2 (ev_var rfl) (ev_cb (ea_1 (ev_var rfl)) (rc_len (sq_of a1)))) (fun H1 e1 => ?_)
    refine ⟨t, _, rfl, tp_ex a5 e1, by rw [L_len]; omega, by rw [L_len]; omega, fun d H2 d0 d1 t2 x2 => ?_⟩
    have b1 : H2 pl = some (.lst (L left)) := x2 _ _ a4 (e1 _ _ a1)
    have b2 : H2 pn = some (.lst (L done)) := x2 _ _ hpt (e1 _ _ a2)
    rw [L_len] at d1
    obtain ⟨j, rfl⟩ : ∃ j : Nat, d = (j : Int) := ⟨d.toNat, by omega⟩
    have hj : j < left.length := by omega
    have hx2 : ExO t H H2 := a6.trans ((ExO.of e1).trans x2)
    refine q_app b2 (ev_var rfl) (ev_op (ev_var rfl) (ev_var rfl) (rv_ixL (sq_of b1) (L_at hj))) (by rw [L_len]; omega) (fun H3 e3 => ?_)
    have c1 : (upd H3 pn (.lst (L done ++ [vi (fn left j)]))) pl = some (.lst (L left)) := by
      rw [upd_ne a3]
      exact e3 _ _ b1
    have el1 := el_sl (K := K) (te := tVar 3) (tl := tNoPart) (th := tPart (tVar 5)) (σ := [some (.ref t), some (.int (e : Int)), some (vi i), some (.ref pl), some (.ref pn), some (vi j)]) (ev_var rfl) eo_none (eo_some (ev_var rfl)) (sq_of c1)
    have el2 := el_sl (K := K) (te := tVar 3) (tl := tPart (tOp zAdd (tVar 5) (tC (.int 1)))) (th := tNoPart) (σ := [some (.ref t), some (.int (e : Int)), some (vi i), some (.ref pl), some (.ref pn), some (vi j)]) (ev_var rfl) (eo_some (ev_op (ev_var rfl) ev_c rv_I0)) eo_none (sq_of c1)
    have ej : ((j : Int) + 1) = ((j + 1 : Nat) : Int) := by omega
    rw [cut_to (by rw [L_len]; omega), L_take] at el1
    simp only [ej] at el2
    rw [cut_from (by rw [L_len]; omega), L_drop] at el2
    refine s_asgL (el_cat el1 el2 (by rw [L_len, L_len, List.length_take, List.length_drop]; omega)) (fun pq H4 hpq e4 h4 => ?_)
    have hq1 : pq ≠ pn := (ne_of_none upd_same hpq).symm
    have t3 : Tp ((upd H3 pn (.lst (L done ++ [vi (fn left j)]))) t) := by
      rw [upd_ne hpt.symm]
      exact tp_ex t2 e3
    have hq2 : pq ≠ t := tp_ne t3 hpq
    refine ⟨left.take j ++ left.drop (j + 1), done ++ [fn left j], pq, _, _, rfl, by rw [h4, L_app], by rw [e4 _ _ upd_same, L_app]; rfl, hq1, hq2, tp_ex t3 e4, ((hx2.trans (ExO.of e3)).mut hpn0).trans (ExO.of e4), ?_, by rw [List.length_append]; show done.length + 1 = i + 1; omega⟩
    refine List.Perm.trans ?_ a7
    rw [List.append_assoc]
    exact List.Perm.append_left _ (perm_out hj)
  · rintro σ' H' ⟨left, done, pl, v2, v5, rfl, a1, a2, a3, a4, a5, a6, a7, a8⟩
    rw [h2] at a8
    have hlen : done.length + left.length = 2 * e := by
      have := a7.length_eq
      rw [List.length_append, List.length_range] at this
      exact this
    have hl0 : left = [] := List.eq_nil_of_length_eq_zero (by omega)
    subst hl0
    rw [List.append_nil] at a7
    refine s_ret (ev_var rfl) (fun H1 e1 => ?_)
    exact k pn H1 done hpn0 (e1 _ _ a2) ⟨by rw [a8]; exact a7⟩ a8 (tp_ex a5 e1) (a6.trans (ExO.of e1))

def sp_Lsize (K : PySem.W.Frag) : Sp := fun vs H Q _ => ∃ t : Addr, vs = [.ref t] ∧ Tp (H t) ∧ ∀ (e : Nat) H', e ≤ 30 → Tp (H' t) → ExO t H H' → Q (.int (e : Int)) H'
abbrev nm_Lsize : List Str := ["_law_tape_here", "_law_choice"]
abbrev pr_Lsize : List Str := ["_law_tape_here"]
def t_Lsize (K : PySem.W.Frag) : TS :=
  (tSeq (tAsg (tCall (sp_Lpick K) [] E0 (tCons (tVar 0) (tCons (tC (.int 32)) tNil))) (gName 1))
  (tSeq (tIfS (tTest (tOp rEq (tVar 1) (tC (.int 0)))) (tRet (tC (.int 30))) tNext)
  (tSeq (tIfS (tTest (tOp zLt (tVar 1) (tC (.int 5)))) (tRet (tCall (sp_Lpick K) [] E0 (tCons (tVar 0) (tCons (tC (.int 13)) tNil)))) tNext)
  (tRet (tCall (sp_Lpick K) [] E0 (tCons (tVar 0) (tCons (tC (.int 8)) tNil)))))))
abbrev Wt_Lsize (K : PySem.W.Frag) (vs : List V) (H : Hp) (Q : VK) : Prop := t_Lsize K { nx := fun _ H' => Q .non H', rt := Q } (start nm_Lsize vs) H
theorem ln_Lsize {K : PySem.W.Frag} (vs : List V) (H : Hp) (Q : VK) (E : XK) (h : sp_Lsize K vs H Q E) : vs.length = pr_Lsize.length := by
  obtain ⟨_, rfl, _⟩ := h
  rfl
theorem rd_Lsize {K : PySem.W.Frag} (F : KF K) (vs : List V) (H : Hp) (Q : VK) (E : XK) (h : sp_Lsize K vs H Q E) : Wt_Lsize K vs H Q := by
  obtain ⟨t, rfl, ht, k⟩ := h
  show t_Lsize K _ [some (.ref t), none] H
  have dr : ∀ (m : Int) σ H2, σ[0]? = some (some (V.ref t)) → 1 ≤ m → m ≤ 30 → Tp (H2 t) → ExO t H H2 → tRet (tCall (sp_Lpick K) [] E0 (tCons (tVar 0) (tCons (tC (.int m)) tNil))) { nx := fun _ H' => Q .non H', rt := Q } σ H2 := by
    intro m σ H2 hs m1 m2 t2 x2
    refine s_retC (ea_2 (ev_var hs) ev_c) (fun H3 e3 => ?_)
    refine ⟨t, m, rfl, tp_ex t2 e3, m1, by omega, fun d H4 d0 d1 t4 x4 => ?_⟩
    obtain ⟨j, rfl⟩ : ∃ j : Nat, d = (j : Int) := ⟨d.toNat, by omega⟩
    exact k j H4 (by omega) t4 (x2.trans ((ExO.of e3).trans x4))
  refine q_asgC (ea_2 (ev_var rfl) ev_c) (fun H1 e1 => ?_)
  refine ⟨t, 32, rfl, tp_ex ht e1, by decide, by decide, fun d H2 d0 d1 t2 x2 => ?_⟩
  have hx2 : ExO t H H2 := (ExO.of e1).trans x2
  refine q_when (b := decide (V.int d = V.int 0)) (et_test (ev_op (ev_var rfl) ev_c (rv_eq rfl))) (fun _ H3 e3 => ?_) (fun _ H3 e3 => ?_)
  · refine s_ret ev_c (fun H4 e4 => ?_)
    exact k 30 H4 (by omega) (tp_ex t2 (e3.trans e4)) (hx2.trans (ExO.of (e3.trans e4)))
  · refine q_when (b := decide (d < 5)) (et_test (ev_op (ev_var rfl) ev_c rv_I0)) (fun _ H4 e4 => ?_) (fun _ H4 e4 => ?_)
    · exact dr 13 _ H4 rfl (by decide) (by decide) (tp_ex t2 (e3.trans e4)) (hx2.trans (ExO.of (e3.trans e4)))
    · exact dr 8 _ H4 rfl (by decide) (by decide) (tp_ex t2 (e3.trans e4)) (hx2.trans (ExO.of (e3.trans e4)))

/-! ### the law's rounds -/
def sp_Ltwin (K : PySem.W.Frag) : Sp := fun vs H Q _ => ∃ h : Nat, vs = [vi h] ∧ ∀ H', Ex H H' → Q (vi (tw h)) H'
abbrev nm_Ltwin : List Str := ["_law_half"]
abbrev pr_Ltwin : List Str := ["_law_half"]
def t_Ltwin (K : PySem.W.Frag) : TS :=
  (tRet (tOp zSub (tOp zAdd (tVar 0) (tC (.int 1))) (tOp zMul (tC (.int 2)) (tOp zMod (tCB cInt (tCons (tVar 0) tNil)) (tC (.int 2))))))
abbrev Wt_Ltwin (K : PySem.W.Frag) (vs : List V) (H : Hp) (Q : VK) : Prop := t_Ltwin K { nx := fun _ H' => Q .non H', rt := Q } (start nm_Ltwin vs) H
theorem ln_Ltwin {K : PySem.W.Frag} (vs : List V) (H : Hp) (Q : VK) (E : XK) (h : sp_Ltwin K vs H Q E) : vs.length = pr_Ltwin.length := by
  obtain ⟨_, rfl, _⟩ := h
  rfl
theorem tw_int (h : Nat) : (h : Int) + 1 - 2 * (h : Int).fmod 2 = ((tw h : Nat) : Int) := by
  rw [Int.fmod_eq_emod_of_nonneg _ (by decide)]
  unfold tw
  split <;> omega
theorem rd_Ltwin {K : PySem.W.Frag} (F : KF K) (vs : List V) (H : Hp) (Q : VK) (E : XK) (h : sp_Ltwin K vs H Q E) : Wt_Ltwin K vs H Q := by
  obtain ⟨h, rfl, k⟩ := h
  show t_Ltwin K _ [some (vi h)] H
  refine s_ret (v := vi (tw h)) (ev_is (ev_op (ev_op (ev_var rfl) ev_c rv_I0) (ev_op ev_c (ev_op (ev_cb (ea_1 (ev_var rfl)) rc_int) ev_c (rv_I (by decide))) (rv_I (Or.inl ⟨by decide, by decide⟩))) rv_I0) (by show V.int ((h : Int) + 1 - 2 * (h : Int).fmod 2) = V.int _; rw [tw_int])) (fun H1 e1 => k H1 e1)
theorem spv_Ltwin {K : PySem.W.Frag} {H : Hp} (h : Nat) : SpV (sp_Ltwin K) [vi h] H (vi (tw h)) := fun H1 _ Q q E => ⟨h, rfl, q⟩

def sp_Lturned (K : PySem.W.Frag) : Sp := fun vs H Q _ => ∃ (a : Addr) (ns : List Nat) (h : Nat), vs = [.ref a, vi h] ∧ SqL K H a (L ns) ∧ IsP ns ∧ ns.length ≤ 1000 ∧ h < ns.length ∧
  ∀ H', Ex H H' → Q (vi (tw (bk ns h))) H'
abbrev nm_Lturned : List Str := ["_law_nexts_here", "_law_half", "_law_k"]
abbrev pr_Lturned : List Str := ["_law_nexts_here", "_law_half"]
def t_Lturned (K : PySem.W.Frag) : TS :=
  (tSeq (tFor (iRng1 (tCons (tCB (cLen K) (tCons (tVar 0) tNil)) tNil)) (gName 2) (tIfS (tTest (tOp rEq (tOp (rIxL K) (tVar 0) (tVar 2)) (tVar 1))) (tRet (tCall (sp_Ltwin K) [] E0 (tCons (tVar 2) tNil))) tNext))
  (tRet (tUn zNeg (tC (.int 1)))))
abbrev Wt_Lturned (K : PySem.W.Frag) (vs : List V) (H : Hp) (Q : VK) : Prop := t_Lturned K { nx := fun _ H' => Q .non H', rt := Q } (start nm_Lturned vs) H
theorem ln_Lturned {K : PySem.W.Frag} (vs : List V) (H : Hp) (Q : VK) (E : XK) (h : sp_Lturned K vs H Q E) : vs.length = pr_Lturned.length := by
  obtain ⟨_, _, _, rfl, _⟩ := h
  rfl
theorem rd_Lturned {K : PySem.W.Frag} (F : KF K) (vs : List V) (H : Hp) (Q : VK) (E : XK) (h : sp_Lturned K vs H Q E) : Wt_Lturned K vs H Q := by
  obtain ⟨a, ns, h, rfl, hS, hP, hl, hh, k⟩ := h
  show t_Lturned K _ [some (.ref a), some (vi h), none] H
  refine q_forR1 (n := (ns.length : Int)) (ea_1 (ev_is (ev_cb (ea_1 (ev_var rfl)) (rc_len hS)) (by rw [L_len]))) (by omega) (fun i σ' H' => ∃ v, σ' = [some (.ref a), some (vi h), v] ∧ Ex H H' ∧ i ≤ bk ns h) ?_ ?_ ?_
  · intro H1 e1
    exact ⟨none, rfl, e1, Nat.zero_le _⟩
  · rintro i σ' H' hi ⟨v, rfl, ex, hb⟩
    have hi' : i < ns.length := by omega
    refine s_when (b := decide (vi (fn ns i) = vi h)) (et_test (ev_op (ev_op (ev_var rfl) (ev_var rfl) (rv_ixL (ex_l ex hS) (L_at hi'))) (ev_var rfl) (rv_eq rfl))) (fun ht H1 e1 => ?_) (fun hf H1 e1 => ?_)
    · have e0 : fn ns i = h := by
        have := of_decide_eq_true ht
        injection this with this
        omega
      have e2 : i = bk ns h := by rw [← e0, bk_fn hP hi']
      refine s_retC (ea_1 (ev_var rfl)) (fun H2 e2' => ?_)
      refine ⟨i, rfl, fun H3 e3 => ?_⟩
      show Q (vi (tw i)) H3
      rw [e2]
      exact k H3 (ex.trans (e1.trans (e2'.trans e3)))
    · refine ⟨_, rfl, ex.trans e1, ?_⟩
      have e0 : i ≠ bk ns h := fun e => by
        refine (of_decide_eq_false hf) ?_
        rw [e, fn_bk hP hh]
      omega
  · rintro σ' H' ⟨v, rfl, ex, hb⟩
    have := bk_lt hP hh
    rw [Int.toNat_natCast] at hb
    omega
theorem spv_Lturned {K : PySem.W.Frag} {H : Hp} {a : Addr} {ns : List Nat} {h : Nat} (hS : SqL K H a (L ns)) (hP : IsP ns) (hl : ns.length ≤ 1000) (hh : h < ns.length) : SpV (sp_Lturned K) [.ref a, vi h] H (vi (tw (bk ns h))) :=
  fun H1 e Q q E => ⟨a, ns, h, rfl, ex_l e hS, hP, hl, hh, q⟩

/-- one step of a face, of a corner -/
def stp (ns : List Nat) (b : Bool) (x : Nat) : Nat := if b then fn ns x else tw (bk ns x)
theorem pf_stp {ns : List Nat} (h : IsP ns) (h2 : ns.length % 2 = 0) (b : Bool) : Pf (stp ns b) ns.length := by
  cases b with
  | true => exact pf_fn h
  | false => exact pf_turn h h2
def sp_Lround (K : PySem.W.Frag) : Sp := fun vs H Q _ => ∃ (a : Addr) (ns : List Nat) (h : Nat) (b : Bool), vs = [.ref a, vi h, .bl b] ∧ SqL K H a (L ns) ∧ IsP ns ∧ ns.length % 2 = 0 ∧ ns.length ≤ 1000 ∧ h < ns.length ∧
  ∀ p H', H p = none → Ex H H' → H' p = some (.lst (L (rnd (stp ns b) ns.length h))) → Q (.ref p) H'
abbrev nm_Lround : List Str := ["_law_nexts_here", "_law_half", "_law_by_face", "_law_found", "_law_after"]
abbrev pr_Lround : List Str := ["_law_nexts_here", "_law_half", "_law_by_face"]
def t_Lround (K : PySem.W.Frag) : TS :=
  (tSeq (tAsg (tLst (tCons (tVar 1) tNil)) (gName 3))
  (tSeq (tAsg (tIf (tB (tVar 2)) (tOp (rIxL K) (tVar 0) (tVar 1)) (tCall (sp_Lturned K) [] E0 (tCons (tVar 0) (tCons (tVar 1) tNil)))) (gName 4))
  (tSeq (tWhile (tAnd (tTest (tOp rNe (tVar 4) (tVar 1))) (tTest (tOp zLe (tCB (cLen K) (tCons (tVar 3) tNil)) (tCB (cLen K) (tCons (tVar 0) tNil))))) (tSeq (tDrop (tBM K "list" rAppend (tVar 3) (tCons (tVar 4) tNil)))
      (tAsg (tIf (tB (tVar 2)) (tOp (rIxL K) (tVar 0) (tVar 4)) (tCall (sp_Lturned K) [] E0 (tCons (tVar 0) (tCons (tVar 4) tNil)))) (gName 4))))
  (tRet (tVar 3)))))
abbrev Wt_Lround (K : PySem.W.Frag) (vs : List V) (H : Hp) (Q : VK) : Prop := t_Lround K { nx := fun _ H' => Q .non H', rt := Q } (start nm_Lround vs) H
theorem ln_Lround {K : PySem.W.Frag} (vs : List V) (H : Hp) (Q : VK) (E : XK) (h : sp_Lround K vs H Q E) : vs.length = pr_Lround.length := by
  obtain ⟨_, _, _, _, rfl, _⟩ := h
  rfl
theorem ev_stp {K : PySem.W.Frag} {σ : L2.St} {H : Hp} {a : Addr} {ns : List Nat} {b : Bool} {i x : Nat} (hS : SqL K H a (L ns)) (hP : IsP ns) (hl : ns.length ≤ 1000) (s0 : σ[0]? = some (some (.ref a))) (s2 : σ[2]? = some (some (.bl b))) (si : σ[i]? = some (some (vi x))) (hx : x < ns.length) :
    Ev (tIf (tB (tVar 2)) (tOp (rIxL K) (tVar 0) (tVar i)) (tCall (sp_Lturned K) [] E0 (tCons (tVar 0) (tCons (tVar i) tNil)))) σ H (vi (stp ns b x)) := by
  refine ev_if (b := b) (et_B (ev_var s2)) (fun hb => ?_) (fun hb => ?_)
  · subst hb
    exact ev_op (ev_var s0) (ev_var si) (rv_ixL hS (L_at hx))
  · subst hb
    exact ev_call (ea_2 (ev_var s0) (ev_var si)) (spv_Lturned hS hP hl hx)
theorem range_map_snoc {α : Type} (f : Nat → α) (k : Nat) : (List.range (k + 1)).map f = (List.range k).map f ++ [f k] := by
  rw [List.range_succ, List.map_append]
  rfl
theorem rd_Lround {K : PySem.W.Frag} (F : KF K) (vs : List V) (H : Hp) (Q : VK) (E : XK) (h : sp_Lround K vs H Q E) : Wt_Lround K vs H Q := by
  obtain ⟨a, ns, h, b, rfl, hS, hP, h2, hl, hh, kk⟩ := h
  show t_Lround K _ [some (.ref a), some (vi h), some (.bl b), none, none] H
  have PF := pf_stp hP h2 b
  obtain ⟨p1, p2, p3⟩ := per_spec PF hh
  have p0 := per_pos (stp ns b) ns.length h
  refine q_asgL (el_lst (ea_1 (ev_var rfl)) (by show 1 ≤ 100000; decide)) (fun p H1 hp e1 h1 => ?_)
  refine q_asg (ev_stp (i := 1) (x := h) (ex_l e1 hS) hP hl rfl rfl rfl hh) (fun H2 e2 => ?_)
  refine q_while (fun m σ' H' => ∃ k, 1 ≤ k ∧ k ≤ per (stp ns b) ns.length h ∧ m = per (stp ns b) ns.length h - k ∧ σ' = [some (.ref a), some (vi h), some (.bl b), some (.ref p), some (vi (itr (stp ns b) k h))] ∧
      H' p = some (.lst (L ((List.range k).map fun j => itr (stp ns b) j h))) ∧ Ex H H') (per (stp ns b) ns.length h - 1) ?_ ?_
  · exact ⟨1, Nat.le_refl _, p0, rfl, rfl, e2 _ _ h1, e1.trans e2⟩
  · rintro m σ' H' ⟨k, k1, k2, rfl, rfl, a1, ex⟩
    refine ⟨_, et_and (et_test (ev_op (ev_var rfl) (ev_var rfl) (rv_ne rfl))) (fun _ => et_test (ev_op (ev_cb (ea_1 (ev_var rfl)) (rc_len (sq_of a1))) (ev_cb (ea_1 (ev_var rfl)) (rc_len (ex_l ex hS))) rv_I0)), fun hb H1 e1 => ?_, fun hb H1 e1 => ?_⟩
    · obtain ⟨b1, b2⟩ := Bool.and_eq_true_iff.mp hb
      have hne : itr (stp ns b) k h ≠ h := fun e => by
        rw [e] at b1
        simp at b1
      have hk : k < per (stp ns b) ns.length h := by
        refine Nat.lt_of_le_of_ne k2 fun e => hne ?_
        rw [e]
        exact p1
      refine ⟨_, fun σ2 H2 hN => ⟨per (stp ns b) ns.length h - (k + 1), by omega, hN⟩, ?_⟩
      refine q_app (e1 _ _ a1) (ev_var rfl) (ev_var rfl) (by rw [L_len, List.length_map, List.length_range]; omega) (fun H2 e2 => ?_)
      have ex2 : Ex H (upd H2 p (.lst (L ((List.range k).map fun j => itr (stp ns b) j h) ++ [vi (itr (stp ns b) k h)]))) := Ex.mut (ex.trans (e1.trans e2)) hp
      refine s_asg (ev_stp (i := 4) (ex_l ex2 hS) hP hl rfl rfl rfl (itr_lt PF hh k)) (fun H3 e3 => ?_)
      refine ⟨k + 1, by omega, by omega, rfl, rfl, ?_, ex2.trans e3⟩
      rw [e3 _ _ upd_same, range_map_snoc, L_app]
      rfl
    · have hk : k = per (stp ns b) ns.length h := by
        refine Classical.byContradiction fun hne => ?_
        have h3 := p3 k (by omega) (by omega)
        have c1 : (!decide (vi (itr (stp ns b) k h) = vi h)) = true := by
          rw [decide_eq_false (fun e => h3 (by injection e with e; omega))]
          rfl
        have c2 : decide (((L ((List.range k).map fun j => itr (stp ns b) j h)).length : Int) ≤ ((L ns).length : Int)) = true := by
          rw [L_len, L_len, List.length_map, List.length_range]
          exact decide_eq_true (by omega)
        have c3 : ((!decide (vi (itr (stp ns b) k h) = vi h)) && decide (((L ((List.range k).map fun j => itr (stp ns b) j h)).length : Int) ≤ ((L ns).length : Int))) = true := by
          rw [c1, c2]
          rfl
        exact Bool.false_ne_true (hb.symm.trans c3)
      refine s_ret (ev_var rfl) (fun H2 e2 => ?_)
      refine kk p H2 hp (ex.trans (e1.trans e2)) ?_
      rw [e2 _ _ (e1 _ _ a1), hk]
      rfl
theorem spl_Lround {K : PySem.W.Frag} {H : Hp} {a : Addr} {ns : List Nat} {h : Nat} {b : Bool} (hS : SqL K H a (L ns)) (hP : IsP ns) (h2 : ns.length % 2 = 0) (hl : ns.length ≤ 1000) (hh : h < ns.length) : SpL (sp_Lround K) [.ref a, vi h, .bl b] H (L (rnd (stp ns b) ns.length h)) :=
  fun H1 e Q q E => ⟨a, ns, h, b, rfl, ex_l e hS, hP, h2, hl, hh, fun p H' hp ex hq => q p H' hp ex hq⟩

def sp_Lrounds (K : PySem.W.Frag) : Sp := fun vs H Q _ => ∃ (a : Addr) (ns : List Nat) (b : Bool), vs = [.ref a, .bl b] ∧ SqL K H a (L ns) ∧ IsP ns ∧ ns.length % 2 = 0 ∧ ns.length ≤ 1000 ∧
  ∀ p H', H p = none → Ex H H' → LLn H H' p (cycs (stp ns b) ns.length ns.length) → Q (.ref p) H'
abbrev nm_Lrounds : List Str := ["_law_nexts_here", "_law_by_face", "_law_found", "_law_half", "_law_members"]
abbrev pr_Lrounds : List Str := ["_law_nexts_here", "_law_by_face"]
def t_Lrounds (K : PySem.W.Frag) : TS :=
  (tSeq (tAsg (tLst tNil) (gName 2))
  (tSeq (tFor (iRng1 (tCons (tCB (cLen K) (tCons (tVar 0) tNil)) tNil)) (gName 3) (tSeq (tAsg (tCall (sp_Lround K) [] E0 (tCons (tVar 0) (tCons (tVar 3) (tCons (tVar 1) tNil)))) (gName 4))
      (tIfS (tTest (tOp rEq (tCB (rMin K) (tCons (tVar 4) tNil)) (tVar 3))) (tDrop (tBM K "list" rAppend (tVar 2) (tCons (tVar 4) tNil))) tNext)))
  (tRet (tVar 2))))
abbrev Wt_Lrounds (K : PySem.W.Frag) (vs : List V) (H : Hp) (Q : VK) : Prop := t_Lrounds K { nx := fun _ H' => Q .non H', rt := Q } (start nm_Lrounds vs) H
theorem ln_Lrounds {K : PySem.W.Frag} (vs : List V) (H : Hp) (Q : VK) (E : XK) (h : sp_Lrounds K vs H Q E) : vs.length = pr_Lrounds.length := by
  obtain ⟨_, _, _, rfl, _⟩ := h
  rfl
theorem rd_Lrounds {K : PySem.W.Frag} (F : KF K) (vs : List V) (H : Hp) (Q : VK) (E : XK) (h : sp_Lrounds K vs H Q E) : Wt_Lrounds K vs H Q := by
  obtain ⟨a, ns, b, rfl, hS, hP, h2, hl, kk⟩ := h
  show t_Lrounds K _ [some (.ref a), some (.bl b), none, none, none] H
  have PF := pf_stp hP h2 b
  refine q_asgL (el_lst ea_nil (Nat.zero_le _)) (fun p H1 hp e1 h1 => ?_)
  refine q_forR1 (n := (ns.length : Int)) (ea_1 (ev_is (ev_cb (ea_1 (ev_var rfl)) (rc_len (ex_l e1 hS))) (by rw [L_len]))) (by omega)
    (fun i σ' H' => ∃ v3 v4 as, σ' = [some (.ref a), some (.bl b), some (.ref p), v3, v4] ∧ Ex H H' ∧ H' p = some (.lst (as.map V.ref)) ∧ LA H' as (cycs (stp ns b) ns.length i) ∧ (∀ x ∈ as, H x = none ∧ x ≠ p) ∧ as.length ≤ i) ?_ ?_ ?_
  · intro H2 e2
    exact ⟨_, _, [], rfl, e1.trans e2, e2 _ _ h1, .nil, fun x hx => (nomatch hx), Nat.le_refl _⟩
  · rintro i σ' H' hi ⟨v3, v4, as, rfl, ex, a1, a2, a3, a4⟩
    have hi' : i < ns.length := by omega
    refine q_asgL (el_call (ea_cons (ev_var rfl) (ea_2 (ev_var rfl) (ev_var rfl))) (spl_Lround (ex_l ex hS) hP h2 hl hi')) (fun pm H2 hpm e2 h2' => ?_)
    have hr0 := per_pos (stp ns b) ns.length i
    have hself := rnd_self PF hi'
    have hne : 0 < (rnd (stp ns b) ns.length i).length := by rw [rnd_length]; exact hr0
    -- the least of the round
    obtain ⟨mm, hm1, hm2⟩ : ∃ mm, mm ∈ rnd (stp ns b) ns.length i ∧ ∀ y ∈ rnd (stp ns b) ns.length i, mm ≤ y := by
      have key : ∀ l : List Nat, l ≠ [] → ∃ mm, mm ∈ l ∧ ∀ y ∈ l, mm ≤ y := by
        intro l
        induction l with
        | nil => intro h; exact absurd rfl h
        | cons x r ih =>
          intro _
          by_cases hr : r = []
          · subst hr
            exact ⟨x, List.mem_cons_self .., fun y hy => by rcases List.mem_cons.mp hy with rfl | hy; exact Nat.le_refl _; cases hy⟩
          · obtain ⟨mm, q1, q2⟩ := ih hr
            by_cases hx : x ≤ mm
            · exact ⟨x, List.mem_cons_self .., fun y hy => by
                rcases List.mem_cons.mp hy with rfl | hy
                · exact Nat.le_refl _
                · exact Nat.le_trans hx (q2 y hy)⟩
            · exact ⟨mm, List.mem_cons_of_mem _ q1, fun y hy => by
                rcases List.mem_cons.mp hy with rfl | hy
                · omega
                · exact q2 y hy⟩
      exact key _ fun e => by rw [e] at hself; cases hself
    have hmin : Ev (tCB (rMin K) (tCons (tVar 4) tNil)) [some (.ref a), some (.bl b), some (.ref p), some (vi i), some (.ref pm)] H2 (vi mm) := by
      refine ev_cb (ea_1 (ev_var rfl)) (rc_min (ns := (rnd (stp ns b) ns.length i).map fun n : Nat => (n : Int)) (by rw [← L_int]; exact sq_of h2') (by rw [List.length_map]; exact hne) fun m' q1 q2 => ?_)
      obtain ⟨z, z1, rfl⟩ := List.mem_map.mp q1
      have := hm2 z z1
      have := q2 (mm : Int) (List.mem_map.mpr ⟨mm, hm1, rfl⟩)
      omega
    refine s_when (b := decide (vi mm = vi i)) (et_test (ev_op hmin (ev_var rfl) (rv_eq rfl))) (fun hb H3 e3 => ?_) (fun hb H3 e3 => ?_)
    · have e0 : mm = i := by
        have := of_decide_eq_true hb
        injection this with this
        omega
      have hmn : isMin (stp ns b) ns.length i = true := isMin_iff.mpr fun y hy => by
        have := hm2 y hy
        omega
      have ex3 := ex.trans (e2.trans e3)
      refine s_app (e3 _ _ (e2 _ _ a1)) (ev_var rfl) (ev_var rfl) (by rw [List.length_map]; omega) (fun H4 e4 => ?_)
      have hpp : pm ≠ p := (ne_of_none a1 hpm).symm
      refine ⟨_, _, as ++ [pm], rfl, Ex.mut (ex3.trans e4) hp, ?_, ?_, fun x hx => ?_, by rw [List.length_append]; show as.length + 1 ≤ i + 1; omega⟩
      · rw [upd_same, List.map_append]
        rfl
      · rw [cycs_yes hmn]
        refine paired_snoc (LA.upd (LA.ex a2 (e2.trans (e3.trans e4))) fun x hx => (a3 x hx).2) ?_
        show upd H4 p _ pm = _
        rw [upd_ne hpp]
        exact e4 _ _ (e3 _ _ h2')
      · rcases List.mem_append.mp hx with hx | hx
        · exact a3 x hx
        · rw [List.mem_singleton.mp hx]
          exact ⟨fresh_back ex hpm, hpp⟩
    · have hmn : ¬ isMin (stp ns b) ns.length i = true := fun hm => by
        refine (of_decide_eq_false hb) ?_
        have h5 := isMin_iff.mp hm mm hm1
        have h6 := hm2 i hself
        have : mm = i := by omega
        rw [this]
      refine ⟨_, _, as, rfl, ex.trans (e2.trans e3), e3 _ _ (e2 _ _ a1), ?_, a3, by omega⟩
      rw [cycs_no hmn]
      exact LA.ex a2 (e2.trans e3)
  · rintro σ' H' ⟨v3, v4, as, rfl, ex, a1, a2, a3, a4⟩
    rw [Int.toNat_natCast] at a2
    refine s_ret (ev_var rfl) (fun H2 e2 => ?_)
    exact kk p H2 hp (ex.trans e2) ⟨as, e2 _ _ a1, LA.ex a2 e2, a3⟩
end Hm
namespace Hm
open PySem PySem.Spec PyProof.Rows L2 Evl
/-! ### the program: what is a mesh -/
def isI : V → Bool
  | .int _ => true
  | _ => false
/-- an int or a bool -/
def IB (v : V) : Prop := (∃ i, v = .int i) ∨ (∃ b, v = .bl b)
def sp_isinteger (K : PySem.W.Frag) : Sp := fun vs H Q _ => ∃ v : V, vs = [v] ∧ IB v ∧ ∀ H', Ex H H' → Q (.bl (isI v)) H'
abbrev nm_isinteger : List Str := ["value"]
abbrev pr_isinteger : List Str := ["value"]
def t_isinteger (K : PySem.W.Frag) : TS :=
  (tRet (tAndV (tCB (rIsi K) (tCons (tVar 0) (tCons (tC (.ty "int")) tNil))) (tNotV (tCB (rIsi K) (tCons (tVar 0) (tCons (tC (.ty "bool")) tNil))))))
abbrev Wt_isinteger (K : PySem.W.Frag) (vs : List V) (H : Hp) (Q : VK) : Prop := t_isinteger K { nx := fun _ H' => Q .non H', rt := Q } (start nm_isinteger vs) H
theorem ln_isinteger {K : PySem.W.Frag} (vs : List V) (H : Hp) (Q : VK) (E : XK) (h : sp_isinteger K vs H Q E) : vs.length = pr_isinteger.length := by
  obtain ⟨_, rfl, _⟩ := h
  rfl
theorem rd_isinteger {K : PySem.W.Frag} (F : KF K) (vs : List V) (H : Hp) (Q : VK) (E : XK) (h : sp_isinteger K vs H Q E) : Wt_isinteger K vs H Q := by
  obtain ⟨v, rfl, hv, k⟩ := h
  show t_isinteger K _ [some v] H
  rcases hv with ⟨i, rfl⟩ | ⟨b, rfl⟩
  · refine s_ret (v := .bl (true && !false)) (ev_andV (ev_cb (ea_2 (ev_var rfl) ev_c) (rc_isi (.ty "int") (fun H1 _ => .base (.int i)) (kit_ty (by decide +kernel)))) (fun _ => ev_notV (ev_cb (ea_2 (ev_var rfl) ev_c) (rc_isi (.ty "bool") (fun H1 _ => .base (.int i)) (kit_ty (by decide +kernel)))))) (fun H1 e1 => k H1 e1)
  · refine s_ret (v := .bl (true && !true)) (ev_andV (ev_cb (ea_2 (ev_var rfl) ev_c) (rc_isi (.ty "int") (fun H1 _ => .base (.bl b)) (kit_ty (by decide +kernel)))) (fun _ => ev_notV (ev_cb (ea_2 (ev_var rfl) ev_c) (rc_isi (.ty "bool") (fun H1 _ => .base (.bl b)) (kit_ty (by decide +kernel)))))) (fun H1 e1 => k H1 e1)
theorem spv_isinteger {K : PySem.W.Frag} {H : Hp} {v : V} (h : IB v) : SpV (sp_isinteger K) [v] H (.bl (isI v)) := fun H1 _ Q q E => ⟨v, rfl, h, q⟩

def dZ (zs : List Int) : PyData := .list (zs.map PyData.int)
theorem eqv_Zs : ∀ zs ys : List Int, PyData.eqvAll (zs.map PyData.int) (ys.map PyData.int) = decide (zs = ys)
  | [], [] => by simp [PyData.eqvAll]
  | [], _ :: _ => by simp [PyData.eqvAll]
  | _ :: _, [] => by simp [PyData.eqvAll]
  | n :: r, m :: s => by
    have h := eqv_Zs r s
    simp only [List.map_cons, PyData.eqvAll, PyData.eqv, h]
    by_cases e : n = m <;> simp [e]
theorem eqv_dZ (zs ys : List Int) : PyData.eqv (dZ zs) (dZ ys) = decide (zs = ys) := by
  unfold dZ
  simp only [PyData.eqv]
  exact eqv_Zs zs ys
theorem rv_eqZ {K : PySem.W.Frag} {H : Hp} {a b : Addr} {ns ms : List Int} (h1 : SqL K H a (ns.map V.int)) (h2 : SqL K H b (ms.map V.int)) : RV (rEqD K) (.ref a) (.ref b) H (.bl (decide (ns = ms))) := by
  rw [← eqv_dZ]
  exact rv_eqD' (Dp.lst h1 (dpAll_ints _)) (Dp.lst h2 (dpAll_ints _)) (shaped_ints _) (shaped_ints _)
theorem el_rg1 {K : PySem.W.Frag} {σ : L2.St} {H : Hp} {te : TE} {n : Nat} (h : Ev te σ H (.int (n : Int))) (hn : n ≤ 100000) : EvL (tLstRg (tRg1 te)) σ H (((List.range n).map fun i : Nat => (i : Int)).map V.int) := fun H1 e Q q =>
  h H1 e _ fun H2 e2 => ⟨(n : Int), rfl, RgOk.of_le (by omega) (by omega) (by omega) (by omega), fun p hp => by
    have e3 : rgV 0 (n : Int) = ((List.range n).map fun i : Nat => (i : Int)).map V.int := by
      unfold rgV
      rw [List.map_map, Int.sub_zero, Int.toNat_natCast]
      refine List.map_congr_left fun i _ => ?_
      show V.int (0 + (i : Int)) = V.int (i : Int)
      rw [Int.zero_add]
    rw [e3]
    exact q p _ (fresh_back e2 hp) (e2.trans (Ex.new hp)) upd_same⟩
section
variable {K : PySem.W.Frag} {σ : L2.St} {H H' : Hp} {ta tb tc te tx : TE} {x y z v : V} {r r' : R2}
theorem ev_chain {a b : Bool} (ha : Ev ta σ H x) (hb : Ev tb σ H y) (hr : RV r x y H (.bl a)) (hc : a = true → Ev tc σ H z) (hr2 : a = true → RV r' y z H (.bl b)) : Ev (tChain r r' ta tb tc) σ H (.bl (a && b)) := fun H1 e Q q =>
  ha H1 e _ fun H2 e2 => hb H2 (e.trans e2) _ fun H3 e3 => hr H3 ((e.trans e2).trans e3) _ fun H4 e4 => ⟨a, rfl, by
    have e5 := ((e.trans e2).trans e3).trans e4
    cases a with
    | false => exact q H4 ((e2.trans e3).trans e4)
    | true => exact hc rfl H4 e5 _ fun H5 e6 => hr2 rfl H5 (e5.trans e6) _ fun H6 e7 => q H6 (((e2.trans e3).trans e4).trans (e6.trans e7))⟩
theorem ev_lenSI {p : Addr} {ns : List Int} (h : Ev ta σ H (.ref p)) (hS : SqL K H p (ns.map V.int)) (hl : ns.length ≤ 4000) : Ev (PSetI.tLenI K ta) σ H (.int (cntI ns : Nat)) := fun H1 e Q q =>
  h H1 e _ fun H2 e2 => ⟨p, ns, rfl, ex_l (e.trans e2) hS, hl, q H2 e2⟩
end
/-- numbers below n, each once -/
def Below (xs : List V) (n : Nat) : Prop := ∃ ns, xs = L ns ∧ ns.Nodup ∧ ∀ x ∈ ns, x < n
def okN (n : Nat) : V → Bool
  | .int i => decide (0 ≤ i) && decide (i < (n : Int))
  | _ => false
theorem okN_ints {n : Nat} : ∀ {xs : List V}, (∀ x ∈ xs, okN n x = true) → ∃ ns : List Nat, xs = L ns ∧ ∀ x ∈ ns, x < n
  | [], _ => ⟨[], rfl, fun _ h => nomatch h⟩
  | x :: r, h => by
    obtain ⟨ns, e, b⟩ := okN_ints (xs := r) fun y hy => h y (List.mem_cons_of_mem _ hy)
    have hx := h x (List.mem_cons_self ..)
    cases x with
    | int i =>
      have hx : (decide (0 ≤ i) && decide (i < (n : Int))) = true := hx
      rw [Bool.and_eq_true] at hx
      have h0 := of_decide_eq_true hx.1
      have h1 := of_decide_eq_true hx.2
      refine ⟨i.toNat :: ns, ?_, fun y hy => ?_⟩
      · rw [e]
        show V.int i :: L ns = V.int ((i.toNat : Nat) : Int) :: L ns
        have e3 : ((i.toNat : Nat) : Int) = i := by omega
        rw [e3]
      · rcases List.mem_cons.mp hy with rfl | hy
        · omega
        · exact b y hy
    | _ => cases hx
theorem okN_L {n : Nat} {ns : List Nat} (h : ∀ x ∈ ns, x < n) : ∀ x ∈ L ns, okN n x = true := by
  intro x hx
  obtain ⟨m, hm, rfl⟩ := List.mem_map.mp hx
  have := h m hm
  show (decide ((0 : Int) ≤ (m : Int)) && decide ((m : Int) < (n : Int))) = true
  rw [decide_eq_true (by omega), decide_eq_true (by omega)]
  rfl
theorem L_inj {a b : List Nat} (h : L a = L b) : a = b := by
  induction a generalizing b with
  | nil => cases b with
    | nil => rfl
    | cons _ _ => cases h
  | cons x r ih => cases b with
    | nil => cases h
    | cons y s =>
      injection h with h1 h2
      injection h1 with h1
      rw [ih h2, show x = y by omega]
theorem nodup_cast {ns : List Nat} : (ns.map fun n : Nat => (n : Int)).Nodup ↔ ns.Nodup := by
  rw [List.nodup_iff_pairwise_ne, List.nodup_iff_pairwise_ne, List.pairwise_map]
  exact ⟨fun h => h.imp fun e q => e (by rw [q]), fun h => h.imp fun e q => e (by omega)⟩
def sp_arehalves (K : PySem.W.Frag) : Sp := fun vs H Q _ => ∃ (a : Addr) (xs : List V) (n : Nat), vs = [.ref a, vi n] ∧ SqL K H a xs ∧ xs.length ≤ 4000 ∧ (∀ x ∈ xs, IB x) ∧
  ∀ b H', (b = true ↔ Below xs n) → Ex H H' → Q (.bl b) H'
abbrev nm_arehalves : List Str := ["numbers", "count", "number"]
abbrev pr_arehalves : List Str := ["numbers", "count"]
def t_arehalves (K : PySem.W.Frag) : TS :=
  (tSeq (tIfS (tNot (tB (tCB (rAll K) (tCons (tLc (iList K (tVar 0)) (gName 2) tYes (tAndV (tCall (sp_isinteger K) [] E0 (tCons (tVar 2) tNil)) (tChain zLe zLt (tC (.int 0)) (tVar 2) (tVar 1))) [2]) tNil)))) (tRet (tC (.bl false))) tNext)
  (tRet (tOp rEq (PSetI.tLenI K (tVar 0)) (tCB (cLen K) (tCons (tVar 0) tNil)))))
abbrev Wt_arehalves (K : PySem.W.Frag) (vs : List V) (H : Hp) (Q : VK) : Prop := t_arehalves K { nx := fun _ H' => Q .non H', rt := Q } (start nm_arehalves vs) H
theorem ln_arehalves {K : PySem.W.Frag} (vs : List V) (H : Hp) (Q : VK) (E : XK) (h : sp_arehalves K vs H Q E) : vs.length = pr_arehalves.length := by
  obtain ⟨_, _, _, rfl, _⟩ := h
  rfl
theorem rd_arehalves {K : PySem.W.Frag} (F : KF K) (vs : List V) (H : Hp) (Q : VK) (E : XK) (h : sp_arehalves K vs H Q E) : Wt_arehalves K vs H Q := by
  obtain ⟨a, xs, n, rfl, hS, hz, hI, k⟩ := h
  show t_arehalves K _ [some (.ref a), some (vi n), none] H
  have hb : ((List.range xs.length).map fun i => okN n (xs.getD i .non)).all id = true ↔ ∀ x ∈ xs, okN n x = true := by
    rw [List.all_eq_true]
    constructor
    · intro h x hx
      obtain ⟨i, hi, e⟩ := List.mem_iff_getElem.mp hx
      have := h (okN n (xs.getD i .non)) (List.mem_map.mpr ⟨i, List.mem_range.mpr hi, rfl⟩)
      rw [List.getD_eq_getElem?_getD, List.getElem?_eq_getElem hi] at this
      rw [← e]
      exact this
    · intro h y hy
      obtain ⟨i, hi, rfl⟩ := List.mem_map.mp hy
      have hi := List.mem_range.mp hi
      show okN n (xs.getD i .non) = true
      rw [List.getD_eq_getElem?_getD, List.getElem?_eq_getElem hi]
      exact h _ (List.getElem_mem hi)
  have hcomp : EvL (tLc (iList K (tVar 0)) (gName 2) tYes (tAndV (tCall (sp_isinteger K) [] E0 (tCons (tVar 2) tNil)) (tChain zLe zLt (tC (.int 0)) (tVar 2) (tVar 1))) [2]) [some (.ref a), some (vi n), none] H (((List.range xs.length).map fun i => okN n (xs.getD i .non)).map V.bl) := by
    have := el_lcL (K := K) (σ := [some (.ref a), some (vi n), none]) (H := H) (j := 2) (vs := [2]) (t := tYes) (tl := tVar 0) (te := tAndV (tCall (sp_isinteger K) [] E0 (tCons (tVar 2) tNil)) (tChain zLe zLt (tC (.int 0)) (tVar 2) (tVar 1))) (fun _ => true) (fun i => .bl (okN n (xs.getD i .non))) (ev_var rfl) hS (by omega) (fun _ => rfl) (fun i x H1 _ _ => et_yes) (fun i x H1 _ hx _ => by
      have e : xs.getD i .non = x := by rw [List.getD_eq_getElem?_getD, hx]; rfl
      rw [e]
      have hib := hI x (List.mem_of_getElem? hx)
      rcases id hib with ⟨z, rfl⟩ | ⟨b, rfl⟩
      · exact ev_is (v := .bl (true && (decide (0 ≤ z) && decide (z < (n : Int))))) (ev_andV (ev_call (ea_1 (ev_var rfl)) (spv_isinteger hib)) (fun _ => ev_chain ev_c (ev_var rfl) rv_I0 (fun _ => ev_var rfl) (fun _ => rv_I0))) (by rw [Bool.true_and]; rfl)
      · exact ev_is (v := .bl (false && false)) (ev_andV (ev_call (ea_1 (ev_var rfl)) (spv_isinteger hib)) (fun hb => nomatch hb)) rfl)
    rw [given_all] at this
    rw [List.map_map]
    exact this
  refine q_when (et_not (et_B (ev_cbN hcomp (fun p H1 hp _ => rc_all (sq_of hp))))) (fun hb1 H1 e1 => ?_) (fun hb1 H1 e1 => ?_)
  · refine s_ret ev_c (fun H2 e2 => k false H2 ⟨fun h => (nomatch h), fun hg => ?_⟩ (e1.trans e2))
    obtain ⟨ns, rfl, _, h2⟩ := hg
    rw [hb.mpr (okN_L h2)] at hb1
    cases hb1
  · have hall : ∀ x ∈ xs, okN n x = true := hb.mp (by
      cases q : ((List.range xs.length).map fun i => okN n (xs.getD i .non)).all id with
      | true => rfl
      | false => rw [q] at hb1; cases hb1)
    obtain ⟨ns, rfl, hlt⟩ := okN_ints hall
    have hS1 := ex_l e1 hS
    have hS2 := hS1
    rw [L_int] at hS2
    rw [L_len] at hz
    refine s_ret (v := .bl (decide (V.int (cntI (ns.map fun n : Nat => (n : Int)) : Nat) = V.int ((L ns).length : Int)))) (ev_op (ev_lenSI (ev_var rfl) hS2 (by rw [List.length_map]; exact hz)) (ev_cb (ea_1 (ev_var rfl)) (rc_len hS1)) (rv_eq rfl)) (fun H2 e2 => ?_)
    refine k _ H2 ?_ (e1.trans e2)
    have hc := cntI_iff (ns.map fun n : Nat => (n : Int))
    rw [List.length_map, nodup_cast] at hc
    rw [decide_eq_true_iff, L_len]
    constructor
    · intro h
      injection h with h
      exact ⟨ns, rfl, hc.mp (by omega), hlt⟩
    · rintro ⟨ms, e, hn, _⟩
      have e := L_inj e
      subst e
      rw [hc.mpr hn]
theorem spv_hT {K : PySem.W.Frag} {H : Hp} {a : Addr} {xs : List V} {n : Nat} (hS : SqL K H a xs) (hl : xs.length ≤ 4000) (hI : ∀ v ∈ xs, IB v) {b : Bool} (h : b = true ↔ Below xs n) : SpV (sp_arehalves K) [.ref a, vi n] H (.bl b) := fun H1 e Q q E =>
  ⟨a, xs, n, rfl, ex_l e hS, hl, hI, fun b' H' hb ex => by
    rw [Bool.eq_iff_iff.mpr (hb.trans h.symm)]
    exact q H' ex⟩
theorem isP_below {ns : List Nat} (hn : ns.Nodup) (h : ∀ x ∈ ns, x < ns.length) : IsP ns := ⟨(List.perm_ext_iff_of_nodup hn List.nodup_range).mpr fun x => by
  rw [List.mem_range]
  refine ⟨h x, fun hx => Classical.byContradiction fun hno => ?_⟩
  have := nodup_le ns.length (x :: ns) (List.nodup_cons.mpr ⟨hno, hn⟩) (fun y hy => by
    rcases List.mem_cons.mp hy with rfl | hy
    · exact hx
    · exact h y hy)
  rw [List.length_cons] at this
  omega⟩
/-- a list of numbers that are the halves of a mesh, each once -/
def Good (xs : List V) : Prop := ∃ ns, xs = L ns ∧ IsP ns ∧ ns.length % 2 = 0
def sp_areallhalves (K : PySem.W.Frag) : Sp := fun vs H Q _ => ∃ (a : Addr) (xs : List V), vs = [.ref a] ∧ SqL K H a xs ∧ xs.length ≤ 4000 ∧ (∀ x ∈ xs, IB x) ∧
  ∀ b H', (b = true ↔ Good xs) → Ex H H' → Q (.bl b) H'
abbrev nm_areallhalves : List Str := ["numbers"]
abbrev pr_areallhalves : List Str := ["numbers"]
def t_areallhalves (K : PySem.W.Frag) : TS :=
  (tRet (tAndV (tOp rEq (tOp zMod (tCB (cLen K) (tCons (tVar 0) tNil)) (tC (.int 2))) (tC (.int 0))) (tCall (sp_arehalves K) [] E0 (tCons (tVar 0) (tCons (tCB (cLen K) (tCons (tVar 0) tNil)) tNil)))))
abbrev Wt_areallhalves (K : PySem.W.Frag) (vs : List V) (H : Hp) (Q : VK) : Prop := t_areallhalves K { nx := fun _ H' => Q .non H', rt := Q } (start nm_areallhalves vs) H
theorem ln_areallhalves {K : PySem.W.Frag} (vs : List V) (H : Hp) (Q : VK) (E : XK) (h : sp_areallhalves K vs H Q E) : vs.length = pr_areallhalves.length := by
  obtain ⟨_, _, rfl, _⟩ := h
  rfl
theorem good_below {xs : List V} : Good xs ↔ xs.length % 2 = 0 ∧ Below xs xs.length := by
  constructor
  · rintro ⟨ns, rfl, hP, h2⟩
    rw [L_len]
    exact ⟨h2, ns, rfl, hP.nodup, fun x hx => hP.mem.mp hx⟩
  · rintro ⟨h2, ns, rfl, hn, h⟩
    rw [L_len] at h2 h
    exact ⟨ns, rfl, isP_below hn h, h2⟩
theorem isI_L (ns : List Nat) : ∀ x ∈ L ns, isI x = true := by
  intro x hx
  obtain ⟨n, _, rfl⟩ := List.mem_map.mp hx
  rfl
theorem ints_of : ∀ {xs : List V}, (∀ x ∈ xs, isI x = true) → ∃ zs : List Int, xs = zs.map V.int
  | [], _ => ⟨[], rfl⟩
  | x :: r, h => by
    obtain ⟨zs, e⟩ := ints_of (xs := r) fun y hy => h y (List.mem_cons_of_mem _ hy)
    have hx := h x (List.mem_cons_self ..)
    cases x with
    | int i => exact ⟨i :: zs, by rw [e]; rfl⟩
    | _ => cases hx
theorem map_int_inj {a b : List Int} (h : a.map V.int = b.map V.int) : a = b := by
  induction a generalizing b with
  | nil => cases b with
    | nil => rfl
    | cons _ _ => cases h
  | cons x r ih => cases b with
    | nil => cases h
    | cons y s =>
      injection h with h1 h2
      injection h1 with h1
      rw [h1, ih h2]
theorem good_ints {zs ns' : List Int} (hp : ns'.Perm zs) (hs : ns'.Pairwise (· ≤ ·)) (h2 : zs.length % 2 = 0) : ns' = (List.range zs.length).map (fun i : Nat => (i : Int)) ↔ Good (zs.map V.int) := by
  constructor
  · intro e
    subst e
    have hz : ∀ z ∈ zs, 0 ≤ z := fun z hz => by
      obtain ⟨i, _, rfl⟩ := List.mem_map.mp (hp.mem_iff.mpr hz)
      omega
    have key : ∀ zs : List Int, (∀ z ∈ zs, 0 ≤ z) → zs = (zs.map Int.toNat).map fun i : Nat => (i : Int) := by
      intro zs
      induction zs with
      | nil => intro _; rfl
      | cons z r ih =>
        intro h
        rw [List.map_cons, List.map_cons, ← ih fun y hy => h y (List.mem_cons_of_mem _ hy)]
        have := h z (List.mem_cons_self ..)
        rw [show (((z.toNat : Nat)) : Int) = z by omega]
    have e := key zs hz
    refine ⟨zs.map Int.toNat, ?_, ⟨?_⟩, by rw [List.length_map]; exact h2⟩
    · rw [L_int, ← e]
    · rw [List.length_map]
      have hq := hp.map Int.toNat
      rw [List.map_map] at hq
      have e3 : (List.range zs.length).map (Int.toNat ∘ fun i : Nat => (i : Int)) = List.range zs.length := by
        rw [List.map_congr_left (g := id) (fun i _ => by show ((i : Nat) : Int).toNat = i; omega), List.map_id]
      rw [e3] at hq
      exact hq.symm
  · rintro ⟨ns, e, hP, _⟩
    rw [L_int] at e
    have e := map_int_inj e
    subst e
    refine List.Perm.eq_of_pairwise (le := (· ≤ ·)) (fun a b _ _ h1 h2 => Int.le_antisymm h1 h2) hs ?_ ?_
    · rw [List.pairwise_map]
      exact List.Pairwise.imp (fun h => by omega) List.pairwise_lt_range
    · rw [List.length_map]
      exact hp.trans (hP.perm.map _)
theorem rcl_sorted {K : PySem.W.Frag} {H : Hp} {a : Addr} {zs : List Int} {r : List Int} (hS : SqL K H a (zs.map V.int)) (hu : ∀ ns' : List Int, ns'.Perm zs → ns'.Pairwise (· ≤ ·) → ns' = r) : RCL (rSortedI K) [.ref a] H (r.map V.int) := fun H1 e Q q =>
  ⟨a, zs, rfl, ex_l e hS, fun ns' p h1 h2 hp => by
    rw [hu ns' h1 h2]
    exact q p _ hp (Ex.new hp) upd_same⟩
theorem sort_ex (zs : List Int) : ∃ r : List Int, r.Perm zs ∧ r.Pairwise (· ≤ ·) ∧ ∀ ns' : List Int, ns'.Perm zs → ns'.Pairwise (· ≤ ·) → ns' = r := by
  refine ⟨zs.mergeSort (fun a b => decide (a ≤ b)), List.mergeSort_perm _ _, ?_, fun ns' h1 h2 => ?_⟩
  · refine List.Pairwise.imp (fun h => of_decide_eq_true h) (List.pairwise_mergeSort (le := fun a b => decide (a ≤ b)) (fun a b c h1 h2 => ?_) (fun a b => ?_) zs)
    · have h1 := of_decide_eq_true h1
      have h2 := of_decide_eq_true h2
      exact decide_eq_true (Int.le_trans h1 h2)
    · rw [Bool.or_eq_true]
      rcases Int.le_total a b with h | h
      · exact .inl (decide_eq_true h)
      · exact .inr (decide_eq_true h)
  · refine List.Perm.eq_of_pairwise (le := (· ≤ ·)) (fun a b _ _ h1 h2 => Int.le_antisymm h1 h2) h2 ?_ (h1.trans (List.mergeSort_perm _ _).symm)
    refine List.Pairwise.imp (fun h => of_decide_eq_true h) (List.pairwise_mergeSort (le := fun a b => decide (a ≤ b)) (fun a b c h1 h2 => ?_) (fun a b => ?_) zs)
    · have h1 := of_decide_eq_true h1
      have h2 := of_decide_eq_true h2
      exact decide_eq_true (Int.le_trans h1 h2)
    · rw [Bool.or_eq_true]
      rcases Int.le_total a b with h | h
      · exact .inl (decide_eq_true h)
      · exact .inr (decide_eq_true h)
theorem rd_areallhalves {K : PySem.W.Frag} (F : KF K) (vs : List V) (H : Hp) (Q : VK) (E : XK) (h : sp_areallhalves K vs H Q E) : Wt_areallhalves K vs H Q := by
  obtain ⟨a, xs, rfl, hS, hz, hI, k⟩ := h
  show t_areallhalves K _ [some (.ref a)] H
  obtain ⟨b, hb⟩ : ∃ b : Bool, b = true ↔ Below xs xs.length := by
    by_cases h : Below xs xs.length
    · exact ⟨true, fun _ => h, fun _ => rfl⟩
    · exact ⟨false, (fun q => nomatch q), fun q => absurd q h⟩
  refine s_ret (v := .bl (decide (V.int ((xs.length : Int).fmod 2) = V.int 0) && b)) (ev_andV (ev_op (ev_op (ev_cb (ea_1 (ev_var rfl)) (rc_len hS)) ev_c (rv_I (by decide))) ev_c (rv_eq rfl)) (fun _ => ev_call (ea_2 (ev_var rfl) (ev_cb (ea_1 (ev_var rfl)) (rc_len hS))) (spv_hT hS hz hI hb))) (fun H1 e1 => k _ H1 ?_ e1)
  rw [good_below, Bool.and_eq_true, hb, decide_eq_true_iff]
  have e : V.int ((xs.length : Int).fmod 2) = V.int 0 ↔ xs.length % 2 = 0 := by
    rw [Int.fmod_eq_emod_of_nonneg _ (by decide)]
    constructor
    · intro h
      injection h with h
      omega
    · intro h
      congr 1
      omega
  rw [e]
end Hm
namespace Hm
open PySem PySem.Spec PyProof.Rows L2 Evl
/-! ### the program: links back, rounds -/
section
variable {K : PySem.W.Frag} {σ : L2.St} {H : Hp} {ta tb te tv tn : TE} {D : Ends} {tz : TS} {y v : V}
theorem replicate_flatten {v : V} : ∀ n : Nat, (List.replicate n [v]).flatten = List.replicate n v
  | 0 => rfl
  | n + 1 => by
    rw [List.replicate_succ, List.flatten_cons, replicate_flatten n, List.replicate_succ]
    rfl
theorem el_rep1 {n : Nat} (hv : Ev tv σ H v) (hn : Ev tn σ H (.int (n : Int))) (hz : n ≤ 100000) : EvL (tOp rRep (tLst (tCons tv tNil)) tn) σ H (List.replicate n v) := fun H1 e Q q =>
  el_lst (ea_1 hv) (by show 1 ≤ 100000; decide) H1 e _ fun p H2 _ e2 h2 => hn H2 (e.trans e2) _ fun H3 e3 => ⟨p, (n : Int), [v], rfl, rfl, e3 _ _ h2, by omega, by omega, sz_of (by show 1 * (n : Int).toNat ≤ 100000; omega), fun r hr => by
    have e4 : (List.replicate ((n : Int).toNat) [v]).flatten = List.replicate n v := by rw [Int.toNat_natCast, replicate_flatten]
    rw [e4]
    exact q r _ (fresh_back (e2.trans e3) hr) ((e2.trans e3).trans (Ex.new hr)) upd_same⟩
theorem q_fld {a C dx : Addr} {fs : List (Str × V)} {f : Str} (hv : Ev tv σ H y) (ha : Ev ta σ H (.ref a)) (ho : H a = some (.ins C dx fs)) (hc : Cls K C) (hn : NoAttr K C f) (hl : fs.length < 1000) (k : ∀ H1, Ex H H1 → tz D σ (upd H1 a (.ins C dx (putF f y fs)))) : tSeq (sFld K ta tv f) tz D σ H :=
  hv H (Ex.refl H) _ fun H1 e1 => ha H1 e1 _ fun H2 e2 => ⟨a, C, dx, fs, rfl, e2 _ _ (e1 _ _ ho), hc, hn, hl, k H2 (e1.trans e2)⟩
theorem q_fldL {a C dx : Addr} {fs : List (Str × V)} {f : Str} {xs : List V} (hv : EvL tv σ H xs) (ha : Ev ta σ H (.ref a)) (ho : H a = some (.ins C dx fs)) (hc : Cls K C) (hn : NoAttr K C f) (hl : fs.length < 1000) (k : ∀ p H1, H p = none → Ex H H1 → H1 p = some (.lst xs) → tz D σ (upd H1 a (.ins C dx (putF f (.ref p) fs)))) : tSeq (sFld K ta tv f) tz D σ H :=
  hv H (Ex.refl H) _ fun p H1 hp e1 h1 => ha H1 e1 _ fun H2 e2 => ⟨a, C, dx, fs, rfl, e2 _ _ (e1 _ _ ho), hc, hn, hl, k p H2 hp (e1.trans e2) (e2 _ _ h1)⟩
theorem s_fldL {a C dx : Addr} {fs : List (Str × V)} {f : Str} {xs : List V} (hv : EvL tv σ H xs) (ha : Ev ta σ H (.ref a)) (ho : H a = some (.ins C dx fs)) (hc : Cls K C) (hn : NoAttr K C f) (hl : fs.length < 1000) (k : ∀ p H1, H p = none → Ex H H1 → H1 p = some (.lst xs) → D.nx σ (upd H1 a (.ins C dx (putF f (.ref p) fs)))) : sFld K ta tv f D σ H :=
  hv H (Ex.refl H) _ fun p H1 hp e1 h1 => ha H1 e1 _ fun H2 e2 => ⟨a, C, dx, fs, rfl, e2 _ _ (e1 _ _ ho), hc, hn, hl, k p H2 hp (e1.trans e2) (e2 _ _ h1)⟩
end
def bkUp (ns : List Nat) (i : Nat) : List Nat := (List.range ns.length).map fun h => if bk ns h < i then bk ns h else 0
theorem bkUp_zero (ns : List Nat) : L (bkUp ns 0) = List.replicate ns.length (.int 0) := by
  unfold L bkUp
  rw [List.map_map]
  refine List.eq_replicate_iff.mpr ⟨by rw [List.length_map, List.length_range], fun b hb => ?_⟩
  obtain ⟨i, _, rfl⟩ := List.mem_map.mp hb
  rfl
theorem bkUp_all {ns : List Nat} (h : IsP ns) : bkUp ns ns.length = prevs ns := by
  unfold bkUp prevs
  refine List.map_congr_left fun x hx => ?_
  rw [if_pos (bk_lt h (List.mem_range.mp hx))]
theorem bkUp_succ {ns : List Nat} (h : IsP ns) {i : Nat} (hi : i < ns.length) : (L (bkUp ns i)).set (fn ns i) (vi i) = L (bkUp ns (i + 1)) := by
  refine List.ext_getElem? fun j => ?_
  have hb : ∀ i, (L (bkUp ns i)).length = ns.length := fun i => by rw [L_len]; unfold bkUp; rw [List.length_map, List.length_range]
  by_cases hj : j < ns.length
  · have gt : ∀ i, (L (bkUp ns i))[j]? = some (vi (if bk ns j < i then bk ns j else 0)) := fun i => by
      unfold L bkUp
      rw [List.map_map, List.getElem?_map, List.getElem?_range hj]
      rfl
    by_cases e : fn ns i = j
    · rw [← e, List.getElem?_set_self (by rw [hb, e]; exact hj), e, gt, ← e, bk_fn h hi, if_pos (by omega)]
    · rw [List.getElem?_set_ne e, gt, gt]
      have hne : bk ns j ≠ i := fun q => e (by rw [← q, fn_bk h hj])
      by_cases q : bk ns j < i
      · rw [if_pos q, if_pos (by omega)]
      · rw [if_neg q, if_neg (by omega)]
  · rw [List.getElem?_eq_none (by rw [List.length_set, hb]; omega), List.getElem?_eq_none (by rw [hb]; omega)]
def sp_inverse (K : PySem.W.Frag) : Sp := fun vs H Q _ => ∃ (a : Addr) (ns : List Nat), vs = [.ref a] ∧ SqL K H a (L ns) ∧ IsP ns ∧ ns.length ≤ 1000 ∧
  ∀ p H', H p = none → Ex H H' → H' p = some (.lst (L (prevs ns))) → Q (.ref p) H'
abbrev nm_inverse : List Str := ["links", "back", "half", "other"]
abbrev pr_inverse : List Str := ["links"]
def t_inverse (K : PySem.W.Frag) : TS :=
  (tSeq (tAsg (tOp rRep (tLst (tCons (tC (.int 0)) tNil)) (tCB (cLen K) (tCons (tVar 0) tNil))) (gName 1))
  (tSeq (tFor (iEnum K (tCons (tVar 0) tNil)) (gTup K 2 (gCons (gName 2) (gCons (gName 3) gNil))) (tAsg (tVar 2) (gSub (tVar 1) (tVar 3) rSetL)))
  (tRet (tVar 1))))
abbrev Wt_inverse (K : PySem.W.Frag) (vs : List V) (H : Hp) (Q : VK) : Prop := t_inverse K { nx := fun _ H' => Q .non H', rt := Q } (start nm_inverse vs) H
theorem ln_inverse {K : PySem.W.Frag} (vs : List V) (H : Hp) (Q : VK) (E : XK) (h : sp_inverse K vs H Q E) : vs.length = pr_inverse.length := by
  obtain ⟨_, _, rfl, _⟩ := h
  rfl
theorem rd_inverse {K : PySem.W.Frag} (F : KF K) (vs : List V) (H : Hp) (Q : VK) (E : XK) (h : sp_inverse K vs H Q E) : Wt_inverse K vs H Q := by
  obtain ⟨a, ns, rfl, hS, hP, hl, k⟩ := h
  show t_inverse K _ [some (.ref a), none, none, none] H
  refine q_asgL (el_rep1 (n := ns.length) ev_c (ev_is (ev_cb (ea_1 (ev_var rfl)) (rc_len hS)) (by rw [L_len])) (by omega)) (fun p H1 hp e1 h1 => ?_)
  rw [← bkUp_zero] at h1
  refine ⟨.ref a, rfl, a, L ns, rfl, ex_l e1 hS, ?_⟩
  refine for_it (walk_enum (xs := L ns)) (fun i σ' H' => ∃ v2 v3, σ' = [some (.ref a), some (.ref p), v2, v3] ∧ Ex H H' ∧ H' p = some (.lst (L (bkUp ns i)))) ⟨_, _, rfl, e1, h1⟩ ?_ ?_ ?_
  · rintro i σ' H' _ ⟨v2, v3, rfl, ex, _⟩
    exact ex_l ex hS
  · rintro i x σ' H2 H3 hi ⟨v2, v3, rfl, ex, hb⟩ ⟨T, x1, x2, rfl, hT, rfl, e2, e3⟩
    rw [L_len] at hi
    have e2 : vi i = x1 := Option.some.inj e2
    have e3 : (L ns)[i]? = some x2 := e3
    rw [L_get hi] at e3
    have e3 := Option.some.inj e3
    subst e2 e3
    have exT : Ex H2 (upd H2 T (.tup [vi i, vi (fn ns i)])) := Ex.new hT
    refine ⟨T, [vi i, vi (fn ns i)], rfl, .inl (.inl upd_same), rfl, vi i, [vi (fn ns i)], rfl, vi (fn ns i), [], rfl, rfl, ?_⟩
    refine s_setL (j := fn ns i) (exT _ _ hb) (ev_var rfl) (ev_var rfl) (ev_var rfl) (by rw [L_len]; unfold bkUp; rw [List.length_map, List.length_range]; exact (pf_fn hP).lt i hi) (fun H4 e4 => ?_)
    refine ⟨_, _, rfl, Ex.mut ((ex.trans exT).trans e4) hp, ?_⟩
    rw [upd_same, bkUp_succ hP hi]
  · rintro σ' H' ⟨v2, v3, rfl, ex, hb⟩
    rw [L_len, bkUp_all hP] at hb
    refine s_ret (ev_var rfl) (fun H2 e2 => k p H2 hp (ex.trans e2) (e2 _ _ hb))
theorem spl_inverse {K : PySem.W.Frag} {H : Hp} {a : Addr} {ns : List Nat} (hS : SqL K H a (L ns)) (hP : IsP ns) (hl : ns.length ≤ 1000) : SpL (sp_inverse K) [.ref a] H (L (prevs ns)) :=
  fun H1 e Q q E => ⟨a, ns, rfl, ex_l e hS, hP, hl, fun p H' hp ex hq => q p H' hp ex hq⟩

def sp_rounds (K : PySem.W.Frag) : Sp := fun vs H Q _ => ∃ (a : Addr) (ns : List Nat), vs = [.ref a] ∧ SqL K H a (L ns) ∧ IsP ns ∧ ns.length ≤ 1000 ∧
  ∀ p H', H p = none → Ex H H' → LLn H H' p (cycs (fn ns) ns.length ns.length) → Q (.ref p) H'
abbrev nm_rounds : List Str := ["links", "found", "seen", "start", "members", "half"]
abbrev pr_rounds : List Str := ["links"]
def t_rounds (K : PySem.W.Frag) : TS :=
  (tSeq (tAsg (tLst tNil) (gName 1))
  (tSeq (tAsg (tOp rRep (tLst (tCons (tC (.bl false)) tNil)) (tCB (cLen K) (tCons (tVar 0) tNil))) (gName 2))
  (tSeq (tFor (iRng1 (tCons (tCB (cLen K) (tCons (tVar 0) tNil)) tNil)) (gName 3) (tIfS (tNot (tB (tOp (rIxL K) (tVar 2) (tVar 3)))) (tSeq (tAsg (tLst tNil) (gName 4))
        (tSeq (tAsg (tVar 3) (gName 5))
        (tSeq (tWhile (tNot (tB (tOp (rIxL K) (tVar 2) (tVar 5)))) (tSeq (tAsg (tC (.bl true)) (gSub (tVar 2) (tVar 5) rSetL))
            (tSeq (tDrop (tBM K "list" rAppend (tVar 4) (tCons (tVar 5) tNil)))
            (tAsg (tOp (rIxL K) (tVar 0) (tVar 5)) (gName 5)))))
        (tDrop (tBM K "list" rAppend (tVar 1) (tCons (tVar 4) tNil)))))) tNext))
  (tRet (tVar 1)))))
abbrev Wt_rounds (K : PySem.W.Frag) (vs : List V) (H : Hp) (Q : VK) : Prop := t_rounds K { nx := fun _ H' => Q .non H', rt := Q } (start nm_rounds vs) H
theorem ln_rounds {K : PySem.W.Frag} (vs : List V) (H : Hp) (Q : VK) (E : XK) (h : sp_rounds K vs H Q E) : vs.length = pr_rounds.length := by
  obtain ⟨_, _, rfl, _⟩ := h
  rfl
theorem bl_get {bs : List Bool} {i : Nat} (h : i < bs.length) : atI (bs.map V.bl) ((i : Nat) : Int) = some (.bl (bs.getD i false)) := by
  refine atI_nat ?_
  rw [List.getElem?_map, List.getD_eq_getElem?_getD, List.getElem?_eq_getElem h]
  rfl
theorem bs_set {bs : List Bool} {i j : Nat} (h : j < bs.length) : (bs.set i true).getD j false = true ↔ bs.getD j false = true ∨ j = i := by
  by_cases e : i = j
  · subst e
    rw [List.getD_eq_getElem?_getD, List.getElem?_set_self h]
    simp
  · rw [List.getD_eq_getElem?_getD, List.getElem?_set_ne e, ← List.getD_eq_getElem?_getD]
    constructor
    · exact .inl
    · rintro (h | h)
      · exact h
      · exact absurd h.symm e
theorem rd_rounds {K : PySem.W.Frag} (F : KF K) (vs : List V) (H : Hp) (Q : VK) (E : XK) (h : sp_rounds K vs H Q E) : Wt_rounds K vs H Q := by
  obtain ⟨a, ns, rfl, hS, hP, hl, kk⟩ := h
  show t_rounds K _ [some (.ref a), none, none, none, none, none] H
  have PF := pf_fn hP
  refine q_asgL (el_lst ea_nil (Nat.zero_le _)) (fun pF H1 hpF e1 h1 => ?_)
  refine q_asgL (el_rep1 (n := ns.length) ev_c (ev_is (ev_cb (ea_1 (ev_var rfl)) (rc_len (ex_l e1 hS))) (by rw [L_len])) (by omega)) (fun pS H2 hpS e2 h2 => ?_)
  have hpS0 : H pS = none := fresh_back e1 hpS
  have hSF : pS ≠ pF := (ne_of_none h1 hpS).symm
  refine q_forR1 (n := (ns.length : Int)) (ea_1 (ev_is (ev_cb (ea_1 (ev_var rfl)) (rc_len (ex_l (e1.trans e2) hS))) (by rw [L_len]))) (by omega)
    (fun i σ' H' => ∃ (v3 v4 v5 : Option V) (as : List Addr) (bs : List Bool), σ' = [some (.ref a), some (.ref pF), some (.ref pS), v3, v4, v5] ∧ Ex H H' ∧ H' pF = some (.lst (as.map V.ref)) ∧ H' pS = some (.lst (bs.map V.bl)) ∧ LA H' as (cycs (fn ns) ns.length i) ∧
      (∀ x ∈ as, H x = none ∧ x ≠ pF ∧ x ≠ pS) ∧ as.length ≤ i ∧ bs.length = ns.length ∧ ∀ j, j < ns.length → (bs.getD j false = true ↔ Sn (fn ns) ns.length i j)) ?_ ?_ ?_
  · intro H3 e3
    refine ⟨_, _, _, [], List.replicate ns.length false, rfl, e1.trans (e2.trans e3), e3 _ _ (e2 _ _ h1), by rw [List.map_replicate]; exact e3 _ _ h2, .nil, fun x hx => (nomatch hx), Nat.le_refl _, List.length_replicate .., fun j hj => ?_⟩
    constructor
    · intro h
      rw [List.getD_eq_getElem?_getD, List.getElem?_replicate] at h
      rw [if_pos hj] at h
      cases h
    · rintro ⟨s, h, _⟩
      exact absurd h (Nat.not_lt_zero _)
  · rintro i σ' H' hi ⟨v3, v4, v5, as, bs, rfl, ex, a1, a2, a3, a4, a5, a6, a7⟩
    have hi' : i < ns.length := by omega
    refine s_when (b := !(bs.getD i false)) (et_not (et_B (ev_op (ev_var rfl) (ev_var rfl) (rv_ixL (sq_of a2) (bl_get (by omega)))))) (fun hb H3 e3 => ?_) (fun hb H3 e3 => ?_)
    · have hns : ¬ Sn (fn ns) ns.length i i := fun h => by
        rw [(a7 i hi').mpr h] at hb
        cases hb
      have hmin : isMin (fn ns) ns.length i = true := by
        refine Classical.byContradiction fun h => hns ((sn_iff_notMin PF hi').mpr h)
      obtain ⟨p1, p2, p3⟩ := per_spec PF hi'
      have p0 := per_pos (fn ns) ns.length i
      refine q_asgL (el_lst ea_nil (Nat.zero_le _)) (fun pM H4 hpM e4 h4 => ?_)
      have hpM0 : H pM = none := fresh_back (ex.trans e3) hpM
      have hMF : pM ≠ pF := (ne_of_none (e3 _ _ a1) hpM).symm
      have hMS : pM ≠ pS := (ne_of_none (e3 _ _ a2) hpM).symm
      have hMa : ∀ x ∈ as, x ≠ pM := LA.fresh (LA.ex a3 e3) hpM
      refine q_asg (ev_var rfl) (fun H5 e5 => ?_)
      refine q_while (fun m σ' H' => ∃ (k : Nat) (bs' : List Bool), k ≤ per (fn ns) ns.length i ∧ m = per (fn ns) ns.length i - k ∧ σ' = [some (.ref a), some (.ref pF), some (.ref pS), some (vi i), some (.ref pM), some (vi (itr (fn ns) k i))] ∧ Ex H H' ∧
        H' pF = some (.lst (as.map V.ref)) ∧ H' pS = some (.lst (bs'.map V.bl)) ∧ H' pM = some (.lst (L ((List.range k).map fun j => itr (fn ns) j i))) ∧ LA H' as (cycs (fn ns) ns.length i) ∧ bs'.length = ns.length ∧
        ∀ j, j < ns.length → (bs'.getD j false = true ↔ Sn (fn ns) ns.length i j ∨ j ∈ (List.range k).map fun j => itr (fn ns) j i)) (per (fn ns) ns.length i) ?_ ?_
      · refine ⟨0, bs, Nat.zero_le _, rfl, rfl, ex.trans (e3.trans (e4.trans e5)), e5 _ _ (e4 _ _ (e3 _ _ a1)), e5 _ _ (e4 _ _ (e3 _ _ a2)), e5 _ _ h4, LA.ex a3 (e3.trans (e4.trans e5)), a6, fun j hj => ?_⟩
        rw [a7 j hj]
        constructor
        · exact .inl
        · rintro (h | h)
          · exact h
          · cases h
      · rintro m σ' H6 ⟨k, bs', k1, rfl, rfl, ex6, b1, b2, b3, b4, b5, b6⟩
        have hlt : itr (fn ns) k i < ns.length := itr_lt PF hi' k
        refine ⟨!(bs'.getD (itr (fn ns) k i) false), et_not (et_B (ev_op (ev_var rfl) (ev_var rfl) (rv_ixL (sq_of b2) (bl_get (by omega))))), fun hb2 H7 e7 => ?_, fun hb2 H7 e7 => ?_⟩
        · have hk : k < per (fn ns) ns.length i := by
            refine Nat.lt_of_le_of_ne k1 fun e => ?_
            have h9 : bs'.getD (itr (fn ns) k i) false = true := (b6 _ hlt).mpr (.inr (by
              rw [e, p1]
              exact List.mem_map.mpr ⟨0, List.mem_range.mpr (by omega), rfl⟩))
            rw [h9] at hb2
            cases hb2
          refine ⟨_, fun σ2 H2 hN => ⟨per (fn ns) ns.length i - (k + 1), by omega, hN⟩, ?_⟩
          refine q_setL (j := itr (fn ns) k i) (e7 _ _ b2) ev_c (ev_var rfl) (ev_var rfl) (by rw [List.length_map]; omega) (fun H8 e8 => ?_)
          have x8 : Ex H (upd H8 pS (.lst ((bs'.map V.bl).set (itr (fn ns) k i) (.bl true)))) := Ex.mut (ex6.trans (e7.trans e8)) hpS0
          have c1 : (upd H8 pS (.lst ((bs'.map V.bl).set (itr (fn ns) k i) (.bl true)))) pM = some (.lst (L ((List.range k).map fun j => itr (fn ns) j i))) := by
            rw [upd_ne hMS]
            exact e8 _ _ (e7 _ _ b3)
          refine q_app c1 (ev_var rfl) (ev_var rfl) (by rw [L_len, List.length_map, List.length_range]; omega) (fun H9 e9 => ?_)
          have x9 : Ex H (upd H9 pM (.lst (L ((List.range k).map fun j => itr (fn ns) j i) ++ [vi (itr (fn ns) k i)]))) := Ex.mut (x8.trans e9) hpM0
          refine s_asg (ev_op (ev_var rfl) (ev_var rfl) (rv_ixL (ex_l x9 hS) (L_at hlt))) (fun H10 e10 => ?_)
          refine ⟨k + 1, bs'.set (itr (fn ns) k i) true, by omega, rfl, rfl, x9.trans e10, ?_, ?_, ?_, ?_, by rw [List.length_set]; exact b5, fun j hj => ?_⟩
          · refine e10 _ _ ?_
            rw [upd_ne hMF.symm]
            refine e9 _ _ ?_
            rw [upd_ne hSF.symm]
            exact e8 _ _ (e7 _ _ b1)
          · refine e10 _ _ ?_
            rw [upd_ne hMS.symm]
            refine e9 _ _ ?_
            rw [upd_same, List.map_set]
          · rw [e10 _ _ upd_same, range_map_snoc, L_app]
            rfl
          · refine LA.ex (LA.upd (LA.ex (LA.upd (LA.ex b4 (e7.trans e8)) fun x hx => (a4 x hx).2.2) e9) hMa) e10
          · rw [bs_set (by omega), b6 j hj, range_map_snoc, List.mem_append, List.mem_singleton]
            constructor
            · rintro ((h | h) | h)
              · exact .inl h
              · exact .inr (.inl h)
              · exact .inr (.inr h)
            · rintro (h | h | h)
              · exact .inl (.inl h)
              · exact .inl (.inr h)
              · exact .inr h
        · have hk : k = per (fn ns) ns.length i := by
            refine Classical.byContradiction fun hne => ?_
            have hkl : k < per (fn ns) ns.length i := by omega
            have h9 : bs'.getD (itr (fn ns) k i) false = true := by
              cases q : bs'.getD (itr (fn ns) k i) false with
              | true => rfl
              | false => rw [q] at hb2; cases hb2
            rcases (b6 _ hlt).mp h9 with h | h
            · exact sn_itr PF hi' hns k h
            · exact rnd_take_nodup PF hi' hkl h
          subst hk
          have x7 := ex6.trans e7
          refine s_app (e7 _ _ b1) (ev_var rfl) (ev_var rfl) (by rw [List.length_map]; omega) (fun H8 e8 => ?_)
          refine ⟨_, _, _, as ++ [pM], bs', rfl, Ex.mut (x7.trans e8) hpF, ?_, ?_, ?_, fun x hx => ?_, by rw [List.length_append]; show as.length + 1 ≤ i + 1; omega, b5, fun j hj => ?_⟩
          · rw [upd_same, List.map_append]
            rfl
          · rw [upd_ne hSF]
            exact e8 _ _ (e7 _ _ b2)
          · rw [cycs_yes hmin]
            refine paired_snoc (LA.upd (LA.ex b4 (e7.trans e8)) fun x hx => (a4 x hx).2.1) ?_
            show upd H8 pF _ pM = _
            rw [upd_ne hMF]
            exact e8 _ _ (e7 _ _ b3)
          · rcases List.mem_append.mp hx with hx | hx
            · exact a4 x hx
            · rw [List.mem_singleton.mp hx]
              exact ⟨hpM0, hMF, hMS⟩
          · rw [b6 j hj, sn_succ hi']
            exact Iff.rfl
    · have hb' : bs.getD i false = true := by
        cases q : bs.getD i false with
        | true => rfl
        | false => rw [q] at hb; cases hb
      have hsn := (a7 i hi').mp hb'
      have hmin : ¬ isMin (fn ns) ns.length i = true := (sn_iff_notMin PF hi').mp hsn
      refine ⟨_, _, _, as, bs, rfl, ex.trans e3, e3 _ _ a1, e3 _ _ a2, ?_, a4, by omega, a6, fun j hj => ?_⟩
      · rw [cycs_no hmin]
        exact LA.ex a3 e3
      · rw [a7 j hj, sn_succ hi']
        constructor
        · exact .inl
        · rintro (h | h)
          · exact h
          · obtain ⟨s, s1, s2, s3⟩ := hsn
            exact ⟨s, s1, s2, rnd_trans PF s2 s3 h⟩
  · rintro σ' H' ⟨v3, v4, v5, as, bs, rfl, ex, a1, a2, a3, a4, a5, a6, a7⟩
    rw [Int.toNat_natCast] at a3
    refine s_ret (ev_var rfl) (fun H2 e2 => ?_)
    exact kk pF H2 hpF (ex.trans e2) ⟨as, e2 _ _ a1, LA.ex a3 e2, fun x hx => ⟨(a4 x hx).1, (a4 x hx).2.1⟩⟩
end Hm
namespace Hm
open PySem PySem.Spec PyProof.Rows L2 Evl
/-! ### own ==, len, in -/
section
variable {X : Cx} {CX : CXT} {n : Nat} {C f : Addr} {fd : FuncData} {ps : List Str} {sp : Sp} {E : XK}
/-- a def of the written part, called somewhere below the running body -/
theorem own_run {A : Around} {pins : List (Addr × Obj)} {σ : L2.St} {H : Hp} {s : Shared} {Q : VK} {us : List Value} {vs : List V} (F : FnOk X.prog X.w X.K X.mg X.base CX n f fd ps sp) (hr : Room n A) (hfr : A.frames = X.A.frames)
    (hb : Binds X.K fd ps []) (hx : Passes CX X E) (I : Inv X pins σ H s) (r : Vals vs us) (h : sp vs H Q E) : wpAny (model X.prog X.w) A (call (.ref f) us) (EP X pins σ Q) X.xe s := by
  have e0 : Env0 X.prog X.w X.K X.mg X.base A X.stack s H := by
    have e := I.env0
    exact ⟨by rw [hfr]; exact e.frames, e.mod, e.bs, e.bsz, e.funs, e.frf, e.hok, e.bare⟩
  have hl := F.len _ _ _ _ h
  have hb2 : BindsTo s fd ⟨us, []⟩ (ps.zip us) := by
    have q := hb s us I.kIn (by rw [List.append_nil, ← r.length]; exact hl)
    rw [List.append_nil] at q
    exact q
  refine wpAny_call (codeAny_mono (F.run A X.stack s H ⟨us, []⟩ us vs Q E hr e0 hb2 r h) fun r s' hq => ?_)
  cases r with
  | error e => exact hx pins σ H s e s' I hq
  | ok fl =>
    cases fl with
    | ret w => exact I.after hq
    | next => exact False.elim hq
    | brk => exact False.elim hq
    | cont => exact False.elim hq
/-- what stands on the right of an own == -/
inductive Rgt (K : PySem.W.Frag) (C : Addr) (H : Hp) : V → Prop where
  | ins {b dx : Addr} {fs : List (Str × V)} (e : H b = some (.ins C dx fs)) : Rgt K C H (.ref b)
  | lst {b : Addr} {xs : List V} (e : H b = some (.lst xs)) (h : PySem.W.subIn K (.type "list") (.ref C) = some false) : Rgt K C H (.ref b)
  | int (i : Int) (h : PySem.W.subIn K (.type "int") (.ref C) = some false) : Rgt K C H (.int i)
theorem rgt_ok {pins : List (Addr × Obj)} {σ : L2.St} {H : Hp} {s : Shared} {y : V} {u : Value} (I : Inv X pins σ H s) (r : RelV y u) (h : Rgt X.K C H y) : ∃ tb, PySem.W.Looks (model X.prog X.w) s.heap (typeOf u) tb ∧ PySem.W.notFirst X.K C tb = true := by
  cases h with
  | ins e =>
    cases r
    obtain ⟨mA, J, _⟩ := ins_get I.hok e
    obtain ⟨od, J, _⟩ := J.look
    exact ⟨_, J.type, by simp [PySem.W.notFirst]⟩
  | lst e h =>
    cases r
    obtain ⟨_, its, k, _, e2⟩ := (show ObjOk X.prog X.w H s.heap _ (.lst _) from I.hok _ _ e)
    exact ⟨.type "list", (PySem.W.Looks.ld e2).andThen .now, by simp [PySem.W.notFirst, h]⟩
  | int i h =>
    obtain ⟨t, rfl⟩ := r
    exact ⟨.type "int", .now, by simp [PySem.W.notFirst, h]⟩
def rOwnEq (K : PySem.W.Frag) (C : Addr) (sp : Sp) (E : XK) : R2 := fun x y H Q => ∃ (a dx : Addr) (fs : List (Str × V)), x = .ref a ∧ H a = some (.ins C dx fs) ∧ Rgt K C H y ∧ sp [.ref a, y] H (fun v H' => ∃ b, v = .bl b ∧ Q (.bl b) H') E
theorem op_own_eq (F : FnOk X.prog X.w X.K X.mg X.base CX n f fd ps sp) (hs : PySem.W.findIn X.K (.ref C) "__eq__" = some (some (.ref f))) (hf : PySem.W.isFn X.K (.ref f) = true) (hb : Binds X.K fd ps []) (hx : Passes CX X E) (hr : Room n X.A) : OpR X (compareOp .Eq) (rOwnEq X.K C sp E) := by
  intro pins s σ H x y v u Q I rx ry hq
  obtain ⟨a, dx, fs, rfl, ha, hg, h⟩ := hq
  cases rx
  obtain ⟨mA, J, _⟩ := ins_get I.hok ha
  obtain ⟨od, J, _⟩ := J.look
  obtain ⟨m, hF⟩ := I.fr
  obtain ⟨tb, l1, l2⟩ := rgt_ok I ry hg
  show wpAny (model X.prog X.w) X.A (richCompare .Eq (.ref a) u) (EP X pins σ Q) X.xe s
  refine PySem.W.cmp_K (op := .Eq) (tb := tb) hr.units0 hF I.ok.mod.kin J l1 l2 hs hf ?_
  refine wpAny_mono (own_run (vs := [V.ref a, y]) F hr rfl hb hx I (.cons (show RelV (V.ref a) (Value.ref a) from rfl) (.cons ry .nil)) h) (fun r s' z => ?_) fun _ _ x => x
  obtain ⟨v', H', I', rv, b, rfl, q⟩ := z
  cases rv
  exact ⟨.bl b, H', I', rfl, q⟩
def rOwnLen (C : Addr) (sp : Sp) (E : XK) : List V → Hp → VK → Prop := fun xs H Q => ∃ (a dx : Addr) (fs : List (Str × V)), xs = [.ref a] ∧ H a = some (.ins C dx fs) ∧ sp [.ref a] H (fun v H' => ∃ k : Nat, v = .int (k : Int) ∧ k < 1000000 ∧ Q (.int (k : Int)) H') E
theorem call_own_len (F : FnOk X.prog X.w X.K X.mg X.base CX n f fd ps sp) (hs : PySem.W.findIn X.K (.ref C) "__len__" = some (some (.ref f))) (hf : PySem.W.isFn X.K (.ref f) = true) (hb : Binds X.K fd ps []) (hx : Passes CX X E) (hr : Room (n + 1) X.A) : CallR X (.builtin "len") (rOwnLen C sp E) := by
  intro pins s σ H xs us Q I r h
  obtain ⟨a, dx, fs, rfl, ha, h⟩ := h
  cases r with
  | cons ra rr =>
    cases rr
    cases ra
    obtain ⟨mA, J, _⟩ := ins_get I.hok ha
    obtain ⟨od, J, _⟩ := J.look
    obtain ⟨m, hF⟩ := I.fr
    refine PySem.W.len_K hF I.ok.mod.kin J hs hf ?_
    refine wpAny_mono (own_run (vs := [V.ref a]) F hr.in1 rfl hb hx I (.cons (show RelV (V.ref a) (Value.ref a) from rfl) .nil) h) (fun r s' z => ?_) fun _ _ x => x
    obtain ⟨v', H', I', rv, k, rfl, hk, q⟩ := z
    obtain ⟨t, rfl⟩ := rv
    exact ⟨⟨by omega, by omega⟩, .int (k : Int), H', I'.tok _, ⟨_, rfl⟩, q⟩
def rOwnIn (C : Addr) (sp : Sp) (E : XK) (neg : Bool) : R2 := fun x y H Q => ∃ (a dx : Addr) (fs : List (Str × V)), y = .ref a ∧ H a = some (.ins C dx fs) ∧ sp [.ref a, x] H (fun v H' => ∃ b, v = .bl b ∧ Q (.bl (if neg then !b else b)) H') E
theorem op_own_in (F : FnOk X.prog X.w X.K X.mg X.base CX n f fd ps sp) (hs : PySem.W.findIn X.K (.ref C) "__contains__" = some (some (.ref f))) (hf : PySem.W.isFn X.K (.ref f) = true) (hb : Binds X.K fd ps []) (hx : Passes CX X E) (hr : Room n X.A) : OpR X (compareOp .In) (rOwnIn C sp E false) := by
  intro pins s σ H x y v u Q I rx ry hq
  obtain ⟨a, dx, fs, rfl, ha, h⟩ := hq
  cases ry
  obtain ⟨mA, J, _⟩ := ins_get I.hok ha
  obtain ⟨od, J, _⟩ := J.look
  obtain ⟨m, hF⟩ := I.fr
  refine PySem.W.in_K hF I.ok.mod.kin J hs hf ?_
  refine wpAny_mono (own_run (vs := [V.ref a, x]) F hr rfl hb hx I (.cons (show RelV (V.ref a) (Value.ref a) from rfl) (.cons rx .nil)) h) (fun r s' z => ?_) fun _ _ x => x
  obtain ⟨v', H', I', rv, b, rfl, q⟩ := z
  cases rv
  exact wpAny_truthy_bool ⟨.bl b, H', I', rfl, q⟩
theorem op_own_notIn (F : FnOk X.prog X.w X.K X.mg X.base CX n f fd ps sp) (hs : PySem.W.findIn X.K (.ref C) "__contains__" = some (some (.ref f))) (hf : PySem.W.isFn X.K (.ref f) = true) (hb : Binds X.K fd ps []) (hx : Passes CX X E) (hr : Room n X.A) : OpR X (compareOp .NotIn) (rOwnIn C sp E true) := by
  intro pins s σ H x y v u Q I rx ry hq
  obtain ⟨a, dx, fs, rfl, ha, h⟩ := hq
  cases ry
  obtain ⟨mA, J, _⟩ := ins_get I.hok ha
  obtain ⟨od, J, _⟩ := J.look
  obtain ⟨m, hF⟩ := I.fr
  refine PySem.W.notIn_K hF I.ok.mod.kin J hs hf ?_
  refine wpAny_mono (own_run (vs := [V.ref a, x]) F hr rfl hb hx I (.cons (show RelV (V.ref a) (Value.ref a) from rfl) (.cons rx .nil)) h) (fun r s' z => ?_) fun _ _ x => x
  obtain ⟨v', H', I', rv, b, rfl, q⟩ := z
  cases rv
  exact wpAny_truthy_bool ⟨.bl (!b), H', I', rfl, q⟩
end
end Hm
namespace Hm
open PySem PySem.Spec PyProof.Rows L2 NdefX
/-! ### own errors whose __init__ begins with super().__init__(text) -/
abbrev VI : String := "ValueError.__init__"
/-- what the written part says of the class at C and of its __init__ at fI -/
structure SupF (P : Program) (K : PySem.W.Frag) (C fI : Addr) (qual : Str) (params : Arguments) (body : List Stmt) (scope : Scope) (fd : FuncData) : Prop where
  fn : ∃ (oc : Value) (od an : Option Addr) (osl : Array (Option Value)) (kV doc pm ct : Value) (cda cc : Addr), fd = PySem.W.fnX "__init__" qual params body scope [("__class__", cc)] .none kV doc pm an (.ref cda) ct ∧ K.lookup fI = some ⟨oc, od, .func fd, osl⟩ ∧
    PySem.W.codeIn K (.ref cda) qual = true ∧ (∃ (ccl : Value) (cdd : Option Addr) (vs : Array Value) (ccs : Array (Option Value)) (file : Str) (tf : Tok), K.lookup cda = some ⟨ccl, cdd, .fields vs, ccs⟩ ∧ vs[2]? = some (.str file tf) ∧ ((P.main.file : Str) == file) = true) ∧
    ∃ (cl : Value) (cld : Option Addr) (csl : Array (Option Value)), K.lookup cc = some ⟨cl, cld, .cell (some (.ref C)), csl⟩
  sub : PySem.W.mroIn K C (.ref C) = some true
  sup : PySem.W.nsIn K mainGlobals "super" = some none
  opq : PySem.W.nsIn K cStatics "thirdparty.any" = some none
  ini : PySem.W.ks_superIn K C C "__init__" = some (some (.builtin VI))
  vB : PySem.W.subIn K (.ref C) (.type "ValueError") = some true
  top : (P.main.scope.names.lookup ("super" : Str)).isSome = false
  oex : OexC K C
theorem cell_ne {K : PySem.W.Frag} {C cc : Addr} {cd : ClassData} {o : Obj} {v : Option Value} (h1 : PySem.W.clsIn K C = some cd) (h2 : K.lookup cc = some o) (h3 : o.data = .cell v) : True := trivial
theorem sup_fn {CX : CXT} {P : Program} {w : World} {K : PySem.W.Frag} {mg : Str → Option Value} {base : Heap} {C fI : Addr} {qual : Str} {params : Arguments} {scope : Scope} {fd : FuncData} {N ps : List Str} {k : Nat} {sp : Sp}
    {e : Expr} {rest : List Stmt} {p0 p1 p2 p3 p4 : Pos} {ar : Arg}
    (SF : SupF P K C fI qual params (.Expr (.Call (.Attribute (.Call (.Name "super" p0) [] [] p1) "__init__" p2) [e] [] p3) p4 :: rest) scope fd)
    (S : NScope N ps ["__class__"] scope) (hp : (params.posonlyargs ++ params.args).head? = some ar) (hN0 : N[0]? = some ar.arg) (hps : 0 < ps.length) (hsl : scope.names.lookup ("super" : Str) = some .globalImplicit)
    (len : ∀ vs H Q E, sp vs H Q E → vs.length = ps.length)
    (hbody : ∀ (F : NF) (A : Around) (outer : List Env) (s : Shared) (H : Hp) (vs : List V) (Q : VK) (E : XK), F.qual = qual → F.scope = scope → Room k (A.deeper (envF F fI s.heap.objs.size)) → sp vs H Q E →
      ∃ (x : Addr) (ta : TA) (t : TS), vs[0]? = some (.ref x) ∧ H x = some (exo x C none) ∧ PA (ncx CX P w K mg base N F fI A outer s H E) [e] ta ∧ PSs (ncx CX P w K mg base N F fI A outer s H E) rest t ∧
        ta (startF N vs [none]) H (fun ws H1 => ws.length ≤ 1000 ∧ H1 x = some (exo x C none) ∧ t { nx := fun _ H' => Q .non H', rt := Q } (startF N vs [none]) H1))
    (hswap : ∀ (env : Env), swapsWith (.Call (.Attribute (.Call (.Name "super" p0) [] [] p1) "__init__" p2) [e] [] p3) none p4.line env = pure false)
    (hstar : ∀ env : Env, starEach [e] env = (false, eval e env) :: starEach [] env)
    (hev : ∀ env : Env, ∃ pl : Sem Bool, eval (.Call (.Attribute (.Call (.Name "super" p0) [] [] p1) "__init__" p2) [e] [] p3) env = (do
      let ov ← attributeBase (.Call (.Name "super" p0) [] [] p1) "__init__" env (eval (.Call (.Name "super" p0) [] [] p1) env)
      standAt p2.atName
      let (f, first) ← holding [ov] (getMethod ov "__init__" pl)
      callWith p3 f first (backTo p3 (starEach [e] env)) [])) :
    FnOk P w K mg base CX (k + 1) fI fd ps sp := by
  refine ⟨len, fun A outer s H args us vs Q E hr e0 hb r hsp => ?_⟩
  obtain ⟨oc, od, an, osl, kV, doc, pm, ct, cda, cc, rfl, lk, hcd, ⟨ccl, cdd, fvs, ccs, file, tf, lkc, hvs, hfile⟩, cl, cld, csl, lcc⟩ := SF.fn
  have hl := len _ _ _ _ hsp
  have KX : K.In s.heap := e0.mod.kin.keeps fun b o e => (e0.bs b o e).1
  have lim : s.heap.NoLimit := e0.mod.nolimit.keeps fun b o e => (e0.bs b o e).1
  refine codeAny_call_function hr.depth (KX _ _ lk) rfl S.co S.gen rfl (PySem.W.codeRec_of KX hcd) (hb _ _ _ _ ?_)
  refine wpAny_newFunctionEnv S.nocell (fun ⟨n, _⟩ hy => S.par n (List.of_mem_zip hy).1) (fun h₁ hns hsb => ⟨lim.fresh _ hsb, ?_⟩) S.kind
  have kp : ∀ b o, s.heap.get? b = some o → h₁.get? b = some o := fun b o e => hsb.extBut b o (Nat.ne_of_lt (Heap.lt_size e)) (Heap.get?_push_of_some _ e)
  let F : NF := ⟨"__init__", qual, params, (.Expr (.Call (.Attribute (.Call (.Name "super" p0) [] [] p1) "__init__" p2) [e] [] p3) p4 :: rest), scope, [("__class__", cc)], cda⟩
  have hccH : H cc = none := (e0.bs cc _ (e0.mod.kin _ _ lcc)).2
  have cells : CellsAt F.cl ["__class__"] [none] s.heap H := by
    refine ⟨rfl, fun y c hy => ?_, fun x y c hx hy => ?_, fun i y hy => ?_⟩
    · by_cases q : y = "__class__"
      · subst q
        have : some cc = some c := hy
        cases this
        exact ⟨hccH, _, _, KX _ _ lcc, rfl⟩
      · have : (none : Option Addr) = some c := by
          have h2 : List.lookup y [(("__class__" : Str), cc)] = some c := hy
          rw [List.lookup_cons] at h2
          have q2 : (y == ("__class__" : Str)) = false := by simpa using q
          rw [q2] at h2
          exact h2
        cases this
    · have one : ∀ z, List.lookup z [(("__class__" : Str), cc)] = some c → z = "__class__" := fun z h2 => by
        by_cases q : z = "__class__"
        · exact q
        · rw [List.lookup_cons] at h2
          have q2 : (z == ("__class__" : Str)) = false := by simpa using q
          rw [q2] at h2
          cases h2
      rw [one x hx, one y hy]
    · match i, hy with
      | 0, hy =>
        cases hy
        exact ⟨cc, rfl, fun v hv => by cases hv⟩
  obtain ⟨x, ta, t, hv0, hx, ha, ht, hq⟩ := hbody F A outer s H vs Q E rfl rfl (hr.deeper _) hsp
  have I : Inv (ncx CX P w K mg base N F fI A outer s H E) [] (startF N vs [none]) H { s with heap := h₁, toks := s.toks + (ps.zip us).length } := inv_startN S hr.hd e0 hl r cells hns kp
  show codeAny _ _ (.func F.body (envF F fI s.heap.objs.size)) _ _
  have KX1 : K.In h₁ := KX.keeps kp
  have hkc : scope.names.lookup ("__class__" : Str) = some .free := S.frk _ (List.mem_cons_self ..)
  have hka : scope.names.lookup ar.arg = some .local := by
    refine S.par _ ?_
    have h1 : (ps ++ [("__class__" : Str)])[0]? = some ar.arg := by
      rw [← S.pre, List.getElem?_take_of_lt (by simp)]
      exact hN0
    rw [List.getElem?_append_left hps] at h1
    exact List.mem_of_getElem? h1
  obtain ⟨nm, qn, Nc, bs, bm, sn, sub, ab, col, dd, k0, k1, k2, k3, k5, hC, hbm⟩ := SF.oex.cls
  have hcl : PySem.W.clsIn K C = some { name := nm, bases := bs, mro := .ref C :: bm, ns := Nc, qualname := qn, hasDict := true, slotNames := sn, subclasses := sub, abstract := ab, collection := col, hasDel := false } := by unfold PySem.W.clsIn; rw [hC] <;> rfl
  obtain ⟨t1, hxo⟩ := exo_at I.hok hx
  have hxo : h₁.get? x = some ({ cls := .ref C, dict := none, data := .fields #[.ref t1, .none, .none, .none, .bool false, .none] } : Obj) := hxo
  have hxC : x ≠ C := fun q => by
    subst q
    have h2 := KX1 _ _ hC
    rw [hxo] at h2
    cases h2
  refine ks_codeAny_funcAt (ks_wpAt_execs_cons (ks_wpAt_mono (Q := fun f s' => f = .next ∧ ∃ H', Inv (ncx CX P w K mg base N F fI A outer s H E) [] (startF N vs [none]) H' s' ∧ t { nx := fun _ H' => Q .non H', rt := Q } (startF N vs [none]) H') ?first (fun f s' z => ?rest) (fun _ _ z => z)))
  case rest =>
    obtain ⟨hf, H', J, q⟩ := z
    subst hf
    refine wpAt_of_wpAny (wpAny_mono (ht.run [] s' _ H' _ J q) (fun fl s' hs => ?_) fun e s' hs => hs)
    have fin : ∀ {σ' : L2.St} {H' : Hp} {v : V} {u : Value}, Inv (ncx CX P w K mg base N F fI A outer s H E) [] σ' H' s' → L2.RelV v u → Q v H' → CE outer P w H s Q u s' :=
      fun {σ' H' v u} J rv q => ⟨v, H', J.os, J.bare, J.base, J.hok, rv, q⟩
    cases fl with
    | ret u =>
      obtain ⟨v, σ', H', J, rv, q⟩ := hs
      exact fin J rv q
    | next =>
      obtain ⟨σ', H', J, q⟩ := hs
      exact fin (v := V.non) (u := Value.none) J rfl q
    | brk =>
      obtain ⟨_, _, _, q⟩ := hs
      exact False.elim q
    | cont =>
      obtain ⟨_, _, _, q⟩ := hs
      exact False.elim q
  case first =>
    obtain ⟨pl, hev'⟩ := hev (envF F fI s.heap.objs.size)
    refine ks_wpAt_Expr_any (ks_wpAt_MethodCall (ks_wpAt_super_base (env := envF F fI s.heap.objs.size) hsl hkc rfl rfl (kp _ _ (KX _ _ lk)) rfl hp rfl (kp _ _ (KX _ _ lkc)) rfl hvs hfile SF.top ?_) hev') (by unfold interactive; rw [show (envF F fI s.heap.objs.size).scope.kind = .function from S.kind]; rfl) (hswap _)
    obtain ⟨mb, b1, b2⟩ := e0.mod.blt
    have kpb : ∀ b o, base.get? b = some o → h₁.get? b = some o := fun b o e => kp b o (e0.bs b o e).1
    have lsup : ∀ {QQ : Value → Shared → Prop} {EE : Value → Shared → Prop}, QQ (.type "super") { s with heap := h₁, toks := s.toks + (ps.zip us).length } → wpAny (model P w) (A.deeper (envF F fI s.heap.objs.size)) (loadGlobal (envF F fI s.heap.objs.size) "super") QQ EE { s with heap := h₁, toks := s.toks + (ps.zip us).length } := fun {QQ EE} q =>
      PySem.Calls.loadGlobal_builtin (env := envF F fI s.heap.objs.size) (e0.mod.glob.keeps kpb) (PySem.W.mg_none_of e0.mod.kin e0.mod.glob SF.sup) (b1.keeps kpb) ((b2 _ (by decide +kernel)).trans PyProof.Rows.Boot.«super») q
    refine PySem.W.ks_loadName_global (env := envF F fI s.heap.objs.size) S.kind hsl (lsup ⟨rfl, ?_⟩)
    refine wpAny_loadName_free (env := envF F fI s.heap.objs.size) S.kind hkc rfl (c := cc) ⟨_, KX1 _ _ lcc, rfl⟩ ?_
    obtain ⟨u0, us', rfl, hu0⟩ : ∃ u0 us', us = u0 :: us' ∧ u0 = Value.ref x := by
      cases r with
      | nil => cases hv0
      | @cons v0 u0 vs' us' r0 rr =>
        have : v0 = V.ref x := Option.some.inj hv0
        subst this
        exact ⟨_, _, rfl, r0⟩
    subst hu0
    have hself : (ps.zip (Value.ref x :: us')).reverse.lookup ar.arg = some (.ref x) := by
      have ndP : ps.Nodup := by
        have q := S.nd.sublist (List.take_sublist (ps.length + 1) N)
        have q2 : N.take (ps.length + 1) = ps ++ [("__class__" : Str)] := S.pre
        rw [q2] at q
        exact (List.nodup_append.mp q).1
      refine zip_look (i := 0) ndP ?_ rfl
      have h1 : (ps ++ [("__class__" : Str)])[0]? = some ar.arg := by
        rw [← S.pre, List.getElem?_take_of_lt (by simp)]
        exact hN0
      rw [List.getElem?_append_left hps] at h1
      exact h1
    refine wpAny_loadName_local (env := envF F fI s.heap.objs.size) S.kind hka hns hself ?_
    refine ks_wpAny_isType_cls (KX1 _ _ hC) rfl ⟨rfl, ?_⟩
    refine ks_wpAny_call_super (KX1 _ _ hC) rfl hxo rfl (fun c e => by cases e) (PySem.W.looks_mroIn KX1 SF.sub) (fun h2 e2 k2 => ?_)
    have KX2 : K.In h2 := KX1.keeps k2
    have hx2 := k2 _ _ hxo
    have hI : PySem.W.Looks (model P w) h2 (isInstance (.ref x) (.type "ValueError")) true := PySem.W.Looks.andThen ((PySem.W.Looks.ld hx2).andThen .now) (PySem.W.looks_subIn KX2 SF.vB)
    have hini : PySem.W.alongIn K "__init__" (((Value.ref C :: bm).dropWhile (· != .ref C)).drop 1) = some (some (.builtin VI)) := by
      have q := SF.ini
      unfold PySem.W.ks_superIn at q
      rw [hcl] at q
      exact q
    refine PySem.W.kxs_getMethod PySem.W.kxs_ValueError e2 (PySem.W.looks_opaque KX2 SF.opq) (l₀ := .ref C :: bm) (fun A Q E s k q => wpAny_bind ((PySem.W.looks_clsIn KX2 hcl) A _ E s k (wpAny_pure q))) rfl KX2 hini hI hxC rfl ?_
    have u2 : (h2.push (PySem.W.kxs_mw VI x)).get? h2.objs.size = some (PySem.W.kxs_mw VI x) := Heap.get?_push_at rfl rfl
    have k3' : ∀ b o, h₁.get? b = some o → (h2.push (PySem.W.kxs_mw VI x)).get? b = some o := fun b o e => Heap.get?_push_of_some _ (k2 _ _ e)
    have J0 := I.kept (t' := s.toks + (ps.zip (Value.ref x :: us')).length + 1) k3'
    have hu : h₁.objs.size ≤ h2.objs.size := Nat.le_of_lt (Heap.lt_size e2)
    have J1 : Inv (ncx CX P w K mg base N F fI A outer s H E) [(h2.objs.size, PySem.W.kxs_mw VI x)] (startF N vs [none]) H { s with heap := h2.push (PySem.W.kxs_mw VI x), toks := s.toks + (ps.zip (Value.ref x :: us')).length + 1 } :=
      J0.pins_of fun p hp => by
        rw [List.mem_singleton.mp hp]
        exact ⟨u2, I.hok.fresh hu, Nat.ne_of_gt (Nat.lt_of_lt_of_le I.lt hu), I.nofs hu, fun v q => by cases q⟩
    have hrun := ha.run p3 _ _ _ H _ J1 hq
    have hst : starEach [e] (ncx CX P w K mg base N F fI A outer s H E).env = (false, eval e (envF F fI s.heap.objs.size)) :: starEach [] (envF F fI s.heap.objs.size) := hstar _
    rw [hst] at hrun
    show wpAny _ _ (callWith p3 (Value.ref h2.objs.size) [] (backTo p3 (starEach [e] (envF F fI s.heap.objs.size))) []) _ _ _
    rw [hstar]
    refine PySem.W.kxs_callWith (i := VI) (x := x) rfl (PySem.Calls.evalArgs_plain (wpAny_mono hrun (fun ws s1 z => ?_) fun _ _ z => z))
    obtain ⟨wvs, H1, J2, r2, hw, hx1, hq1⟩ := z
    have hu1 : s1.heap.get? h2.objs.size = some (PySem.W.kxs_mw VI x) := (J2.pin (h2.objs.size, PySem.W.kxs_mw VI x) (List.mem_append_right _ (List.mem_singleton.mpr rfl))).1
    refine ⟨hu1, ?_⟩
    obtain ⟨t2, hxo2⟩ := exo_at J2.hok hx1
    have hC2 := J2.kIn _ _ hC
    have hwl : ws.length ≤ sizeLine := by
      rw [← r2.length, sizeLine_eq]
      omega
    obtain ⟨hp2, g2, d2, tk2, os2⟩ := s1
    refine wpAny_call (codeAny_of_tree ?_)
    show wpAny _ _ (callAny (.ref h2.objs.size) ⟨ws, []⟩) _ _ _
    simp only [callAny]
    refine wpAny_bind (wpAny_load hu1 ?_)
    simp only [PySem.W.kxs_mw, show (Value.type "method-wrapper" == Value.type "method" || Value.type "method-wrapper" == Value.type "builtin_function_or_method" || Value.type "method-wrapper" == Value.type "method-wrapper") = true by decide, if_true]
    refine PySem.W.KFB.if_so (by decide) ?_
    refine wpAny_bind (PySem.W.check_bound_init PySem.F.excBase_ValueError.toExcCallFacts hC2 hxo2 rfl ?_)
    refine wpAny_bind (wpAny_pure (wpAny_pure ?_))
    refine ⟨plainId_quiet PySem.F.excBase_ValueError.init.plain _, codeAny_builtin PySem.F.excBase_ValueError.initEntry ?_⟩
    refine PySem.W.exc_init_tree (cls := .ref C) (t0 := t2) (dv := none) (c2 := .none) (c3 := .none) (b4 := .bool false) hxo2 hwl (fun h3 k3 hx3 _ => ?_)
    have J3 := J2.write (t' := tk2) (x := x) (e := x) (o := exo x C none) (by rw [hx1]; exact True.intro) (.inl rfl) k3 ⟨_, hx3⟩ (exo_ok hx3)
    have eu : upd H1 x (exo x C none) = H1 := by
      funext b
      by_cases hb : b = x
      · rw [hb, upd_same, hx1]
      · rw [upd_ne hb]
    rw [eu] at J3
    exact ⟨trivial, H1, J3.pins_of (fun p hp => by cases hp), hq1⟩
end Hm
namespace Hm
open PySem PySem.Spec PyProof.Rows L2 NdefX
/-! ### making such an error, raising it, catching it -/
/-- C(), C's own __init__ keeping sp and setting no attribute -/
def tMk0 (C : Addr) (sp : Sp) : L2.St → Hp → XK → Prop := fun σ H Q => ∀ a, H a = none → sp [.ref a] (upd H a (exo a C none)) (fun v H2 => v = .non ∧ H2 a = some (exo a C none) ∧ Q (.ref C) none (del H2 a)) (fun _ _ _ => False)
section
variable {X : Cx}
theorem pmk_sup0 {CX : CXT} {x : Str} {C fI : Addr} {k : Nat} {fd : FuncData} {ps : List Str} {sp : Sp} {p pos : Pos} (T : OexC X.K C) (iC : PySem.W.findIn X.K (.ref C) "__init__" = some (some (.ref fI))) (tI : PySem.W.typeIn X.K (.ref fI) = some (.type "function"))
    (F1 : FnOk X.prog X.w X.K X.mg X.base CX k fI fd ps sp) (hr : Room (k + 1) X.A) (hb : Binds X.K fd ps []) (hx : Passes CX X (fun _ _ _ => False)) (hg : Gl X x) (hm : X.mg x = some (.ref C))
    (hdb : (x == ("__debug__" : Str)) = false := by decide) : L2.PMk X (.Call (.Name x p) [] [] pos) (tMk0 C sp) := by
  intro pins s σ H Q I h
  obtain ⟨nm, q, N, bs, bm, sn, sub, ab, col, dd, k0, k1, k2, k3, k5, hC, hbm⟩ := T.cls
  refine wpAny_Call_Name_kw (ld_glob I hg hm ?_ hdb)
  refine PySem.W.callWith_K0 I.kIn T.kC ?_
  obtain ⟨hp, g, dr, tk, os⟩ := s
  have hsz : hp.objs.size ≤ hp.objs.size + 1 := Nat.le_succ _
  have hn : H (hp.objs.size + 1) = none := I.hok.fresh hsz
  have hq := h (hp.objs.size + 1) hn
  have kk : ∀ b o, hp.get? b = some o → ((hp.push (PySem.W.kdv_tup [])).push (PySem.HandSPX.excO C hp.objs.size)).get? b = some o := fun b o e => Heap.get?_push_of_some _ (Heap.get?_push_of_some _ e)
  have hget : ((hp.push (PySem.W.kdv_tup [])).push (PySem.HandSPX.excO C hp.objs.size)).get? (hp.objs.size + 1) = some (PySem.HandSPX.excO C hp.objs.size) := by heap_get
  have I2 : Inv X pins σ (upd H (hp.objs.size + 1) (exo (hp.objs.size + 1) C none)) ⟨(hp.push (PySem.W.kdv_tup [])).push (PySem.HandSPX.excO C hp.objs.size), g, dr, tk, os⟩ :=
    I.laid (t' := tk) (a := hp.objs.size + 1) (o := exo (hp.objs.size + 1) C none) (h' := (hp.push (PySem.W.kdv_tup [])).push (PySem.HandSPX.excO C hp.objs.size)) kk hsz (exo_ok hget)
  have r2 : Vals [V.ref (hp.objs.size + 1)] [Value.ref (hp.objs.size + 1)] := .cons rfl .nil
  have hl : ([Value.ref (hp.objs.size + 1)] ++ []).length = ps.length := (F1.len _ _ _ _ hq)
  refine wpAny_call (PySem.HandSPX.call_own F.excBase_ValueError (fun Y => PySem.HandSPX.refsVE_contains Y bm hbm) (I.kIn _ _ hC) (PySem.W.looks_findIn I.kIn iC) (fun self => PySem.W.bind_fn I.kIn self tI) (by decide)
    (codeAny_mono (F1.run _ X.stack _ _ ⟨[Value.ref (hp.objs.size + 1)], []⟩ [Value.ref (hp.objs.size + 1)] _ _ (fun _ _ _ => False) (hr.make C [] []) (I2.env0.make C [] []) (by
      have b := hb ⟨(hp.push (PySem.W.kdv_tup [])).push (PySem.HandSPX.excO C hp.objs.size), g, dr, tk, os⟩ [Value.ref (hp.objs.size + 1)] I2.kIn hl
      simpa using b) r2 hq) fun r s' hq' => ?_))
  cases r with
  | error er => exact hx pins σ _ _ er s' I2 hq'
  | ok fl =>
    cases fl with
    | ret u =>
      obtain ⟨v, H2, os2, bare2, un2, hok2, rv, ev, ea, q2⟩ := hq'
      subst ev
      obtain ⟨h2, g2, d2, t2, os'⟩ := s'
      refine ⟨rv, ?_⟩
      obtain ⟨t0, hoe⟩ := exo_at hok2 ea
      obtain ⟨G, g1', g2'⟩ := restrict h2 fun b => decide (b ≠ hp.objs.size + 1)
      have gk : ∀ b, b ≠ hp.objs.size + 1 → G.get? b = h2.get? b := fun b hb => g1' b (decide_eq_true hb)
      have ge : G.get? (hp.objs.size + 1) = none := g2' _ (by simp)
      have nha : ∀ {b : Addr} {o : Obj}, hp.get? b = some o → b ≠ hp.objs.size + 1 := fun {b o} z => Nat.ne_of_lt (Nat.lt_succ_of_lt (Heap.lt_size z))
      have up : ∀ {b : Addr}, b ≠ hp.objs.size + 1 → H b = none → upd H (hp.objs.size + 1) (exo (hp.objs.size + 1) C none) b = none := fun {b} hb n => by rw [upd_ne hb]; exact n
      have U : Un (frs X.stack) [] H (del H2 (hp.objs.size + 1)) hp G := {
        keep := fun b o z n hf hx => by
          rw [gk b (nha z)]
          exact un2.keep b o (kk b o z) (up (nha z) n) hf hx
        slot := fun b o z n hf hx => by
          rw [gk b (nha z)]
          exact un2.slot b o (kk b o z) (up (nha z) n) hf hx
        free := fun b o z n hx => by
          rw [del_ne (nha z)]
          exact un2.free b o (kk b o z) (up (nha z) n) hx
        there := fun b o z hx => by
          rw [gk b (nha z)]
          exact un2.there b o (kk b o z) hx
        tups := fun b xs z => by
          rw [del_ne (ne_of_none z hn)]
          exact un2.tups b xs (by rw [upd_ne (ne_of_none z hn)]; exact z)
        frzs := fun b o v z => by
          rw [del_ne (ne_of_none z hn)]
          exact un2.frzs b o v (by rw [upd_ne (ne_of_none z hn)]; exact z)
        tbls := fun b ps z => by
          rw [del_ne (ne_of_none z hn)]
          exact un2.tbls b ps (by rw [upd_ne (ne_of_none z hn)]; exact z) }
      have hok3 : HOk X.prog X.w (del H2 (hp.objs.size + 1)) G := fun b o z => by
        have hba : b ≠ hp.objs.size + 1 := fun e => by
          rw [e, del_same] at z
          cases z
        rw [del_ne hba] at z
        have noa : ∀ {c : Addr}, H2 c = some (.own b) → c ≠ hp.objs.size + 1 := fun {c} hc => at_ne ea hc exo_own
        exact (hok2 b o z).stay (fun c v hc y => by
            have hca : c ≠ hp.objs.size + 1 := by
              rcases hc with hc | hc
              · rw [hc]
                exact hba
              · exact noa hc
            rw [gk c hca]
            exact y)
          (fun c hc => by rw [del_ne (noa hc)]; exact hc) (fun c xs hc => by rw [del_ne (at_ne ea hc exo_tup)]; exact hc)
      have J : Inv X pins σ (del H2 (hp.objs.size + 1)) ⟨G, g2, d2, t2, os'⟩ := I.call' (ch := []) os2 U hok3 bare2 (fun b z => absurd z (by simp))
      exact ⟨hp.objs.size + 1, _, _, ⟨G, g2, d2, t2, os'⟩, _, .ref C, none, rfl, J, fun b o z => by
        by_cases hba : b = hp.objs.size + 1
        · rw [hba, ge] at z
          cases z
        · exact (gk b hba).symm.trans z, ge, hoe, ⟨rfl, rfl⟩, rfl, rfl, del_same, rfl, bare2, raises_own T.exC T.tyC, q2⟩
    | next => exact False.elim hq'
    | brk => exact False.elim hq'
    | cont => exact False.elim hq'
/-- what a callee lets out is taken, at the slots as they stand -/
theorem passes_len {W : WX} (tk : L2.Takes X W) : Passes (L2.CX X.prog X.w) X (fun cls d H => ∀ σ, σ.length = X.N.length → W cls d σ H) := fun _ σ _ _ e s' I c => tk e s' (L2.XE.of_call I (fun _ _ _ h => h σ I.len) c)
end
end Hm
namespace Hm
open PySem PySem.Spec PyProof.Rows L2 NdefX
/-! ### further facts of the head: own errors, isinstance -/
/-- the address of a class's own __init__ -/
def iA (K : PySem.W.Frag) (x : Str) : Addr := He.ma K (He.ga K x) "__init__"
/-- an own error's __init__, as data -/
structure CloD where
  x : Str
  qual : Str
  params : Arguments
  body : List Stmt
  scope : Scope
abbrev CloV : Type := Option (Str × Str × Arguments × FuncBody × Scope × Addr × Addr)
def cloW (K : PySem.W.Frag) (x : Str) : CloV := match K.lookup (iA K x) with
  | some ⟨_, _, .func fd, _⟩ => some (fd.name, fd.qualname, fd.params, fd.body, fd.scope, fd.globals, fd.builtins)
  | _ => none
def CloD.val (d : CloD) : CloV := some ("__init__", d.qual, d.params, .stmts d.body, d.scope, mainGlobals, builtinsNs)
def cellB (K : PySem.W.Frag) (x : Str) (cl : List (Str × Addr)) : Bool := match cl with
  | [(nm, cc)] => decide (nm = "__class__") && (match K.lookup cc with
    | some ⟨_, _, .cell (some (.ref c)), _⟩ => decide (c = He.ga K x)
    | _ => false)
  | _ => false
def fileB (K : PySem.W.Frag) (file : Str) (cd : Value) : Bool := match cd with
  | .ref cda => (match K.lookup cda with
    | some ⟨_, _, .fields vs, _⟩ => (match (vs[2]? : Option Value) with
      | some (.str f _) => file == f
      | _ => false)
    | _ => false)
  | _ => false
def noneB (v : Value) : Bool := match v with
  | .none => true
  | _ => false
def supB (file : Str) (K : PySem.W.Frag) (x : Str) : Bool := match K.lookup (iA K x) with
  | some ⟨_, _, .func fd, _⟩ => cellB K x fd.closure && (noneB fd.defaults && (PySem.W.codeIn K fd.code fd.qualname && fileB K file fd.code))
  | _ => false
def oexB (K : PySem.W.Frag) (C : Addr) : Bool := match K.lookup C with
  | some ⟨.type "type", _, .cls cd, sl⟩ => (match cd.mro, sl.toList with
    | .ref C' :: bm, [_, _, _, _, some (.builtin n), _] => C' == C && n == "ValueError.__new__" && !cd.hasDel && cd.hasDict && PySem.HandSPX.refsVE bm
    | _, _ => false)
  | _ => false
inductive Tn where
  | own (x : Str)
  | ty (n : String)
def Tn.v (K : PySem.W.Frag) : Tn → Value
  | .own x => .ref (He.ga K x)
  | .ty n => .type n
inductive Fx where
  | sup (x : Str)
  | exc (x : Str)
  | kit (a b : Tn) (r : Bool)
  | sub (a : Tn) (x : Str) (r : Bool)
  | ins (x : Str)
  | exm (x y : Str) (b : Bool)
  | spc (x m : Str)
  | kits (xs : List Str)
  | kitTo (xs : List Str) (b : Tn)
def objClass : Value := .builtin "object.__class__"
def Fx.ok (file : Str) (K : PySem.W.Frag) : Fx → Bool
  | .sup x => supB file K x && (oexB K (He.ga K x) && (decide (PySem.W.mroIn K (He.ga K x) (.ref (He.ga K x)) = some true) && (He.eqO (PySem.W.nsIn K mainGlobals "super") (some none) && (He.eqO (PySem.W.nsIn K cStatics "thirdparty.any") (some none) &&
      (He.eqO (PySem.W.ks_superIn K (He.ga K x) (He.ga K x) "__init__") (some (some (.builtin VI))) && (decide (PySem.W.subIn K (.ref (He.ga K x)) (.type "ValueError") = some true) && (He.eqO (PySem.W.findIn K (.ref (He.ga K x)) "__setattr__") (some (some (.builtin "object.__setattr__"))) &&
      (decide (PySem.W.subIn K (.ref (He.ga K x)) (.type "BaseException") = some true) && (decide (PySem.W.typeIn K (.ref (He.ga K x)) = some (.type "type")) && (PySem.W.keepIn K (.ref (He.ga K x)) &&
      (He.eqO (PySem.W.findIn K (.ref (He.ga K x)) "__init__") (some (some (.ref (iA K x)))) && decide (PySem.W.typeIn K (.ref (iA K x)) = some (.type "function")))))))))))))
  | .exc x => He.eqO (PySem.W.findIn K (.ref (He.ga K x)) "__getattribute__") (some (some (.builtin "BaseException.__getattribute__"))) && (He.eqO (PySem.W.findIn K (.ref (He.ga K x)) "__getattr__") (some none) &&
      (decide (PySem.W.subIn K (.ref (He.ga K x)) (.type "BaseException") = some true) && (PySem.W.hasDictIn K (He.ga K x) && (He.eqO (PySem.W.findIn K (.ref (He.ga K x)) "__class__") (some (some objClass)) &&
      (He.eqO (PySem.W.specialIn K objClass "__get__") (some (some (.builtin "getset_descriptor.__get__"))) && (decide (PySem.W.takesIn K objClass = some true) && decide (PySem.W.mroIn K (He.ga K x) (.type "object") = some true)))))))
  | .kit a b r => decide (PySem.W.kitOne K (a.v K) (b.v K) = some r)
  | .sub a x r => decide (PySem.W.subIn K (a.v K) (.ref (He.ga K x)) = some r)
  | .ins x => He.eqO (PySem.W.findIn K (.ref (He.ga K x)) "__class__") (some (some objClass)) && (He.eqO (PySem.W.specialIn K objClass "__get__") (some (some (.builtin "getset_descriptor.__get__"))) && (decide (PySem.W.takesIn K objClass = some true) && decide (PySem.W.mroIn K (He.ga K x) (.type "object") = some true)))
  | .exm x y b => decide (PySem.W.exmOne K (.ref (He.ga K x)) (.ref (He.ga K y)) = some b)
  | .kits xs => xs.all fun x => xs.all fun y => decide (PySem.W.kitOne K (.ref (He.ga K x)) (.ref (He.ga K y)) = some (decide (x = y)))
  | .kitTo xs b => xs.all fun x => decide (PySem.W.kitOne K (.ref (He.ga K x)) (b.v K) = some true)
  | .spc x m => He.eqO (PySem.W.findIn K (.ref (He.ga K x)) m) (some (some (.ref (He.ma K (He.ga K x) m)))) && PySem.W.isFn K (.ref (He.ma K (He.ga K x) m))
section
variable {file : Str} {K : PySem.W.Frag} {x : Str}
theorem oexB_ok {C : Addr} (q : oexB K C = true) : ∃ nm q N bs bm sn sub ab col dd k0 k1 k2 k3 k5, K.lookup C = some (excClassObj nm q C N bs bm true sn sub ab col dd k0 k1 k2 k3 k5 "ValueError.__new__") ∧ PySem.HandSPX.refsVE bm = true := by
  unfold oexB at q
  split at q
  · rename_i dd cd sl ho
    split at q
    · rename_i C' bm k0 k1 k2 k3 n k5 hm hs
      simp only [Bool.and_eq_true, beq_iff_eq, Bool.not_eq_true'] at q
      obtain ⟨⟨⟨⟨rfl, rfl⟩, hdel⟩, hdct⟩, ht⟩ := q
      obtain ⟨nm, bs, mro, ns, qn, hd, sn, sub, ab, col, del⟩ := cd
      dsimp only at hm hdel hdct
      subst hm hdel hdct
      have hsl : sl = #[k0, k1, k2, k3, some (.builtin "ValueError.__new__"), k5] := by
        obtain ⟨l⟩ := sl
        simp only at hs
        rw [hs]
      subst hsl
      exact ⟨nm, qn, ns, bs, bm, sn, sub, ab, col, dd, k0, k1, k2, k3, k5, ho, ht⟩
    · cases q
  · cases q
/-- of an own error: its class, its __init__ -/
structure SupX (P : Program) (K : PySem.W.Frag) (d : CloD) (fd : FuncData) : Prop where
  F : SupF P K (He.ga K d.x) (iA K d.x) d.qual d.params d.body d.scope fd
  iC : PySem.W.findIn K (.ref (He.ga K d.x)) "__init__" = some (some (.ref (iA K d.x)))
  tI : PySem.W.typeIn K (.ref (iA K d.x)) = some (.type "function")
  fx : ∃ cl kV doc pm an cdv ct, fd = PySem.W.fnX "__init__" d.qual d.params d.body d.scope cl .none kV doc pm an cdv ct
theorem sup_of {P : Program} {d : CloD} (e : cloW K d.x = d.val) (h : (Fx.sup d.x).ok P.main.file K = true) (top : (P.main.scope.names.lookup ("super" : Str)).isSome = false) : ∃ fd, SupX P K d fd := by
  obtain ⟨h1, h⟩ := He.ba h
  obtain ⟨h2, h⟩ := He.ba h
  obtain ⟨h3, h⟩ := He.ba h
  obtain ⟨h4, h⟩ := He.ba h
  obtain ⟨h5, h⟩ := He.ba h
  obtain ⟨h6, h⟩ := He.ba h
  obtain ⟨h7, h⟩ := He.ba h
  obtain ⟨h8, h⟩ := He.ba h
  obtain ⟨h9, h⟩ := He.ba h
  obtain ⟨h10, h⟩ := He.ba h
  obtain ⟨h11, h⟩ := He.ba h
  obtain ⟨h12, h13⟩ := He.ba h
  unfold cloW at e
  unfold supB at h1
  cases q : K.lookup (iA K d.x) with
  | none =>
    rw [q] at h1
    cases h1
  | some o =>
    obtain ⟨oc, od, dt, osl⟩ := o
    rw [q] at h1 e
    cases dt with
    | func fd =>
      obtain ⟨n1, n2, n3, n4, n5, n6, n7, n8, n9, n10, n11, n12, n13, n14, n15⟩ := fd
      have e2 : (some (n1, n2, n3, n4, n5, n6, n15) : CloV) = some (("__init__" : Str), d.qual, d.params, FuncBody.stmts d.body, d.scope, mainGlobals, builtinsNs) := e
      simp only [Option.some.injEq, Prod.mk.injEq] at e2
      obtain ⟨g1, g2, g3, g4, g5, g6, g7⟩ := e2
      subst g1 g2 g3 g4 g5 g6 g7
      have c1 : (cellB K d.x n7 && (noneB n8 && (PySem.W.codeIn K n13 d.qual && fileB K P.main.file n13))) = true := h1
      obtain ⟨k1, c1⟩ := He.ba c1
      obtain ⟨k2, c1⟩ := He.ba c1
      obtain ⟨k3, k4⟩ := He.ba c1
      have z8 : n8 = .none := by
        unfold noneB at k2
        split at k2
        · rfl
        · cases k2
      subst z8
      unfold cellB at k1
      split at k1
      · rename_i nm cc
        obtain ⟨m1, m2⟩ := He.ba k1
        have m1 := of_decide_eq_true m1
        subst m1
        split at m2
        · rename_i ccl cld c csl hcc
          have m2 := of_decide_eq_true m2
          subst m2
          clear c1
          unfold fileB at k4
          cases n13 with
          | ref cda =>
            dsimp only at k4
            split at k4
            · rename_i xcl xdd vs xsl hcd
              split at k4
              · rename_i f tf hvs
                exact ⟨_, ⟨⟨oc, od, n12, osl, n9, n10, n11, n14, cda, cc, rfl, q, k3, ⟨xcl, xdd, vs, xsl, f, tf, hcd, hvs, k4⟩, ccl, cld, csl, hcc⟩, of_decide_eq_true h3, He.eqO_ok h4, He.eqO_ok h5, He.eqO_ok h6, of_decide_eq_true h7, top,
                  ⟨oexB_ok h2, He.eqO_ok h8, of_decide_eq_true h9, of_decide_eq_true h10, h11⟩⟩, He.eqO_ok h12, of_decide_eq_true h13, _, _, _, _, _, _, _, rfl⟩
              · cases k4
            · cases k4
          | _ => cases k4
        · cases m2
      · cases k1
    | _ => cases h1
theorem exc_of (h : (Fx.exc x).ok file K = true) : ExcC K (He.ga K x) := by
  obtain ⟨h1, h⟩ := He.ba h
  obtain ⟨h2, h⟩ := He.ba h
  obtain ⟨h3, h⟩ := He.ba h
  obtain ⟨h4, h⟩ := He.ba h
  obtain ⟨h5, h⟩ := He.ba h
  obtain ⟨h6, h⟩ := He.ba h
  obtain ⟨h7, h8⟩ := He.ba h
  exact ⟨He.eqO_ok h1, He.eqO_ok h2, of_decide_eq_true h3, h4, He.eqO_ok h5, He.eqO_ok h6, of_decide_eq_true h7, of_decide_eq_true h8⟩
theorem kit_ok {a b : Tn} {r : Bool} (h : (Fx.kit a b r).ok file K = true) : PySem.W.kitOne K (a.v K) (b.v K) = some r := of_decide_eq_true h
theorem sub_ok {a : Tn} {r : Bool} (h : (Fx.sub a x r).ok file K = true) : PySem.W.subIn K (a.v K) (.ref (He.ga K x)) = some r := of_decide_eq_true h
theorem exm_ok {y : Str} {b : Bool} (h : (Fx.exm x y b).ok file K = true) : PySem.W.exmOne K (.ref (He.ga K x)) (.ref (He.ga K y)) = some b := of_decide_eq_true h
/-- instances of the class answer isinstance -/
structure InsF (K : PySem.W.Frag) (C : Addr) : Prop where
  ha : PySem.W.findIn K (.ref C) "__class__" = some (some (.builtin "object.__class__"))
  hn : PySem.W.specialIn K (.builtin "object.__class__") "__get__" = some (some (.builtin "getset_descriptor.__get__"))
  ht : PySem.W.takesIn K (.builtin "object.__class__") = some true
  hm : PySem.W.mroIn K C (.type "object") = some true
theorem ins_of (h : (Fx.ins x).ok file K = true) : InsF K (He.ga K x) := by
  obtain ⟨h1, h⟩ := He.ba h
  obtain ⟨h2, h⟩ := He.ba h
  obtain ⟨h3, h4⟩ := He.ba h
  exact ⟨He.eqO_ok h1, He.eqO_ok h2, of_decide_eq_true h3, of_decide_eq_true h4⟩
theorem kits_of {xs : List Str} (h : (Fx.kits xs).ok file K = true) : ∀ x ∈ xs, ∀ y ∈ xs, PySem.W.kitOne K (.ref (He.ga K x)) (.ref (He.ga K y)) = some (decide (x = y)) := fun x hx y hy =>
  of_decide_eq_true (List.all_eq_true.mp (List.all_eq_true.mp h x hx) y hy)
theorem kitTo_of {xs : List Str} {b : Tn} (h : (Fx.kitTo xs b).ok file K = true) : ∀ x ∈ xs, PySem.W.kitOne K (.ref (He.ga K x)) (b.v K) = some true := fun x hx => of_decide_eq_true (List.all_eq_true.mp h x hx)
theorem spc_of {m : Str} (h : (Fx.spc x m).ok file K = true) : PySem.W.findIn K (.ref (He.ga K x)) m = some (some (.ref (He.ma K (He.ga K x) m))) ∧ PySem.W.isFn K (.ref (He.ma K (He.ga K x) m)) = true := by
  obtain ⟨h1, h2⟩ := He.ba h
  exact ⟨He.eqO_ok h1, h2⟩
end
/-! ### the Hook -/
abbrev AlS : Type := He.AlD × Bool × List CloV
def obsS (fa : List He.Fa) (fn : List He.DefD) (fx : List Fx) (cl : List CloD) (file : Str) (K : PySem.W.Frag) : AlS := (He.obsD fa fn K, fx.all fun f => f.ok file K, cl.map fun d => cloW K d.x)
def valS (fn : List He.DefD) (cl : List CloD) : AlS := (He.valD fn, true, cl.map CloD.val)
def SaysS (fa : List He.Fa) (fn : List He.DefD) (fx : List Fx) (cl : List CloD) (file : Str) (K : PySem.W.Frag) : Prop := obsS fa fn fx cl file K = valS fn cl
def partS (g : Addr → Option Obj) (n : Nat) : PySem.W.Frag := He.frG g (cStatics :: He.asD g n)
def obsSG (n : Nat) (fa : List He.Fa) (fn : List He.DefD) (fx : List Fx) (cl : List CloD) (file : Str) (g : Addr → Option Obj) : AlS := obsS fa fn fx cl file (partS g n)
def hookS (n : Nat) (fa : List He.Fa) (fn : List He.DefD) (fx : List Fx) (cl : List CloD) (file : Str) : PySem.W.Hook where
  α := AlS
  obs := fun s => obsSG n fa fn fx cl file s.heap.get?
  val := fun _ => valS fn cl
  says := fun _ h => ∃ K : PySem.W.Frag, K.In h ∧ SaysS fa fn fx cl file K
  of := fun _ _ e => ⟨_, He.frG_in, e⟩
  keeps := fun _ _ _ ⟨K, hK, c⟩ k => ⟨K, PySem.W.Frag.In.keeps hK k, c⟩
section
variable {fa : List He.Fa} {fn : List He.DefD} {fx : List Fx} {cl : List CloD} {file : Str} {K : PySem.W.Frag} {n : Nat}
theorem obsSG_eq {g : Addr → Option Obj} {s : Shared} (h : ∀ a, g a = s.heap.get? a) : obsSG n fa fn fx cl file g = (hookS n fa fn fx cl file).obs s := by
  have e : g = s.heap.get? := funext h
  rw [e] <;> rfl
theorem SaysS.d (c : SaysS fa fn fx cl file K) : He.SaysD fa fn K := congrArg (fun z : AlS => z.1) c
theorem SaysS.fact (c : SaysS fa fn fx cl file K) (i : Nat) {f : Fx} (h : fx[i]? = some f := by rfl) : f.ok file K = true :=
  List.all_eq_true.mp (congrArg (fun z : AlS => z.2.1) c : (fx.all fun f => f.ok file K) = true) f (List.mem_of_getElem? h)
theorem SaysS.clo (c : SaysS fa fn fx cl file K) (i : Nat) {d : CloD} (h : cl[i]? = some d := by rfl) : cloW K d.x = d.val := by
  have e : cl.map (fun d => cloW K d.x) = cl.map CloD.val := congrArg (fun z : AlS => z.2.2) c
  have e2 : (cl.map fun d => cloW K d.x)[i]? = (cl.map CloD.val)[i]? := by rw [e]
  rw [List.getElem?_map, List.getElem?_map, h] at e2
  exact Option.some.inj e2
end
end Hm
namespace Hm
open PySem PySem.Spec PyProof.Rows L2
/-! ### facts of the head: a property of an own class -/
structure PgD where
  cls : Str
  f : Str
  qual : Str
  params : Arguments
  body : List Stmt
  scope : Scope
/-- the property, its getter -/
def pA (K : PySem.W.Frag) (d : PgD) : Addr := He.ma K (He.ga K d.cls) d.f
def gA (K : PySem.W.Frag) (d : PgD) : Addr := match PySem.W.recIn K (pA K d) "property" with
  | some (.ref g :: _) => g
  | _ => 0
def pgW (K : PySem.W.Frag) (d : PgD) : He.FnW := match K.lookup (gA K d) with
  | some ⟨_, _, .func fd, _⟩ => some (fd.name, fd.qualname, fd.params, fd.body, fd.scope, fd.globals, fd.closure, fd.builtins)
  | _ => none
def PgD.val (d : PgD) : He.FnW := some (d.f, d.qual, d.params, .stmts d.body, d.scope, mainGlobals, [], builtinsNs)
def recB (K : PySem.W.Frag) (d : PgD) : Bool := match PySem.W.recIn K (pA K d) "property" with
  | some (.ref _ :: _) => true
  | _ => false
def getB (K : PySem.W.Frag) (d : PgD) : Bool := match K.lookup (gA K d) with
  | some ⟨_, _, .func fd, _⟩ => PySem.W.codeIn K fd.code d.qual && (He.dflB K fd.defaults [] && He.kwdB K fd.kwdefaults [])
  | _ => false
def pgB (K : PySem.W.Frag) (d : PgD) : Bool := He.eqO (PySem.W.findIn K (.ref (He.ga K d.cls)) d.f) (some (some (.ref (pA K d)))) && (He.eqO (PySem.W.specialIn K (.ref (pA K d)) "__get__") (some (some (.builtin "property.__get__"))) &&
  (decide (PySem.W.takesIn K (.ref (pA K d)) = some true) && (recB K d && (PySem.W.keepIn K (.ref (gA K d)) && getB K d))))
theorem pg_of {K : PySem.W.Frag} {d : PgD} (e : pgW K d = d.val) (h : pgB K d = true) : PropOf K (He.ga K d.cls) d.f (pA K d) (gA K d) ∧ ∃ fd, FunD K d.f d.qual d.params d.body d.scope [] [] (gA K d) fd := by
  obtain ⟨h1, h⟩ := He.ba h
  obtain ⟨h2, h⟩ := He.ba h
  obtain ⟨h3, h⟩ := He.ba h
  obtain ⟨h4, h⟩ := He.ba h
  obtain ⟨h5, h6⟩ := He.ba h
  refine ⟨⟨He.eqO_ok h1, He.eqO_ok h2, of_decide_eq_true h3, ?_⟩, ?_⟩
  · unfold recB at h4
    unfold gA
    split at h4
    · rename_i g rest hr
      rw [hr]
      exact ⟨rest, rfl⟩
    · cases h4
  · unfold pgW at e
    unfold getB at h6
    cases q : K.lookup (gA K d) with
    | none =>
      rw [q] at h6
      cases h6
    | some o =>
      obtain ⟨oc, od, dt, osl⟩ := o
      rw [q] at h6 e
      cases dt with
      | func fd =>
        obtain ⟨n1, n2, n3, n4, n5, n6, n7, n8, n9, n10, n11, n12, n13, n14, n15⟩ := fd
        have e2 : (some (n1, n2, n3, n4, n5, n6, n7, n15) : He.FnW) = some (d.f, d.qual, d.params, FuncBody.stmts d.body, d.scope, mainGlobals, [], builtinsNs) := e
        simp only [Option.some.injEq, Prod.mk.injEq] at e2
        obtain ⟨g1, g2, g3, g4, g5, g6, g7, g8⟩ := e2
        subst g1 g2 g3 g4 g5 g6 g7 g8
        have c3 : (PySem.W.codeIn K n13 d.qual && (He.dflB K n8 [] && He.kwdB K n9 [])) = true := h6
        obtain ⟨k1, k2⟩ := He.ba c3
        obtain ⟨k3, k4⟩ := He.ba k2
        exact ⟨_, ⟨oc, od, n8, n9, n10, n11, n12, n13, n14, osl, rfl, q, k1, He.dflB_ok k3, He.kwdB_ok k4⟩, h5⟩
      | _ => cases h6
abbrev AlP : Type := AlS × Bool × List He.FnW
def obsP (fa : List He.Fa) (fn : List He.DefD) (fx : List Fx) (cl : List CloD) (pg : List PgD) (file : Str) (K : PySem.W.Frag) : AlP := (obsS fa fn fx cl file K, pg.all fun d => pgB K d, pg.map fun d => pgW K d)
def valP (fn : List He.DefD) (cl : List CloD) (pg : List PgD) : AlP := (valS fn cl, true, pg.map PgD.val)
def SaysP (fa : List He.Fa) (fn : List He.DefD) (fx : List Fx) (cl : List CloD) (pg : List PgD) (file : Str) (K : PySem.W.Frag) : Prop := obsP fa fn fx cl pg file K = valP fn cl pg
def obsPG (n : Nat) (fa : List He.Fa) (fn : List He.DefD) (fx : List Fx) (cl : List CloD) (pg : List PgD) (file : Str) (g : Addr → Option Obj) : AlP := obsP fa fn fx cl pg file (partS g n)
def hookP (n : Nat) (fa : List He.Fa) (fn : List He.DefD) (fx : List Fx) (cl : List CloD) (pg : List PgD) (file : Str) : PySem.W.Hook where
  α := AlP
  obs := fun s => obsPG n fa fn fx cl pg file s.heap.get?
  val := fun _ => valP fn cl pg
  says := fun _ h => ∃ K : PySem.W.Frag, K.In h ∧ SaysP fa fn fx cl pg file K
  of := fun _ _ e => ⟨_, He.frG_in, e⟩
  keeps := fun _ _ _ ⟨K, hK, c⟩ k => ⟨K, PySem.W.Frag.In.keeps hK k, c⟩
section
variable {fa : List He.Fa} {fn : List He.DefD} {fx : List Fx} {cl : List CloD} {pg : List PgD} {file : Str} {K : PySem.W.Frag} {n : Nat}
theorem obsPG_eq {g : Addr → Option Obj} {s : Shared} (h : ∀ a, g a = s.heap.get? a) : obsPG n fa fn fx cl pg file g = (hookP n fa fn fx cl pg file).obs s := by
  have e : g = s.heap.get? := funext h
  rw [e] <;> rfl
theorem SaysP.s (c : SaysP fa fn fx cl pg file K) : SaysS fa fn fx cl file K := congrArg (fun z : AlP => z.1) c
theorem SaysP.prop (c : SaysP fa fn fx cl pg file K) (i : Nat) {d : PgD} (h : pg[i]? = some d := by rfl) : pgW K d = d.val ∧ pgB K d = true := by
  have e : pg.map (fun d => pgW K d) = pg.map PgD.val := congrArg (fun z : AlP => z.2.2) c
  have e2 : (pg.map fun d => pgW K d)[i]? = (pg.map PgD.val)[i]? := by rw [e]
  rw [List.getElem?_map, List.getElem?_map, h] at e2
  exact ⟨Option.some.inj e2, List.all_eq_true.mp (congrArg (fun z : AlP => z.2.1) c : (pg.all fun d => pgB K d) = true) d (List.mem_of_getElem? h)⟩
end
end Hm
namespace Hm
open PySem PySem.Spec PyProof.Rows L2 Evl
/-! ### the program: the class Mesh -/
def mfs (l1 l2 l3 : Addr) : List (Str × V) := putF "_turns" (.ref l3) (putF "_prevs" (.ref l2) (putF "_nexts" (.ref l1) []))
theorem s12 : ¬ (("_nexts" : Str) = "_prevs") := by decide +kernel
theorem s13 : ¬ (("_nexts" : Str) = "_turns") := by decide +kernel
theorem s23 : ¬ (("_prevs" : Str) = "_turns") := by decide +kernel
theorem mfs_n (l1 l2 l3 : Addr) : (mfs l1 l2 l3).lookup ("_nexts" : Str) = some (.ref l1) := by
  unfold mfs
  rw [lookup_putF, if_neg s13, lookup_putF, if_neg s12, lookup_putF, if_pos rfl]
theorem mfs_p (l1 l2 l3 : Addr) : (mfs l1 l2 l3).lookup ("_prevs" : Str) = some (.ref l2) := by
  unfold mfs
  rw [lookup_putF, if_neg s23, lookup_putF, if_pos rfl]
theorem mfs_t (l1 l2 l3 : Addr) : (mfs l1 l2 l3).lookup ("_turns" : Str) = some (.ref l3) := by
  unfold mfs
  rw [lookup_putF, if_pos rfl]
theorem mfs_no {m : Str} (l1 l2 l3 : Addr) (h1 : ¬ m = "_nexts") (h2 : ¬ m = "_prevs") (h3 : ¬ m = "_turns") : (mfs l1 l2 l3).lookup m = none := by
  unfold mfs
  rw [lookup_putF, if_neg h3, lookup_putF, if_neg h2, lookup_putF, if_neg h1]
  rfl
theorem putF_len (f : Str) (v : V) : ∀ fs : List (Str × V), (putF f v fs).length ≤ fs.length + 1
  | [] => Nat.le_refl _
  | (g, x) :: r => by
    unfold putF
    split
    · exact Nat.le_succ _
    · have := putF_len f v r
      simp only [List.length_cons]
      omega
def MeshAt (K : PySem.W.Frag) (H : Hp) (x : Addr) (ns : List Nat) : Prop := ∃ dx l1 l2 l3 : Addr, H x = some (.ins (He.ga K "Mesh") dx (mfs l1 l2 l3)) ∧
  H l1 = some (.lst (L ns)) ∧ H l2 = some (.lst (L (prevs ns))) ∧ H l3 = some (.lst (L (turns ns)))
theorem MeshAt.ex {K : PySem.W.Frag} {H H' : Hp} {x : Addr} {ns : List Nat} (h : MeshAt K H x ns) (e : Ex H H') : MeshAt K H' x ns := by
  obtain ⟨dx, l1, l2, l3, a, b, c, d⟩ := h
  exact ⟨dx, l1, l2, l3, e _ _ a, e _ _ b, e _ _ c, e _ _ d⟩
/-- the same, its lists not tracked by H0 -/
def MeshN (K : PySem.W.Frag) (H0 H : Hp) (x : Addr) (ns : List Nat) : Prop := ∃ dx l1 l2 l3 : Addr, H x = some (.ins (He.ga K "Mesh") dx (mfs l1 l2 l3)) ∧
  H l1 = some (.lst (L ns)) ∧ H l2 = some (.lst (L (prevs ns))) ∧ H l3 = some (.lst (L (turns ns))) ∧ H0 l1 = none ∧ H0 l2 = none ∧ H0 l3 = none
theorem MeshN.at {K : PySem.W.Frag} {H0 H : Hp} {x : Addr} {ns : List Nat} (h : MeshN K H0 H x ns) : MeshAt K H x ns := by
  obtain ⟨dx, l1, l2, l3, a, b, c, d, _⟩ := h
  exact ⟨dx, l1, l2, l3, a, b, c, d⟩
theorem MeshN.ex {K : PySem.W.Frag} {H0 H H' : Hp} {x : Addr} {ns : List Nat} (h : MeshN K H0 H x ns) (e : Ex H H') : MeshN K H0 H' x ns := by
  obtain ⟨dx, l1, l2, l3, a, b, c, d, f⟩ := h
  exact ⟨dx, l1, l2, l3, e _ _ a, e _ _ b, e _ _ c, e _ _ d, f⟩
theorem MeshN.back {K : PySem.W.Frag} {H0 H1 H : Hp} {x : Addr} {ns : List Nat} (h : MeshN K H1 H x ns) (e : Ex H0 H1) : MeshN K H0 H x ns := by
  obtain ⟨dx, l1, l2, l3, a, b, c, d, f, g, i⟩ := h
  exact ⟨dx, l1, l2, l3, a, b, c, d, fresh_back e f, fresh_back e g, fresh_back e i⟩
theorem MeshN.upd {K : PySem.W.Frag} {H0 H : Hp} {x p : Addr} {ns : List Nat} {o u : HO} (h : MeshN K H0 H x ns) (hp : H0 p = some u) (hx : H0 x = none) : MeshN K H0 (upd H p o) x ns := by
  obtain ⟨dx, l1, l2, l3, a, b, c, d, f, g, i⟩ := h
  exact ⟨dx, l1, l2, l3, by rw [upd_ne (ne_of_none hp hx).symm]; exact a, by rw [upd_ne (ne_of_none hp f).symm]; exact b, by rw [upd_ne (ne_of_none hp g).symm]; exact c, by rw [upd_ne (ne_of_none hp i).symm]; exact d, f, g, i⟩
/-- a list of next halves of a mesh, of bearable length -/
structure MP (ns : List Nat) : Prop where
  p : IsP ns
  two : ns.length % 2 = 0
  len : ns.length ≤ 1000
theorem nat_xor_1 (n : Nat) : n ^^^ 1 = tw n := by
  have h1 : (n ^^^ 1) / 2 = n / 2 := by rw [Nat.xor_div_two]; simp
  have h2 := Nat.xor_mod_two_eq_one (a := n) (b := 1)
  unfold tw
  by_cases q : (n ^^^ 1) % 2 = 1
  · have := h2.mp q
    split <;> omega
  · have := fun w => q (h2.mpr w)
    split <;> omega
theorem xor_tw (n : Nat) : Builtin.bitXor (n : Int) 1 = ((tw n : Nat) : Int) := by
  rw [Bits.bitXor_pp (by omega) (by decide), ← nat_xor_1]
  rfl
theorem itr_congr {f g : Nat → Nat} {N : Nat} (P : Pf f N) (e : ∀ x, x < N → f x = g x) {x : Nat} (hx : x < N) (k : Nat) : itr f k x = itr g k x := by
  induction k with
  | zero => rfl
  | succ k ih =>
    show f (itr f k x) = g (itr g k x)
    rw [← ih]
    exact e _ (itr_lt P hx k)
theorem per_congr {f g : Nat → Nat} {N : Nat} (P : Pf f N) (e : ∀ x, x < N → f x = g x) {x : Nat} (hx : x < N) : per f N x = per g N x := by
  unfold per
  have : (fun k => itr f (k + 1) x == x) = fun k => itr g (k + 1) x == x := by
    funext k
    rw [itr_congr P e hx]
  rw [this]
theorem rnd_congr {f g : Nat → Nat} {N : Nat} (P : Pf f N) (e : ∀ x, x < N → f x = g x) {x : Nat} (hx : x < N) : rnd f N x = rnd g N x := by
  unfold rnd
  rw [per_congr P e hx]
  exact List.map_congr_left fun k _ => itr_congr P e hx k
theorem cycs_congr {f g : Nat → Nat} {N : Nat} (P : Pf f N) (e : ∀ x, x < N → f x = g x) : cycs f N N = cycs g N N := by
  unfold cycs
  have h1 : (List.range N).filter (isMin f N) = (List.range N).filter (isMin g N) := by
    refine List.filter_congr fun x hx => ?_
    unfold isMin
    rw [rnd_congr P e (List.mem_range.mp hx)]
  rw [h1]
  refine List.map_congr_left fun x hx => ?_
  exact rnd_congr P e (List.mem_range.mp (List.mem_filter.mp hx).1)
/-- the faces, the corners -/
def cyc (ns : List Nat) (b : Bool) : List (List Nat) := cycs (stp ns b) ns.length ns.length
theorem cyc_faces (ns : List Nat) : cycs (fn ns) ns.length ns.length = cyc ns true := rfl
theorem cyc_corners {ns : List Nat} (h : IsP ns) (h2 : ns.length % 2 = 0) : cycs (fn (turns ns)) (turns ns).length (turns ns).length = cyc ns false := by
  have h3 := pf_fn (isP_turns h h2)
  rw [turns_len] at h3 ⊢
  exact cycs_congr h3 fun x hx => fn_turns hx

def tRz (C : Addr) (sp : Sp) (E : XK) : TS := fun _ σ H => tMk0 C sp σ H E
def sp_NotAMeshinit (K : PySem.W.Frag) : Sp := fun vs H Q _ => ∃ x : Addr, vs = [.ref x] ∧ H x = some (exo x (He.ga K "NotAMesh") none) ∧ Q .non H
abbrev nm_NotAMeshinit : List Str := ["self", "__class__"]
abbrev pr_NotAMeshinit : List Str := ["self"]
theorem ln_NotAMeshinit {K : PySem.W.Frag} (vs : List V) (H : Hp) (Q : VK) (E : XK) (h : sp_NotAMeshinit K vs H Q E) : vs.length = pr_NotAMeshinit.length := by
  obtain ⟨_, rfl, _⟩ := h
  rfl
theorem del_upd {H : Hp} {a : Addr} {o : HO} (h : H a = none) : del (L2.upd H a o) a = H := by
  funext b
  by_cases q : b = a
  · rw [q, del_same, h]
  · rw [del_ne q, upd_ne q]
theorem rz_NotAMesh {K : PySem.W.Frag} {E : XK} {D : Ends} {σ : L2.St} {H : Hp} (k : E (.ref (He.ga K "NotAMesh")) none H) : tRz (He.ga K "NotAMesh") (sp_NotAMeshinit K) E D σ H := fun a ha =>
  ⟨a, rfl, upd_same, rfl, upd_same, by rw [del_upd ha]; exact k⟩
def sp_Meshinit (K : PySem.W.Frag) : Sp := fun vs H Q E => ∃ (x dx a : Addr) (xs : List V), vs = [.ref x, .ref a] ∧ H x = some (.ins (He.ga K "Mesh") dx []) ∧ SqL K H a xs ∧ xs.length ≤ 1000 ∧ (∀ v ∈ xs, IB v) ∧
  (∀ ns, xs = L ns → MP ns → ∀ H', MeshN K H H' x ns → ExO x H H' → Q .non H') ∧ (¬ Good xs → ∀ H', Ex H H' → E (.ref (He.ga K "NotAMesh")) none H')
abbrev nm_Meshinit : List Str := ["self", "nexts", "links", "half"]
abbrev pr_Meshinit : List Str := ["self", "nexts"]
def t_Meshinit (K : PySem.W.Frag) (E : XK) : TS :=
  (tSeq (tAsg (tCB (cList K) (tCons (tVar 1) tNil)) (gName 2))
  (tSeq (tIfS (tNot (tB (tCall (sp_areallhalves K) [] E0 (tCons (tVar 2) tNil)))) (tRz (He.ga K "NotAMesh") (sp_NotAMeshinit K) E) tNext)
  (tSeq (sFld K (tVar 0) (tVar 2) "_nexts")
  (tSeq (sFld K (tVar 0) (tCall (sp_inverse K) [] E0 (tCons (tVar 2) tNil)) "_prevs")
  (sFld K (tVar 0) (tLc (iList K (tFld K (tVar 0) "_prevs")) (gName 3) tYes (tOp zXor (tVar 3) (tC (.int 1))) [3]) "_turns")))))
abbrev Wt_Meshinit (K : PySem.W.Frag) (vs : List V) (H : Hp) (Q : VK) (E : XK) : Prop := t_Meshinit K E { nx := fun _ H' => Q .non H', rt := Q } (start nm_Meshinit vs) H
theorem ln_Meshinit {K : PySem.W.Frag} (vs : List V) (H : Hp) (Q : VK) (E : XK) (h : sp_Meshinit K vs H Q E) : vs.length = pr_Meshinit.length := by
  obtain ⟨_, _, _, _, rfl, _⟩ := h
  rfl
theorem good_L {ns : List Nat} (h : MP ns) : Good (L ns) := ⟨ns, rfl, h.p, h.two⟩
theorem ib_L (ns : List Nat) : ∀ x ∈ L ns, IB x := fun x hx => by
  obtain ⟨n, _, rfl⟩ := List.mem_map.mp hx
  exact .inl ⟨_, rfl⟩
theorem spv_ahT {K : PySem.W.Frag} {H : Hp} {a : Addr} {xs : List V} (hS : SqL K H a xs) (hl : xs.length ≤ 1000) (hI : ∀ v ∈ xs, IB v) (h : Good xs) : SpV (sp_areallhalves K) [.ref a] H (.bl true) := fun H1 e Q q E =>
  ⟨a, xs, rfl, ex_l e hS, by omega, hI, fun b H' hb ex => by
    rw [hb.mpr h]
    exact q H' ex⟩
theorem spv_ahF {K : PySem.W.Frag} {H : Hp} {a : Addr} {xs : List V} (hS : SqL K H a xs) (hl : xs.length ≤ 1000) (hI : ∀ v ∈ xs, IB v) (h : ¬ Good xs) : SpV (sp_areallhalves K) [.ref a] H (.bl false) := fun H1 e Q q E =>
  ⟨a, xs, rfl, ex_l e hS, by omega, hI, fun b H' hb ex => by
    have : b = false := by
      cases b with
      | false => rfl
      | true => exact absurd (hb.mp rfl) h
    rw [this]
    exact q H' ex⟩
theorem rd_Meshinit {K : PySem.W.Frag} (F : KF K) (vs : List V) (H : Hp) (Q : VK) (E : XK) (h : sp_Meshinit K vs H Q E) : Wt_Meshinit K vs H Q E := by
  obtain ⟨x, dx, a, xs, rfl, hx, hS, hxl, hI, kg, kb⟩ := h
  show t_Meshinit K E _ [some (.ref x), some (.ref a), none, none] H
  refine q_asgL (el_cb (ea_1 (ev_var rfl)) (rcl_list hS)) (fun l1 H1 hl1 e1 h1 => ?_)
  by_cases hg : Good xs
  case neg =>
    refine q_when (b := !false) (et_not (et_B (ev_call (ea_1 (ev_var rfl)) (spv_ahF (sq_of h1) hxl hI hg)))) (fun _ H2 e2 => rz_NotAMesh (kb hg H2 (e1.trans e2))) (fun hb => nomatch hb)
  obtain ⟨ns, rfl, hP, h2⟩ := id hg
  have hM : MP ns := ⟨hP, h2, by rw [L_len] at hxl; exact hxl⟩
  have k := kg ns rfl hM
  have hxl1 : l1 ≠ x := (ne_of_none hx hl1).symm
  refine q_when (b := !true) (et_not (et_B (ev_call (ea_1 (ev_var rfl)) (spv_ahT (sq_of h1) hxl hI hg)))) (fun hb => nomatch hb) (fun _ H2 e2 => ?_)
  refine q_fld (C := He.ga K "Mesh") (dx := dx) (fs := []) (ev_var rfl) (ev_var rfl) (e2 _ _ (e1 _ _ hx)) F.cl F.n1 (by decide) (fun H3 e3 => ?_)
  have c3 : (upd H3 x (.ins (He.ga K "Mesh") dx (putF "_nexts" (.ref l1) []))) l1 = some (.lst (L ns)) := by
    rw [upd_ne hxl1]
    exact e3 _ _ (e2 _ _ h1)
  refine q_fldL (el_call (ea_1 (ev_var rfl)) (spl_inverse (sq_of c3) hM.p hM.len)) (ev_var rfl) upd_same F.cl F.n2 (by have := putF_len "_nexts" (.ref l1) []; simp only [List.length_nil] at this; omega) (fun l2 H4 hl2 e4 h4 => ?_)
  have hxl2 : l2 ≠ x := (ne_of_none upd_same hl2).symm
  have hl12 : l1 ≠ l2 := ne_of_none c3 hl2
  have d1 : (upd H4 x (.ins (He.ga K "Mesh") dx (putF "_prevs" (.ref l2) (putF "_nexts" (.ref l1) [])))) l1 = some (.lst (L ns)) := by
    rw [upd_ne hxl1]
    exact e4 _ _ c3
  have d2 : (upd H4 x (.ins (He.ga K "Mesh") dx (putF "_prevs" (.ref l2) (putF "_nexts" (.ref l1) [])))) l2 = some (.lst (L (prevs ns))) := by
    rw [upd_ne hxl2]
    exact h4
  have hlk : (putF "_prevs" (V.ref l2) (putF "_nexts" (V.ref l1) [])).lookup ("_prevs" : Str) = some (.ref l2) := by
    rw [lookup_putF, if_pos rfl]
  have hcomp : EvL (tLc (iList K (tFld K (tVar 0) "_prevs")) (gName 3) tYes (tOp zXor (tVar 3) (tC (.int 1))) [3]) [some (.ref x), some (.ref a), some (.ref l1), none] (upd H4 x (.ins (He.ga K "Mesh") dx (putF "_prevs" (.ref l2) (putF "_nexts" (.ref l1) [])))) (L (turns ns)) := by
    have := el_lcL (K := K) (σ := [some (.ref x), some (.ref a), some (.ref l1), none]) (H := upd H4 x (.ins (He.ga K "Mesh") dx (putF "_prevs" (.ref l2) (putF "_nexts" (.ref l1) [])))) (j := 3) (vs := [3]) (tl := tFld K (tVar 0) "_prevs") (t := tYes) (te := tOp zXor (tVar 3) (tC (.int 1))) (fun _ => true) (fun i => vi (fn (turns ns) i))
      (ev_fld (ev_var rfl) upd_same F.cl F.n2 hlk) (sq_of d2) (by rw [L_len, prevs_len]; have := hM.len; omega) (fun _ => rfl) (fun i y H1 _ _ => et_yes) (fun i y H1 _ hy _ => by
        obtain ⟨q1, rfl⟩ := L_item hy
        rw [prevs_len] at q1
        refine ev_is (ev_op (ev_var rfl) ev_c rv_I0) ?_
        show V.int (Builtin.bitXor (fn (prevs ns) i : Int) 1) = _
        rw [xor_tw, fn_prevs q1, fn_turns q1])
    rw [given_all] at this
    have e : (List.range (L (prevs ns)).length).map (fun i => vi (fn (turns ns) i)) = L (turns ns) := by
      refine List.ext_getElem? fun j => ?_
      rw [L_len, prevs_len]
      by_cases hj : j < ns.length
      · rw [List.getElem?_map, List.getElem?_range hj, L_get (by rw [turns_len]; exact hj)]
        rfl
      · rw [List.getElem?_eq_none (by rw [List.length_map, List.length_range]; omega), List.getElem?_eq_none (by rw [L_len, turns_len]; omega)]
    rw [e] at this
    exact this
  refine s_fldL hcomp (ev_var rfl) upd_same F.cl F.n3 (by have := putF_len "_nexts" (.ref l1) []; have := putF_len "_prevs" (.ref l2) (putF "_nexts" (.ref l1) []); simp only [List.length_nil] at *; omega) (fun l3 H5 hl3 e5 h5 => ?_)
  have hxl3 : l3 ≠ x := (ne_of_none upd_same hl3).symm
  have bkx : ∀ {l : Addr} {H' : Hp}, ExO x H H' → l ≠ x → H' l = none → H l = none := fun {l H'} e n q => by
    cases w : H l with
    | none => rfl
    | some o =>
      rw [e l o n w] at q
      cases q
  refine k _ ⟨dx, l1, l2, l3, upd_same, ?_, ?_, ?_, hl1, bkx (ExO.of (e1.trans (e2.trans e3))).upd hxl2 hl2, bkx (((ExO.of (e1.trans (e2.trans e3))).upd).trans (ExO.of e4)).upd hxl3 hl3⟩ ?_
  · rw [upd_ne hxl1]
    exact e5 _ _ d1
  · rw [upd_ne hxl2]
    exact e5 _ _ d2
  · rw [upd_ne hxl3]
    exact h5
  · exact ((((ExO.of (e1.trans (e2.trans e3))).upd).trans (ExO.of e4)).upd.trans (ExO.of e5)).upd
section
variable {K : PySem.W.Frag} {σ : L2.St} {H : Hp} {ta tb te : TE} {D : Ends} {tz : TS}
/-- i = Mesh(l) -/
theorem q_mesh {i : Nat} {a : Addr} {ns : List Nat} {E : XK} (h : Ev te σ H (.ref a)) (hS : SqL K H a (L ns)) (hM : MP ns) (k : ∀ x H1, H x = none → MeshN K H H1 x ns → Ex H H1 → tz D (σ.set i (some (.ref x))) H1) :
    tSeq (tAsg (tMake (He.ga K "Mesh") (sp_Meshinit K) [] E (tCons te tNil)) (gName i)) tz D σ H :=
  h H (Ex.refl H) _ fun H1 e1 => fun x dx hx hdx hne => by
    have hx0 := fresh_back e1 hx
    have ex : Ex H1 (upd (upd H1 dx (.own x)) x (.ins (He.ga K "Mesh") dx [])) := fun b o q => by
      rw [upd_ne (ne_of_none q hx), upd_ne (ne_of_none q hdx)]
      exact q
    refine ⟨x, dx, a, L ns, rfl, upd_same, ex_l (e1.trans ex) hS, by rw [L_len]; exact hM.len, ib_L ns, fun ms hms _ H2 m x2 => ⟨rfl, ?_⟩, fun hn => absurd (good_L hM) hn⟩
    obtain rfl := L_inj hms
    refine k x H2 hx0 (m.back (e1.trans ex)) fun b o q => ?_
    have hb : b ≠ x := ne_of_none q hx0
    exact x2 b o hb (ex b o (e1 b o q))
end
def sp_Meshafter (K : PySem.W.Frag) : Sp := fun vs H Q _ => ∃ (x : Addr) (ns : List Nat) (h : Nat), vs = [.ref x, vi h] ∧ MeshAt K H x ns ∧ h < ns.length ∧ ∀ H', Ex H H' → Q (vi (fn ns h)) H'
abbrev nm_Meshafter : List Str := ["self", "half"]
abbrev pr_Meshafter : List Str := ["self", "half"]
def t_Meshafter (K : PySem.W.Frag) : TS :=
  (tRet (tOp (rIxL K) (tFld K (tVar 0) "_nexts") (tVar 1)))
abbrev Wt_Meshafter (K : PySem.W.Frag) (vs : List V) (H : Hp) (Q : VK) : Prop := t_Meshafter K { nx := fun _ H' => Q .non H', rt := Q } (start nm_Meshafter vs) H
theorem ln_Meshafter {K : PySem.W.Frag} (vs : List V) (H : Hp) (Q : VK) (E : XK) (h : sp_Meshafter K vs H Q E) : vs.length = pr_Meshafter.length := by
  obtain ⟨_, _, _, rfl, _⟩ := h
  rfl
theorem rd_Meshafter {K : PySem.W.Frag} (F : KF K) (vs : List V) (H : Hp) (Q : VK) (E : XK) (h : sp_Meshafter K vs H Q E) : Wt_Meshafter K vs H Q := by
  obtain ⟨x, ns, h, rfl, ⟨dx, l1, l2, l3, a, b, c, d⟩, hh, k⟩ := h
  show t_Meshafter K _ [some (.ref x), some (vi h)] H
  exact s_ret (ev_op (ev_fld (ev_var rfl) a F.cl F.n1 (mfs_n _ _ _)) (ev_var rfl) (rv_ixL (sq_of b) (L_at hh))) (fun H1 e1 => k H1 e1)
def sp_Meshbefore (K : PySem.W.Frag) : Sp := fun vs H Q _ => ∃ (x : Addr) (ns : List Nat) (h : Nat), vs = [.ref x, vi h] ∧ MeshAt K H x ns ∧ h < ns.length ∧ ∀ H', Ex H H' → Q (vi (bk ns h)) H'
abbrev nm_Meshbefore : List Str := ["self", "half"]
abbrev pr_Meshbefore : List Str := ["self", "half"]
def t_Meshbefore (K : PySem.W.Frag) : TS :=
  (tRet (tOp (rIxL K) (tFld K (tVar 0) "_prevs") (tVar 1)))
abbrev Wt_Meshbefore (K : PySem.W.Frag) (vs : List V) (H : Hp) (Q : VK) : Prop := t_Meshbefore K { nx := fun _ H' => Q .non H', rt := Q } (start nm_Meshbefore vs) H
theorem ln_Meshbefore {K : PySem.W.Frag} (vs : List V) (H : Hp) (Q : VK) (E : XK) (h : sp_Meshbefore K vs H Q E) : vs.length = pr_Meshbefore.length := by
  obtain ⟨_, _, _, rfl, _⟩ := h
  rfl
theorem rd_Meshbefore {K : PySem.W.Frag} (F : KF K) (vs : List V) (H : Hp) (Q : VK) (E : XK) (h : sp_Meshbefore K vs H Q E) : Wt_Meshbefore K vs H Q := by
  obtain ⟨x, ns, h, rfl, ⟨dx, l1, l2, l3, a, b, c, d⟩, hh, k⟩ := h
  show t_Meshbefore K _ [some (.ref x), some (vi h)] H
  refine s_ret (ev_op (ev_fld (ev_var rfl) a F.cl F.n2 (mfs_p _ _ _)) (ev_var rfl) (rv_ixL (sq_of c) (L_at (by rw [prevs_len]; exact hh)))) (fun H1 e1 => ?_)
  show Q (vi (fn (prevs ns) h)) H1
  rw [fn_prevs hh]
  exact k H1 e1
def sp_Meshtwin (K : PySem.W.Frag) : Sp := fun vs H Q _ => ∃ (x : V) (h : Nat), vs = [x, vi h] ∧ ∀ H', Ex H H' → Q (vi (tw h)) H'
abbrev nm_Meshtwin : List Str := ["self", "half"]
abbrev pr_Meshtwin : List Str := ["self", "half"]
def t_Meshtwin (K : PySem.W.Frag) : TS :=
  (tRet (tOp zXor (tVar 1) (tC (.int 1))))
abbrev Wt_Meshtwin (K : PySem.W.Frag) (vs : List V) (H : Hp) (Q : VK) : Prop := t_Meshtwin K { nx := fun _ H' => Q .non H', rt := Q } (start nm_Meshtwin vs) H
theorem ln_Meshtwin {K : PySem.W.Frag} (vs : List V) (H : Hp) (Q : VK) (E : XK) (h : sp_Meshtwin K vs H Q E) : vs.length = pr_Meshtwin.length := by
  obtain ⟨_, _, rfl, _⟩ := h
  rfl
theorem rd_Meshtwin {K : PySem.W.Frag} (F : KF K) (vs : List V) (H : Hp) (Q : VK) (E : XK) (h : sp_Meshtwin K vs H Q E) : Wt_Meshtwin K vs H Q := by
  obtain ⟨x, h, rfl, k⟩ := h
  show t_Meshtwin K _ [some x, some (vi h)] H
  exact s_ret (v := vi (tw h)) (ev_is (ev_op (ev_var rfl) ev_c rv_I0) (by show V.int (Builtin.bitXor (h : Int) 1) = _; rw [xor_tw])) (fun H1 e1 => k H1 e1)
def sp_Meshturned (K : PySem.W.Frag) : Sp := fun vs H Q _ => ∃ (x : Addr) (ns : List Nat) (h : Nat), vs = [.ref x, vi h] ∧ MeshAt K H x ns ∧ h < ns.length ∧ ∀ H', Ex H H' → Q (vi (tw (bk ns h))) H'
abbrev nm_Meshturned : List Str := ["self", "half"]
abbrev pr_Meshturned : List Str := ["self", "half"]
def t_Meshturned (K : PySem.W.Frag) : TS :=
  (tRet (tOp (rIxL K) (tFld K (tVar 0) "_turns") (tVar 1)))
abbrev Wt_Meshturned (K : PySem.W.Frag) (vs : List V) (H : Hp) (Q : VK) : Prop := t_Meshturned K { nx := fun _ H' => Q .non H', rt := Q } (start nm_Meshturned vs) H
theorem ln_Meshturned {K : PySem.W.Frag} (vs : List V) (H : Hp) (Q : VK) (E : XK) (h : sp_Meshturned K vs H Q E) : vs.length = pr_Meshturned.length := by
  obtain ⟨_, _, _, rfl, _⟩ := h
  rfl
theorem rd_Meshturned {K : PySem.W.Frag} (F : KF K) (vs : List V) (H : Hp) (Q : VK) (E : XK) (h : sp_Meshturned K vs H Q E) : Wt_Meshturned K vs H Q := by
  obtain ⟨x, ns, h, rfl, ⟨dx, l1, l2, l3, a, b, c, d⟩, hh, k⟩ := h
  show t_Meshturned K _ [some (.ref x), some (vi h)] H
  refine s_ret (ev_op (ev_fld (ev_var rfl) a F.cl F.n3 (mfs_t _ _ _)) (ev_var rfl) (rv_ixL (sq_of d) (L_at (by rw [turns_len]; exact hh)))) (fun H1 e1 => ?_)
  show Q (vi (fn (turns ns) h)) H1
  rw [fn_turns hh]
  exact k H1 e1
def sp_Meshnexts (K : PySem.W.Frag) : Sp := fun vs H Q _ => ∃ (x : Addr) (ns : List Nat), vs = [.ref x] ∧ MeshAt K H x ns ∧ ∀ p H', H p = none → Ex H H' → H' p = some (.lst (L ns)) → Q (.ref p) H'
abbrev nm_Meshnexts : List Str := ["self"]
abbrev pr_Meshnexts : List Str := ["self"]
def t_Meshnexts (K : PySem.W.Frag) : TS :=
  (tRet (tCB (cList K) (tCons (tFld K (tVar 0) "_nexts") tNil)))
abbrev Wt_Meshnexts (K : PySem.W.Frag) (vs : List V) (H : Hp) (Q : VK) : Prop := t_Meshnexts K { nx := fun _ H' => Q .non H', rt := Q } (start nm_Meshnexts vs) H
theorem ln_Meshnexts {K : PySem.W.Frag} (vs : List V) (H : Hp) (Q : VK) (E : XK) (h : sp_Meshnexts K vs H Q E) : vs.length = pr_Meshnexts.length := by
  obtain ⟨_, _, rfl, _⟩ := h
  rfl
theorem rd_Meshnexts {K : PySem.W.Frag} (F : KF K) (vs : List V) (H : Hp) (Q : VK) (E : XK) (h : sp_Meshnexts K vs H Q E) : Wt_Meshnexts K vs H Q := by
  obtain ⟨x, ns, rfl, ⟨dx, l1, l2, l3, a, b, c, d⟩, k⟩ := h
  show t_Meshnexts K _ [some (.ref x)] H
  exact s_retL (el_cb (ea_1 (ev_fld (ev_var rfl) a F.cl F.n1 (mfs_n _ _ _))) (rcl_list (sq_of b))) (fun p H1 hp e1 h1 => k p H1 hp e1 h1)
theorem spl_Meshnexts {K : PySem.W.Frag} {H : Hp} {x : Addr} {ns : List Nat} (h : MeshAt K H x ns) : SpL (sp_Meshnexts K) [.ref x] H (L ns) := fun H1 e Q q E => ⟨x, ns, rfl, h.ex e, fun p H' hp ex hq => q p H' hp ex hq⟩
theorem spv_Meshafter {K : PySem.W.Frag} {H : Hp} {x : Addr} {ns : List Nat} {h : Nat} (m : MeshAt K H x ns) (hh : h < ns.length) : SpV (sp_Meshafter K) [.ref x, vi h] H (vi (fn ns h)) := fun H1 e Q q E => ⟨x, ns, h, rfl, m.ex e, hh, q⟩
theorem spv_Meshbefore {K : PySem.W.Frag} {H : Hp} {x : Addr} {ns : List Nat} {h : Nat} (m : MeshAt K H x ns) (hh : h < ns.length) : SpV (sp_Meshbefore K) [.ref x, vi h] H (vi (bk ns h)) := fun H1 e Q q E => ⟨x, ns, h, rfl, m.ex e, hh, q⟩
theorem spv_Meshtwin {K : PySem.W.Frag} {H : Hp} {x : V} {h : Nat} : SpV (sp_Meshtwin K) [x, vi h] H (vi (tw h)) := fun H1 e Q q E => ⟨x, h, rfl, q⟩
theorem spv_Meshturned {K : PySem.W.Frag} {H : Hp} {x : Addr} {ns : List Nat} {h : Nat} (m : MeshAt K H x ns) (hh : h < ns.length) : SpV (sp_Meshturned K) [.ref x, vi h] H (vi (tw (bk ns h))) := fun H1 e Q q E => ⟨x, ns, h, rfl, m.ex e, hh, q⟩
def sp_Meshfaces (K : PySem.W.Frag) : Sp := fun vs H Q _ => ∃ (x : Addr) (ns : List Nat), vs = [.ref x] ∧ MeshAt K H x ns ∧ MP ns ∧ ∀ p H', H p = none → Ex H H' → LLn H H' p (cyc ns true) → Q (.ref p) H'
abbrev nm_Meshfaces : List Str := ["self"]
abbrev pr_Meshfaces : List Str := ["self"]
def t_Meshfaces (K : PySem.W.Frag) : TS :=
  (tRet (tCall (sp_rounds K) [] E0 (tCons (tFld K (tVar 0) "_nexts") tNil)))
abbrev Wt_Meshfaces (K : PySem.W.Frag) (vs : List V) (H : Hp) (Q : VK) : Prop := t_Meshfaces K { nx := fun _ H' => Q .non H', rt := Q } (start nm_Meshfaces vs) H
theorem ln_Meshfaces {K : PySem.W.Frag} (vs : List V) (H : Hp) (Q : VK) (E : XK) (h : sp_Meshfaces K vs H Q E) : vs.length = pr_Meshfaces.length := by
  obtain ⟨_, _, rfl, _⟩ := h
  rfl
theorem LLn.of {H0 H1 H : Hp} {p : Addr} {xss : List (List Nat)} (h : LLn H1 H p xss) (e : Ex H0 H1) : LLn H0 H p xss := by
  obtain ⟨as, h1, h2, h3⟩ := h
  exact ⟨as, h1, h2, fun a ha => ⟨fresh_back e (h3 a ha).1, (h3 a ha).2⟩⟩
theorem rd_Meshfaces {K : PySem.W.Frag} (F : KF K) (vs : List V) (H : Hp) (Q : VK) (E : XK) (h : sp_Meshfaces K vs H Q E) : Wt_Meshfaces K vs H Q := by
  obtain ⟨x, ns, rfl, ⟨dx, l1, l2, l3, a, b, c, d⟩, hM, k⟩ := h
  show t_Meshfaces K _ [some (.ref x)] H
  refine s_retC (ea_1 (ev_fld (ev_var rfl) a F.cl F.n1 (mfs_n _ _ _))) (fun H1 e1 => ?_)
  exact ⟨l1, ns, rfl, sq_of (e1 _ _ b), hM.p, hM.len, fun p H' hp ex hq => k p H' (fresh_back e1 hp) (e1.trans ex) (hq.of e1)⟩
def sp_Meshcorners (K : PySem.W.Frag) : Sp := fun vs H Q _ => ∃ (x : Addr) (ns : List Nat), vs = [.ref x] ∧ MeshAt K H x ns ∧ MP ns ∧ ∀ p H', H p = none → Ex H H' → LLn H H' p (cyc ns false) → Q (.ref p) H'
abbrev nm_Meshcorners : List Str := ["self"]
abbrev pr_Meshcorners : List Str := ["self"]
def t_Meshcorners (K : PySem.W.Frag) : TS :=
  (tRet (tCall (sp_rounds K) [] E0 (tCons (tFld K (tVar 0) "_turns") tNil)))
abbrev Wt_Meshcorners (K : PySem.W.Frag) (vs : List V) (H : Hp) (Q : VK) : Prop := t_Meshcorners K { nx := fun _ H' => Q .non H', rt := Q } (start nm_Meshcorners vs) H
theorem ln_Meshcorners {K : PySem.W.Frag} (vs : List V) (H : Hp) (Q : VK) (E : XK) (h : sp_Meshcorners K vs H Q E) : vs.length = pr_Meshcorners.length := by
  obtain ⟨_, _, rfl, _⟩ := h
  rfl
theorem rd_Meshcorners {K : PySem.W.Frag} (F : KF K) (vs : List V) (H : Hp) (Q : VK) (E : XK) (h : sp_Meshcorners K vs H Q E) : Wt_Meshcorners K vs H Q := by
  obtain ⟨x, ns, rfl, ⟨dx, l1, l2, l3, a, b, c, d⟩, hM, k⟩ := h
  show t_Meshcorners K _ [some (.ref x)] H
  refine s_retC (ea_1 (ev_fld (ev_var rfl) a F.cl F.n3 (mfs_t _ _ _))) (fun H1 e1 => ?_)
  refine ⟨l3, turns ns, rfl, sq_of (e1 _ _ d), isP_turns hM.p hM.two, by rw [turns_len]; exact hM.len, fun p H' hp ex hq => k p H' (fresh_back e1 hp) (e1.trans ex) ?_⟩
  rw [cyc_corners hM.p hM.two] at hq
  exact hq.of e1
end Hm
namespace Hm
open PySem PySem.Spec PyProof.Rows L2 Evl
/-! ### the program: ==, len, in of a mesh -/
/-- what the written part says of isinstance for meshes, lists and integers -/
structure KQ (K : PySem.W.Frag) : Prop where
  kf : KF K
  ins : InsF K (He.ga K "Mesh")
  kl : PySem.W.kitOne K (.type "list") (.ref (He.ga K "Mesh")) = some false
  ki : PySem.W.kitOne K (.type "int") (.ref (He.ga K "Mesh")) = some false
  sl : PySem.W.subIn K (.type "list") (.ref (He.ga K "Mesh")) = some false
  si : PySem.W.subIn K (.type "int") (.ref (He.ga K "Mesh")) = some false
theorem kit_refl {K : PySem.W.Frag} {v : Value} : PySem.W.kitOne K v v = some true := by
  unfold PySem.W.kitOne
  rw [if_pos (beq_self_eq_true v)]
inductive EqTo (K : PySem.W.Frag) (H : Hp) (ns : List Nat) : V → Bool → Prop where
  | mesh {z : Addr} {ms : List Nat} (m : MeshAt K H z ms) : EqTo K H ns (.ref z) (decide (ns = ms))
  | lst {p : Addr} {xs : List V} (h : H p = some (.lst xs)) : EqTo K H ns (.ref p) false
  | int (i : Int) : EqTo K H ns (.int i) false
theorem EqTo.ex {K : PySem.W.Frag} {H H' : Hp} {ns : List Nat} {y : V} {b : Bool} (h : EqTo K H ns y b) (e : Ex H H') : EqTo K H' ns y b := by
  cases h with
  | mesh m => exact .mesh (m.ex e)
  | lst h => exact .lst (e _ _ h)
  | int i => exact .int i
theorem EqTo.rgt {K : PySem.W.Frag} {H : Hp} {ns : List Nat} {y : V} {b : Bool} (h : EqTo K H ns y b) (F : KQ K) : Rgt K (He.ga K "Mesh") H y := by
  cases h with
  | mesh m =>
    obtain ⟨dx, l1, l2, l3, a, _⟩ := m
    exact .ins a
  | lst h => exact .lst h F.sl
  | int i => exact .int i F.si
def sp_Mesheq (K : PySem.W.Frag) : Sp := fun vs H Q _ => ∃ (x : Addr) (ns : List Nat) (y : V) (b : Bool), vs = [.ref x, y] ∧ MeshAt K H x ns ∧ EqTo K H ns y b ∧ ∀ H', Ex H H' → Q (.bl b) H'
abbrev nm_Mesheq : List Str := ["self", "other"]
abbrev pr_Mesheq : List Str := ["self", "other"]
def t_Mesheq (K : PySem.W.Frag) : TS :=
  (tRet (tAndV (tCB (rIsi K) (tCons (tVar 1) (tCons (tC (.ref (He.ga K "Mesh"))) tNil))) (tOp (rEqD K) (tFld K (tVar 0) "_nexts") (tFld K (tVar 1) "_nexts"))))
abbrev Wt_Mesheq (K : PySem.W.Frag) (vs : List V) (H : Hp) (Q : VK) : Prop := t_Mesheq K { nx := fun _ H' => Q .non H', rt := Q } (start nm_Mesheq vs) H
theorem ln_Mesheq {K : PySem.W.Frag} (vs : List V) (H : Hp) (Q : VK) (E : XK) (h : sp_Mesheq K vs H Q E) : vs.length = pr_Mesheq.length := by
  obtain ⟨_, _, _, _, rfl, _⟩ := h
  rfl
theorem ty_mesh {K : PySem.W.Frag} {H : Hp} {x : Addr} {ns : List Nat} (F : KQ K) (m : MeshAt K H x ns) : TyX K H (.ref x) (.ref (He.ga K "Mesh")) := by
  obtain ⟨dx, l1, l2, l3, a, _⟩ := m
  exact .base (.ins a F.kf.cl F.ins.ha F.ins.hn F.ins.ht F.ins.hm)
theorem rd_Mesheq {K : PySem.W.Frag} (F : KQ K) (vs : List V) (H : Hp) (Q : VK) (E : XK) (h : sp_Mesheq K vs H Q E) : Wt_Mesheq K vs H Q := by
  obtain ⟨x, ns, y, b, rfl, m, he, k⟩ := h
  obtain ⟨dx, l1, l2, l3, a1, b1, c1, d1⟩ := id m
  show t_Mesheq K _ [some (.ref x), some y] H
  cases he with
  | mesh m2 =>
    obtain ⟨dx2, k1, k2, k3, a2, b2, c2, d2⟩ := id m2
    refine s_ret (ev_andV (a := true) (ev_cb (ea_2 (ev_var rfl) ev_c) (rc_isi (.own _) (fun H1 e => ty_mesh F (m2.ex e)) kit_refl)) (fun _ => ev_op (ev_fld (ev_var rfl) a1 F.kf.cl F.kf.n1 (mfs_n _ _ _)) (ev_fld (ev_var rfl) a2 F.kf.cl F.kf.n1 (mfs_n _ _ _)) (rv_eqN (sq_of b1) (sq_of b2)))) (fun H1 e1 => ?_)
    rw [Bool.true_and]
    exact k H1 e1
  | lst h => exact s_ret (ev_andV (a := false) (b := false) (ev_cb (ea_2 (ev_var rfl) ev_c) (rc_isi (.own _) (fun H1 e => .base (.lst (e _ _ h))) F.kl)) (fun hb => nomatch hb)) (fun H1 e1 => k H1 e1)
  | int i => exact s_ret (ev_andV (a := false) (b := false) (ev_cb (ea_2 (ev_var rfl) ev_c) (rc_isi (.own _) (fun H1 e => .base (.int i)) F.ki)) (fun hb => nomatch hb)) (fun H1 e1 => k H1 e1)
def sp_Meshlen (K : PySem.W.Frag) : Sp := fun vs H Q _ => ∃ (x : Addr) (ns : List Nat), vs = [.ref x] ∧ MeshAt K H x ns ∧ ∀ H', Ex H H' → Q (.int (ns.length : Int)) H'
abbrev nm_Meshlen : List Str := ["self"]
abbrev pr_Meshlen : List Str := ["self"]
def t_Meshlen (K : PySem.W.Frag) : TS :=
  (tRet (tCB (cLen K) (tCons (tFld K (tVar 0) "_nexts") tNil)))
abbrev Wt_Meshlen (K : PySem.W.Frag) (vs : List V) (H : Hp) (Q : VK) : Prop := t_Meshlen K { nx := fun _ H' => Q .non H', rt := Q } (start nm_Meshlen vs) H
theorem ln_Meshlen {K : PySem.W.Frag} (vs : List V) (H : Hp) (Q : VK) (E : XK) (h : sp_Meshlen K vs H Q E) : vs.length = pr_Meshlen.length := by
  obtain ⟨_, _, rfl, _⟩ := h
  rfl
theorem rd_Meshlen {K : PySem.W.Frag} (F : KF K) (vs : List V) (H : Hp) (Q : VK) (E : XK) (h : sp_Meshlen K vs H Q E) : Wt_Meshlen K vs H Q := by
  obtain ⟨x, ns, rfl, ⟨dx, l1, l2, l3, a, b, c, d⟩, k⟩ := h
  show t_Meshlen K _ [some (.ref x)] H
  exact s_ret (ev_is (ev_cb (ea_1 (ev_fld (ev_var rfl) a F.cl F.n1 (mfs_n _ _ _))) (rc_len (sq_of b))) (by rw [L_len])) (fun H1 e1 => k H1 e1)
def sp_Meshcontains (K : PySem.W.Frag) : Sp := fun vs H Q _ => ∃ (x : Addr) (ns : List Nat) (i : Int), vs = [.ref x, .int i] ∧ MeshAt K H x ns ∧ ∀ H', Ex H H' → Q (.bl (decide (0 ≤ i) && decide (i < (ns.length : Int)))) H'
abbrev nm_Meshcontains : List Str := ["self", "half"]
abbrev pr_Meshcontains : List Str := ["self", "half"]
def t_Meshcontains (K : PySem.W.Frag) : TS :=
  (tRet (tAndV (tCall (sp_isinteger K) [] E0 (tCons (tVar 1) tNil)) (tChain zLe zLt (tC (.int 0)) (tVar 1) (tCB (cLen K) (tCons (tFld K (tVar 0) "_nexts") tNil)))))
abbrev Wt_Meshcontains (K : PySem.W.Frag) (vs : List V) (H : Hp) (Q : VK) : Prop := t_Meshcontains K { nx := fun _ H' => Q .non H', rt := Q } (start nm_Meshcontains vs) H
theorem ln_Meshcontains {K : PySem.W.Frag} (vs : List V) (H : Hp) (Q : VK) (E : XK) (h : sp_Meshcontains K vs H Q E) : vs.length = pr_Meshcontains.length := by
  obtain ⟨_, _, _, rfl, _⟩ := h
  rfl
theorem rd_Meshcontains {K : PySem.W.Frag} (F : KF K) (vs : List V) (H : Hp) (Q : VK) (E : XK) (h : sp_Meshcontains K vs H Q E) : Wt_Meshcontains K vs H Q := by
  obtain ⟨x, ns, i, rfl, ⟨dx, l1, l2, l3, a, b, c, d⟩, k⟩ := h
  show t_Meshcontains K _ [some (.ref x), some (.int i)] H
  refine s_ret (v := .bl (true && (decide (0 ≤ i) && decide (i < (ns.length : Int))))) (ev_andV (ev_call (ea_1 (ev_var rfl)) (spv_isinteger (.inl ⟨i, rfl⟩))) (fun _ => ev_chain ev_c (ev_var rfl) rv_I0 (fun _ => ev_is (ev_cb (ea_1 (ev_fld (ev_var rfl) a F.cl F.n1 (mfs_n _ _ _))) (rc_len (sq_of b))) (by rw [L_len])) (fun _ => rv_I0))) (fun H1 e1 => k H1 e1)
section
variable {K : PySem.W.Frag} {H : Hp} {x : Addr} {ns : List Nat}
theorem rc_ownLen (m : MeshAt K H x ns) (hl : ns.length ≤ 1000) : RC (rOwnLen (He.ga K "Mesh") (sp_Meshlen K) E0) [.ref x] H (.int (ns.length : Int)) := fun H1 e Q q => by
  obtain ⟨dx, l1, l2, l3, a, _⟩ := m.ex e
  exact ⟨x, dx, _, rfl, a, x, ns, rfl, m.ex e, fun H2 e2 => ⟨ns.length, rfl, by omega, q H2 e2⟩⟩
theorem rv_ownIn {neg : Bool} {i : Int} (m : MeshAt K H x ns) : RV (rOwnIn (He.ga K "Mesh") (sp_Meshcontains K) E0 neg) (.int i) (.ref x) H (.bl (if neg then !(decide (0 ≤ i) && decide (i < (ns.length : Int))) else (decide (0 ≤ i) && decide (i < (ns.length : Int))))) := fun H1 e Q q => by
  obtain ⟨dx, l1, l2, l3, a, _⟩ := m.ex e
  exact ⟨x, dx, _, rfl, a, x, ns, i, rfl, m.ex e, fun H2 e2 => ⟨_, rfl, q H2 e2⟩⟩
theorem rv_ownEq {y : V} {b : Bool} (F : KQ K) (m : MeshAt K H x ns) (h : EqTo K H ns y b) : RV (rOwnEq K (He.ga K "Mesh") (sp_Mesheq K) E0) (.ref x) y H (.bl b) := fun H1 e Q q => by
  obtain ⟨dx, l1, l2, l3, a, _⟩ := m.ex e
  exact ⟨x, dx, _, rfl, a, (h.ex e).rgt F, x, ns, y, b, rfl, m.ex e, h.ex e, fun H2 e2 => ⟨b, rfl, q H2 e2⟩⟩
end
end Hm
namespace Hm
open PySem PySem.Spec PyProof.Rows L2 Evl
/-! ### try .. except .. as -/
abbrev eLen (n : Nat) (W : WX) : XK := fun cls d H => ∀ σ : L2.St, σ.length = n → W cls d σ H
def tPre (p : Prop) (t : TS) : TS := fun D σ H => p ∧ t D σ H
def tTry (K : PySem.W.Frag) (c : Value) (i : Nat) (tb : WX → TS) (ts : Addr → Value → Option Addr → TS) : TS := fun D σ H => tb (wAs K c i ts (fun _ _ _ _ => False) D) D σ H
theorem pss_pre {X : Cx} {b : List Stmt} {p : Prop} {t : TS} (h : p → PSs X b t) : PSs X b (tPre p t) := ⟨fun pins s σ H D I hw => (h hw.1).run pins s σ H D I hw.2⟩
theorem ps_tryT {X : Cx} {x n : Str} {c : Value} {i : Nat} {body suite : List Stmt} {b₀ : Stmt} {np pos pos' : Pos} {tb : WX → TS} {ts : Addr → Value → Option Addr → TS} (hs : X.stack = X.env :: X.outer) (hf : X.env.frame = some X.env.locals) (hN : X.N.Nodup) (hi : X.N[i]? = some n) (hln : X.env.kindOf n = some .local) (hc : Names X x c)
    (hb : ∀ (W : WX) (pn : List (Addr × Obj)) (xe : Value → Shared → Prop), Takes (X.tr pn xe) W → PassesOwn (model X.prog X.w) X.A X.env xe → PSs (X.tr pn xe) body (tb W))
    (hsu : ∀ (a : Addr) (oe : Obj) (cls : Value) (d : Option Addr) (pn : List (Addr × Obj)), Zc cls d oe → (∃ vs, oe.data = .fields vs) → PSs (X.suite a ((a, oe) :: pn)) (b₀ :: suite) (ts a cls d)) :
    PS X (.Try body [.ExceptHandler (some (.Name x np)) (some n) (b₀ :: suite) pos'] [] [] pos) (tTry X.K c i tb ts) := ps_try_as hs hf hN hi hln hc takes0 hb hsu
theorem zc_of {C : Addr} {cls : Value} {d : Option Addr} {oe : Obj} (hz : Zc cls d oe) (hq : cls = .ref C ∧ d = none) : Zc (.ref C) none oe := by
  obtain ⟨rfl, rfl⟩ := hq
  exact hz
theorem rc_isE {K : PySem.W.Frag} {D a : Addr} {H : Hp} {c : V} {cv : Value} {b : Bool} (h1 : ∀ u, RelV c u → u = cv) (h2 : PySem.W.kitOne K (.ref D) cv = some b) : RC (rIsE K D a) [.ref a, c] H (.bl b) := fun H1 e Q q => ⟨c, cv, b, rfl, h1, h2, q H1 (Ex.refl H1)⟩
theorem q_tryMake {K : PySem.W.Frag} {c : Value} {i n : Nat} {C a : Addr} {sp : Sp} {te : TE} {ts : Addr → Value → Option Addr → TS} {tz : TS} {D : Ends} {σ : L2.St} {H : Hp} (h : Ev te σ H (.ref a))
    (k : ∀ H1 x dx, Ex H H1 → H1 x = none → H1 dx = none → dx ≠ x → sp [.ref x, .ref a] (upd (upd H1 dx (.own x)) x (.ins C dx [])) (fun v H2 => v = .non ∧ tz D σ H2) (eLen n (wAs K c i ts (fun _ _ _ _ => False) { D with nx := tz D }))) :
    tSeq (tTry K c i (fun W => tDrop (tMake C sp [] (eLen n W) (tCons te tNil))) ts) tz D σ H := h H (Ex.refl H) _ fun H1 e1 => fun x dx hx hdx hne => k H1 x dx e1 hx hdx hne
/-! ### lists that are no mesh -/
theorem good_mem {xs : List V} (h : Good xs) {v : V} (hv : v ∈ xs) : ∃ n, n < xs.length ∧ v = vi n := by
  obtain ⟨ns, rfl, hP, _⟩ := h
  obtain ⟨n, hn, rfl⟩ := List.mem_map.mp hv
  exact ⟨n, by rw [L_len]; exact hP.mem.mp hn, rfl⟩
theorem good_even {xs : List V} (h : Good xs) : xs.length % 2 = 0 := by
  obtain ⟨ns, rfl, _, h2⟩ := h
  rw [L_len]
  exact h2
theorem good_two {xs : List V} (h : Good xs) {i j : Nat} {v : V} (hi : xs[i]? = some v) (hj : xs[j]? = some v) : i = j := by
  obtain ⟨ns, rfl, hP, _⟩ := h
  obtain ⟨h1, e1⟩ := L_item hi
  obtain ⟨h2, e2⟩ := L_item hj
  have h3 : (fn ns i : Int) = (fn ns j : Int) := V.int.inj (e1.symm.trans e2)
  exact (pf_fn hP).inj i j h1 h2 (Int.ofNat.inj h3)
theorem rep_set {xs : List V} {p : Nat} {v : V} (h : p < xs.length) : (xs.take p ++ [v]) ++ xs.drop (p + 1) = xs.set p v := by
  rw [List.set_eq_take_append_cons_drop, if_pos h, List.append_assoc]
  rfl
theorem ib_set {xs : List V} {p : Nat} {v : V} (h : ∀ x ∈ xs, IB x) (hv : IB v) : ∀ x ∈ xs.set p v, IB x := fun x hx => by
  rcases List.mem_or_eq_of_mem_set hx with h1 | h1
  · exact h x h1
  · rw [h1]
    exact hv
section
variable {K : PySem.W.Frag} {σ : L2.St} {H : Hp} {ta tb te : TE}
/-- xs[:p] + [v] + xs[q:] -/
theorem el_cut {a : Addr} {xs : List V} {v : V} {p q : Nat} {t1 t2 : TE} (ha : Ev ta σ H (.ref a)) (hS : SqL K H a xs) (h1 : Ev t1 σ H (.int (p : Int))) (h2 : Ev t2 σ H (.int (q : Int))) (hv : Ev te σ H v) (hp : p ≤ xs.length) (hq : q ≤ xs.length) (hz : xs.length ≤ 10000) :
    EvL (tOp rCat (tOp rCat (tSl (rSlL K) ta tNoPart (tPart t1)) (tLst (tCons te tNil))) (tSl (rSlL K) ta (tPart t2) tNoPart)) σ H ((xs.take p ++ [v]) ++ xs.drop q) := by
  have el1 := el_sl (K := K) (te := ta) (tl := tNoPart) (th := tPart t1) (σ := σ) ha eo_none (eo_some h1) hS
  have el2 := el_sl (K := K) (te := ta) (tl := tPart t2) (th := tNoPart) (σ := σ) ha (eo_some h2) eo_none hS
  rw [cut_to hp] at el1
  rw [cut_from hq] at el2
  refine el_cat (el_cat el1 (el_lst (ea_1 hv) (by show 1 ≤ 100000; decide)) ?_) el2 ?_
  · rw [List.length_take]
    show _ + 1 ≤ _
    omega
  · rw [List.length_append, List.length_take, List.length_drop]
    show _ + 1 + _ ≤ _
    omega
end
end Hm
namespace Hm
open PySem PySem.Spec PyProof.Rows L2 Evl
section
variable {K : PySem.W.Frag} {σ : L2.St} {H : Hp} {ta tb te : TE} {D : Ends} {tz : TS}
/-- a new list of new lists -/
def EvLL (te : TE) (σ : L2.St) (H : Hp) (xss : List (List Nat)) : Prop := ∀ H1, Ex H H1 → ∀ Q : VK, (∀ p H2, H1 p = none → Ex H1 H2 → LLn H1 H2 p xss → Q (.ref p) H2) → te σ H1 Q
def SpLL (sp : Sp) (vs : List V) (H : Hp) (xss : List (List Nat)) : Prop := ∀ H1, Ex H H1 → ∀ Q : VK, (∀ p H2, H1 p = none → Ex H1 H2 → LLn H1 H2 p xss → Q (.ref p) H2) → ∀ E : XK, sp vs H1 Q E
theorem ell_call {sp : Sp} {vs : List V} {E : XK} {ta : TA} {xss : List (List Nat)} (h : EvA ta σ H vs) (hs : SpLL sp vs H xss) : EvLL (tCall sp [] E ta) σ H xss := fun H1 e Q q =>
  h H1 e _ fun H2 e2 => by
    show sp (vs ++ []) H2 _ E
    rw [List.append_nil]
    exact hs H2 (e.trans e2) Q (fun p H3 hp e3 h3 => q p H3 (fresh_back e2 hp) (e2.trans e3) (h3.of e2)) E
theorem ell_meth {a C dx : Addr} {fs : List (Str × V)} {m : Str} {sp : Sp} {ta : TE} {tb : TA} {vs : List V} {xss : List (List Nat)} {E : XK} (h : Ev ta σ H (.ref a)) (ho : H a = some (.ins C dx fs)) (hl : fs.lookup m = none) (ha : EvA tb σ H vs) (hs : SpLL sp (.ref a :: vs) H xss) : EvLL (tMeth C m sp [] E ta tb) σ H xss := fun H1 e Q q =>
  h H1 e _ fun H2 e2 => ⟨a, dx, fs, rfl, e2 _ _ (e _ _ ho), hl, ha H2 (e.trans e2) _ fun H3 e3 => by
    have e4 := (e.trans e2).trans e3
    have q2 := hs H3 e4 Q (fun p H4 hp e5 h5 => q p H4 (fresh_back (e2.trans e3) hp) ((e2.trans e3).trans e5) (h5.of (e2.trans e3))) E
    simpa using q2⟩
theorem ev_eqLL {a : Addr} {xss yss : List (List Nat)} (ha : Ev ta σ H (.ref a)) (h : LL H a xss) (hb : EvLL tb σ H yss) : Ev (tOp (rEqD K) ta tb) σ H (.bl (decide (xss = yss))) := fun H1 e Q q =>
  ha H1 e _ fun H2 e2 => hb H2 (e.trans e2) _ fun p H3 hp e3 h3 => rv_eqNN (h.ex ((e.trans e2).trans e3)) h3.ll H3 (Ex.refl H3) Q fun H4 e4 => q H4 ((e2.trans e3).trans e4)
theorem ev_neLL {a : Addr} {xss yss : List (List Nat)} (ha : Ev ta σ H (.ref a)) (h : LL H a xss) (hb : EvLL tb σ H yss) : Ev (tOp (rNeD K) ta tb) σ H (.bl (!decide (xss = yss))) := fun H1 e Q q =>
  ha H1 e _ fun H2 e2 => hb H2 (e.trans e2) _ fun p H3 hp e3 h3 => rv_neNN (h.ex ((e.trans e2).trans e3)) h3.ll H3 (Ex.refl H3) Q fun H4 e4 => q H4 ((e2.trans e3).trans e4)
theorem q_asgLL {i : Nat} {xss : List (List Nat)} (h : EvLL te σ H xss) (k : ∀ p H1, H p = none → Ex H H1 → LLn H H1 p xss → tz D (σ.set i (some (.ref p))) H1) : tSeq (tAsg te (gName i)) tz D σ H := h H (Ex.refl H) _ fun p H1 hp e h1 => k p H1 hp e h1
theorem spll_Lrounds {a : Addr} {ns : List Nat} {b : Bool} (hS : SqL K H a (L ns)) (hM : MP ns) : SpLL (sp_Lrounds K) [.ref a, .bl b] H (cyc ns b) := fun H1 e Q q E => ⟨a, ns, b, rfl, ex_l e hS, hM.p, hM.two, hM.len, fun p H' hp ex h => q p H' hp ex h⟩
theorem spll_faces {x : Addr} {ns : List Nat} (m : MeshAt K H x ns) (hM : MP ns) : SpLL (sp_Meshfaces K) [.ref x] H (cyc ns true) := fun H1 e Q q E => ⟨x, ns, rfl, m.ex e, hM, fun p H' hp ex h => q p H' hp ex h⟩
theorem spll_corners {x : Addr} {ns : List Nat} (m : MeshAt K H x ns) (hM : MP ns) : SpLL (sp_Meshcorners K) [.ref x] H (cyc ns false) := fun H1 e Q q E => ⟨x, ns, rfl, m.ex e, hM, fun p H' hp ex h => q p H' hp ex h⟩
theorem noM {m : Str} (l1 l2 l3 : Addr) (h : (decide (m = "_nexts") || decide (m = "_prevs") || decide (m = "_turns")) = false) : (mfs l1 l2 l3).lookup m = none := by
  simp only [Bool.or_eq_false_iff, decide_eq_false_iff_not] at h
  exact mfs_no _ _ _ h.1.1 h.1.2 h.2
/-- a method of a mesh that gives a value, a new list, a new list of lists -/
theorem ev_mm {x : Addr} {ns : List Nat} {m : Str} {sp : Sp} {tb : TA} {vs : List V} {v : V} {E : XK} (mm : MeshAt K H x ns) (h : Ev ta σ H (.ref x)) (hm : (decide (m = "_nexts") || decide (m = "_prevs") || decide (m = "_turns")) = false) (ha : EvA tb σ H vs) (hs : SpV sp (.ref x :: vs) H v) : Ev (tMeth (He.ga K "Mesh") m sp [] E ta tb) σ H v := by
  obtain ⟨dx, l1, l2, l3, a, _⟩ := mm
  exact ev_meth h a (noM _ _ _ hm) ha hs
theorem el_mm {x : Addr} {ns : List Nat} {m : Str} {sp : Sp} {tb : TA} {vs xs : List V} {E : XK} (mm : MeshAt K H x ns) (h : Ev ta σ H (.ref x)) (hm : (decide (m = "_nexts") || decide (m = "_prevs") || decide (m = "_turns")) = false) (ha : EvA tb σ H vs) (hs : SpL sp (.ref x :: vs) H xs) : EvL (tMeth (He.ga K "Mesh") m sp [] E ta tb) σ H xs := by
  obtain ⟨dx, l1, l2, l3, a, _⟩ := mm
  exact el_meth h a (noM _ _ _ hm) ha hs
theorem ell_mm {x : Addr} {ns : List Nat} {m : Str} {sp : Sp} {tb : TA} {vs : List V} {xss : List (List Nat)} {E : XK} (mm : MeshAt K H x ns) (h : Ev ta σ H (.ref x)) (hm : (decide (m = "_nexts") || decide (m = "_prevs") || decide (m = "_turns")) = false) (ha : EvA tb σ H vs) (hs : SpLL sp (.ref x :: vs) H xss) : EvLL (tMeth (He.ga K "Mesh") m sp [] E ta tb) σ H xss := by
  obtain ⟨dx, l1, l2, l3, a, _⟩ := mm
  exact ell_meth h a (noM _ _ _ hm) ha hs
theorem q_call2 {sp1 sp2 : Sp} {E1 E2 : XK} {tc tr : TA} {vs1 : List V} {i : Nat} (h : EvA tc σ H vs1) (k : ∀ H1, Ex H H1 → sp2 vs1 H1 (fun v H2 => tr σ H2 fun ws H3 => sp1 (v :: ws) H3 (fun v' H4 => tz D (σ.set i (some v')) H4) E1) E2) :
    tSeq (tAsg (tCall sp1 [] E1 (tCons (tCall sp2 [] E2 tc) tr)) (gName i)) tz D σ H :=
  h H (Ex.refl H) _ fun H1 e1 => by
    have q := k H1 e1
    rw [← List.append_nil vs1] at q
    have e : (fun v H2 => tr σ H2 fun ws H3 => sp1 (v :: ws) H3 (fun v' H4 => tz D (σ.set i (some v')) H4) E1) = (fun v H2 => tr σ H2 fun ws H3 => sp1 ((v :: ws) ++ []) H3 (fun v' H4 => tz D (σ.set i (some v')) H4) E1) := by
      funext v H2
      congr 1
      funext ws H3
      rw [List.append_nil]
    rw [e] at q
    exact q
/-- i = _law_nexts(_law_tape(script, k), edges) -/
theorem q_nexts {i j : Nat} {a : Addr} {zs : List Int} {k : Int} {e : Nat} {E1 E2 : XK} (hs : σ[0]? = some (some (.ref a))) (hS : SqL K H a (zs.map V.int)) (k0 : 0 ≤ k) (k1 : k ≤ 100) (he : σ[j]? = some (some (.int (e : Int)))) (h60 : e ≤ 60)
    (kk : ∀ p ns H1, H p = none → Ex H H1 → H1 p = some (.lst (L ns)) → IsP ns → ns.length = 2 * e → tz D (σ.set i (some (.ref p))) H1) :
    tSeq (tAsg (tCall (sp_Lnexts K) [] E1 (tCons (tCall (sp_Ltape K) [] E2 (tCons (tVar 0) (tCons (tC (.int k)) tNil))) (tCons (tVar j) tNil))) (gName i)) tz D σ H := by
  refine q_call2 (ea_2 (ev_var hs) ev_c) fun H1 e1 => ?_
  refine ⟨a, zs, k, rfl, ex_l e1 hS, k0, k1, fun t H2 ht tp e2 => ⟨_, he, ?_⟩⟩
  refine ⟨t, e, rfl, tp, h60, fun p H' ns hp h1 h2 h3 _ x2 => ?_⟩
  have ht0 := fresh_back e1 ht
  have ex : Ex H H' := fun b o hb => x2 b o (ne_of_none hb ht0) (e2 b o (e1 b o hb))
  exact kk p ns H' (fresh_back (e1.trans e2) hp) ex h1 h2 h3
/-- [x for x in xs] -/
theorem el_copy {a : Addr} {ns : List Nat} {j : Nat} (h : Ev ta σ H (.ref a)) (hS : SqL K H a (L ns)) (hz : ns.length ≤ 1000) (hw : ∀ x, wipe ((wipe σ [j]).set j (some x)) [j] = wipe σ [j]) (hj : ∀ x, ((wipe σ [j]).set j (some x))[j]? = some (some x)) : EvL (tLc (iList K ta) (gName j) tYes (tVar j) [j]) σ H (L ns) := by
  have := el_lcL (K := K) (σ := σ) (H := H) (j := j) (vs := [j]) (tl := ta) (t := tYes) (te := tVar j) (fun _ => true) (fun i => vi (fn ns i)) h hS (by rw [L_len]; omega) hw (fun i x H1 _ _ => et_yes) (fun i x H1 _ hx _ => by
    obtain ⟨q1, rfl⟩ := L_item hx
    exact ev_var (hj _))
  rw [given_all] at this
  have e : (List.range (L ns).length).map (fun i => vi (fn ns i)) = L ns := by
    refine List.ext_getElem? fun j => ?_
    rw [L_len]
    by_cases hj : j < ns.length
    · rw [List.getElem?_map, List.getElem?_range hj, L_get hj]
      rfl
    · rw [List.getElem?_eq_none (by rw [List.length_map, List.length_range]; omega), List.getElem?_eq_none (by rw [L_len]; omega)]
  rw [e] at this
  exact this
theorem rc_isL {p : Addr} {xs : List V} (h : H p = some (.lst xs)) : RC (rIsi K) [.ref p, .ty "list"] H (.bl true) :=
  rc_isi (.ty "list") (fun H1 e => .base (.lst (e _ _ h))) (kit_ty (by decide +kernel))
end
end Hm
namespace Hm
open PySem PySem.Spec PyProof.Rows L2 Evl
/-- all but the tape is kept -/
theorem MeshN.exo {K : PySem.W.Frag} {H0 H H' : Hp} {x t : Addr} {ns : List Nat} {u : HO} (h : MeshN K H0 H x ns) (e : ExO t H H') (ht : H0 t = some u) (hx : H0 x = none) : MeshN K H0 H' x ns := by
  obtain ⟨dx, l1, l2, l3, a, b, c, d, f, g, i⟩ := h
  exact ⟨dx, l1, l2, l3, e _ _ (ne_of_none ht hx).symm a, e _ _ (ne_of_none ht f).symm b, e _ _ (ne_of_none ht g).symm c, e _ _ (ne_of_none ht i).symm d, f, g, i⟩
section
variable {K : PySem.W.Frag} {σ : L2.St} {H : Hp} {ta tb te : TE} {D : Ends} {tz : TS} {E : XK}
/-- Mesh(l) -/
theorem mk_mesh {a : Addr} {ns : List Nat} {Q : VK} (h : Ev te σ H (.ref a)) (hS : SqL K H a (L ns)) (hM : MP ns) (k : ∀ x H1, H x = none → MeshN K H H1 x ns → Ex H H1 → Q (.ref x) H1) :
    tMake (He.ga K "Mesh") (sp_Meshinit K) [] E (tCons te tNil) σ H Q :=
  h H (Ex.refl H) _ fun H1 e1 => fun x dx hx hdx hne => by
    have hx0 := fresh_back e1 hx
    have ex : Ex H1 (upd (upd H1 dx (.own x)) x (.ins (He.ga K "Mesh") dx [])) := fun b o q => by
      rw [upd_ne (ne_of_none q hx), upd_ne (ne_of_none q hdx)]
      exact q
    refine ⟨x, dx, a, L ns, rfl, upd_same, ex_l (e1.trans ex) hS, by rw [L_len]; exact hM.len, ib_L ns, fun ms hms _ H2 m x2 => ⟨rfl, ?_⟩, fun hn => absurd (good_L hM) hn⟩
    obtain rfl := L_inj hms
    exact k x H2 hx0 (m.back (e1.trans ex)) fun b o q => x2 b o (ne_of_none q hx0) (ex b o (e1 b o q))
/-- Mesh(.. a new list ..) -/
theorem mk_meshN {ns : List Nat} {Q : VK} (h : EvL te σ H (L ns)) (hM : MP ns) (k : ∀ x H1, H x = none → MeshN K H H1 x ns → Ex H H1 → Q (.ref x) H1) :
    tMake (He.ga K "Mesh") (sp_Meshinit K) [] E (tCons te tNil) σ H Q :=
  h H (Ex.refl H) _ fun a H1 ha e1 h1 => fun x dx hx hdx hne => by
    have hx0 := fresh_back e1 hx
    have ex : Ex H1 (upd (upd H1 dx (.own x)) x (.ins (He.ga K "Mesh") dx [])) := fun b o q => by
      rw [upd_ne (ne_of_none q hx), upd_ne (ne_of_none q hdx)]
      exact q
    refine ⟨x, dx, a, L ns, rfl, upd_same, sq_of (ex _ _ h1), by rw [L_len]; exact hM.len, ib_L ns, fun ms hms _ H2 m x2 => ⟨rfl, ?_⟩, fun hn => absurd (good_L hM) hn⟩
    obtain rfl := L_inj hms
    exact k x H2 hx0 (m.back (e1.trans ex)) fun b o q => x2 b o (ne_of_none q hx0) (ex b o (e1 b o q))
theorem q_meshN {i : Nat} {ns : List Nat} (h : EvL te σ H (L ns)) (hM : MP ns) (k : ∀ x H1, H x = none → MeshN K H H1 x ns → Ex H H1 → tz D (σ.set i (some (.ref x))) H1) :
    tSeq (tAsg (tMake (He.ga K "Mesh") (sp_Meshinit K) [] E (tCons te tNil)) (gName i)) tz D σ H := mk_meshN (Q := fun v H1 => tz D (σ.set i (some v)) H1) h hM k
theorem ev_opMesh {r : R2} {x v : V} {a : Addr} {ns : List Nat} (ha : Ev ta σ H x) (h : Ev te σ H (.ref a)) (hS : SqL K H a (L ns)) (hM : MP ns) (hr : ∀ z H1, Ex H H1 → MeshAt K H1 z ns → RV r x (.ref z) H1 v) :
    Ev (tOp r ta (tMake (He.ga K "Mesh") (sp_Meshinit K) [] E (tCons te tNil))) σ H v := fun H1 e1 Q q =>
  ha H1 e1 _ fun H2 e2 => mk_mesh (h.mono (e1.trans e2)) (ex_l (e1.trans e2) hS) hM fun z H3 _ m e3 => hr z H3 ((e1.trans e2).trans e3) m.at H3 (Ex.refl H3) Q fun H4 e4 => q H4 ((e2.trans e3).trans e4)
/-- if f(..) == c: .. -/
theorem s_ifEqC {sp : Sp} {tp : TA} {vs : List V} {c : Int} {tu tw : TS} (h : EvA tp σ H vs) (k : ∀ H1, Ex H H1 → sp vs H1 (fun v H2 => scal v (.int c) = true ∧ (if decide (v = .int c) = true then tu D σ H2 else tw D σ H2)) E) :
    tIfS (tTest (tOp rEq (tCall sp [] E tp) (tC (.int c)))) tu tw D σ H :=
  h H (Ex.refl H) _ fun H1 e => by
    have q := k H1 e
    rw [← List.append_nil vs] at q
    have e2 : (fun v H2 => scal v (.int c) = true ∧ (if decide (v = .int c) = true then tu D σ H2 else tw D σ H2)) = (fun v H2 => rEq v (.int c) H2 (fun z H3 => ∃ b, z = .bl b ∧ (if b = true then tu D σ H3 else tw D σ H3))) := by
      funext v H2
      apply propext
      constructor
      · rintro ⟨h1, h2⟩
        exact ⟨h1, _, rfl, h2⟩
      · rintro ⟨h1, b, hb, h2⟩
        cases hb
        exact ⟨h1, h2⟩
    rw [e2] at q
    exact q
theorem q_modAdd {A B : TE} {tp : TA} {sp : Sp} {a : Int} {i : Nat} {vs : List V} (hA : Ev A σ H (.int a)) (hp : EvA tp σ H vs)
    (k : ∀ H1, Ex H H1 → sp vs H1 (fun v H2 => zAdd (.int a) v H2 (fun z H3 => cInt [z] H3 (fun w H4 => B σ H4 (fun mm H5 => zMod w mm H5 (fun u H6 => tz D (σ.set i (some u)) H6))))) E) :
    tSeq (tAsg (tOp zMod (tCB cInt (tCons (tOp zAdd A (tCall sp [] E tp)) tNil)) B) (gName i)) tz D σ H :=
  hA H (Ex.refl H) _ fun H1 e1 => hp H1 e1 _ fun H2 e2 => by
    have q := k H2 (e1.trans e2)
    rw [← List.append_nil vs] at q
    exact q
end
theorem L_set (ns : List Nat) (i a : Nat) : (L ns).set i (vi a) = L (ns.set i a) := by unfold L; rw [List.map_set]
/-- two entries exchanged -/
theorem isP_swap {ns : List Nat} (h : IsP ns) {i j : Nat} (hi : i < ns.length) (hj : j < ns.length) : IsP ((ns.set i (fn ns j)).set j (fn ns i)) := by
  have e : (ns.set i (fn ns j)).set j (fn ns i) = (List.range ns.length).map (fun x => fn ns (if x = j then i else if x = i then j else x)) := by
    refine List.ext_getElem? fun x => ?_
    by_cases hx : x < ns.length
    · rw [List.getElem?_map, List.getElem?_range hx]
      by_cases h1 : x = j
      · subst h1
        rw [List.getElem?_set_self (by rw [List.length_set]; exact hx)]
        simp
      · rw [List.getElem?_set_ne (Ne.symm h1)]
        by_cases h2 : x = i
        · subst h2
          rw [List.getElem?_set_self hx]
          simp [h1]
        · rw [List.getElem?_set_ne (Ne.symm h2), fn_get hx]
          simp [h1, h2]
    · rw [List.getElem?_eq_none (by rw [List.length_set, List.length_set]; omega), List.getElem?_eq_none (by rw [List.length_map, List.length_range]; omega)]
  rw [e]
  refine isP_of ⟨fun x hx => (pf_fn h).lt _ (by split <;> first | omega | (split <;> omega)), fun x y hx hy q => ?_⟩
  have := (pf_fn h).inj _ _ (by split <;> first | omega | (split <;> omega)) (by split <;> first | omega | (split <;> omega)) q
  split at this <;> split at this <;> (try split at this) <;> (try split at this) <;> omega
theorem isP_two {ns : List Nat} (h : IsP ns) : IsP (ns ++ [ns.length, ns.length + 1]) where
  perm := by
    rw [List.length_append]
    show (ns ++ [ns.length, ns.length + 1]).Perm (List.range (ns.length + 2))
    rw [List.range_succ, List.range_succ, List.append_assoc]
    exact List.Perm.append_right _ h.perm
end Hm
namespace Hm
open PySem PySem.Spec PyProof.Rows L2 Evl
theorem blkOk_n {N : List Str} {own : List (Str × Nat)} {scope1 scope2 sc : Scope} {cl : List (Str × Addr)} {C L f : Addr} {qual : Str} {cdv : Value} (h : blkC N (relabel scope1 (envOfC "" sc 0 0 .none)) scope2 own = true) : BlkOk N (compEnvC scope1 cl C (envOfC qual sc L f cdv)).scope scope2 own := by
  have e : (compEnvC scope1 cl C (envOfC qual sc L f cdv)).scope = relabel scope1 (envOfC "" sc 0 0 .none) := rfl
  rw [e]
  exact blkOk_by h
end Hm
namespace Hm
/-! ### new numbers: the order in which halves are met -/
/-- a half and its twin behind the others, if it is not there -/
def addE (o : List Nat) (h : Nat) : List Nat := if h ∈ o then o else o ++ [h, tw h]
/-- from place k on -/
def goE (f : Nat → Nat) : Nat → Nat → List Nat → List Nat
  | 0, _, o => o
  | n + 1, k, o => if h : k < o.length then goE f n (k + 1) (addE o (f o[k])) else o
/-- an order of halves below N -/
structure Od (N : Nat) (o : List Nat) : Prop where
  nd : o.Nodup
  lt : ∀ h ∈ o, h < N
  tm : ∀ h ∈ o, tw h ∈ o
  ix : ∀ h ∈ o, o.idxOf (Hm.tw h) = Hm.tw (o.idxOf h)
  ev : o.length % 2 = 0
theorem od_nil (N : Nat) : Od N [] := ⟨List.nodup_nil, fun _ h => (nomatch h), fun _ h => (nomatch h), fun _ h => (nomatch h), rfl⟩
theorem tw_ne (x : Nat) : tw x ≠ x := by unfold tw; split <;> omega
theorem Od.le {N : Nat} {o : List Nat} (h : Od N o) : o.length ≤ N := nodup_le N o h.nd h.lt
theorem addE_in {o : List Nat} {h : Nat} (q : h ∈ o) : addE o h = o := if_pos q
theorem addE_out {o : List Nat} {h : Nat} (q : h ∉ o) : addE o h = o ++ [h, tw h] := if_neg q
theorem addE_sub (o : List Nat) (h : Nat) : ∀ x ∈ o, x ∈ addE o h := fun x hx => by
  unfold addE
  split
  · exact hx
  · exact List.mem_append_left _ hx
theorem addE_mem (o : List Nat) (h : Nat) : h ∈ addE o h := by
  unfold addE
  split
  · assumption
  · exact List.mem_append_right _ (List.mem_cons_self ..)
theorem addE_from {o : List Nat} {h x : Nat} (q : x ∈ addE o h) : x ∈ o ∨ x = h ∨ x = tw h := by
  unfold addE at q
  split at q
  · exact .inl q
  · rcases List.mem_append.mp q with q | q
    · exact .inl q
    · rcases List.mem_cons.mp q with q | q
      · exact .inr (.inl q)
      · exact .inr (.inr (List.mem_singleton.mp q))
theorem addE_len (o : List Nat) (h : Nat) : o.length ≤ (addE o h).length := by
  unfold addE
  split
  · exact Nat.le_refl _
  · rw [List.length_append]
    omega
theorem addE_get {o : List Nat} {h k : Nat} (hk : k < o.length) : (addE o h)[k]? = o[k]? := by
  unfold addE
  split
  · rfl
  · rw [List.getElem?_append_left hk]
theorem addE_idx {o : List Nat} {h x : Nat} (hx : x ∈ o) : (addE o h).idxOf x = o.idxOf x := by
  unfold addE
  split
  · rfl
  · rw [List.idxOf_append, if_pos hx]
theorem Od.add {N : Nat} {o : List Nat} (h : Od N o) (hN : N % 2 = 0) {x : Nat} (hx : x < N) : Od N (addE o x) := by
  by_cases q : x ∈ o
  · rw [addE_in q]
    exact h
  have qt : tw x ∉ o := fun z => q (by have := h.tm _ z; rwa [tw_tw] at this)
  have i1 : (o ++ [x, tw x]).idxOf x = o.length := by
    rw [List.idxOf_append, if_neg q]
    simp
  have i2 : (o ++ [x, tw x]).idxOf (tw x) = o.length + 1 := by
    rw [List.idxOf_append, if_neg qt, List.idxOf_cons]
    have : (x == tw x) = false := by rw [beq_eq_false_iff_ne]; exact (tw_ne x).symm
    rw [this]
    simp
    omega
  have te : tw o.length = o.length + 1 := by unfold tw; rw [if_pos h.ev]
  rw [addE_out q]
  refine ⟨?_, fun y hy => ?_, fun y hy => ?_, fun y hy => ?_, ?_⟩
  · rw [List.nodup_append]
    refine ⟨h.nd, ?_, fun a ha b hb e => ?_⟩
    · simp [(tw_ne x).symm]
    · subst e
      rcases List.mem_cons.mp hb with e | hb
      · exact q (e ▸ ha)
      · exact qt (List.mem_singleton.mp hb ▸ ha)
  · rcases List.mem_append.mp hy with hy | hy
    · exact h.lt y hy
    · rcases List.mem_cons.mp hy with e | hy
      · rw [e]
        exact hx
      · rw [List.mem_singleton.mp hy]
        exact tw_lt hN hx
  · rcases List.mem_append.mp hy with hy | hy
    · exact List.mem_append_left _ (h.tm y hy)
    · rcases List.mem_cons.mp hy with e | hy
      · rw [e]
        simp
      · rw [List.mem_singleton.mp hy, tw_tw]
        simp
  · rcases List.mem_append.mp hy with hy | hy
    · rw [List.idxOf_append, if_pos (h.tm y hy), List.idxOf_append, if_pos hy]
      exact h.ix y hy
    · rcases List.mem_cons.mp hy with e | hy
      · rw [e, i1, i2, te]
      · rw [List.mem_singleton.mp hy, tw_tw, i1, i2, ← te, tw_tw]
  · rw [List.length_append]
    show (o.length + 2) % 2 = 0
    have := h.ev
    omega
section
variable {f : Nat → Nat} {N : Nat}
theorem goE_stop {n k : Nat} {o : List Nat} (h : ¬ k < o.length) : goE f n k o = o := by
  cases n with
  | zero => rfl
  | succ n =>
    unfold goE
    rw [dif_neg h]
theorem goE_step {n k : Nat} {o : List Nat} (h : k < o.length) : goE f (n + 1) k o = goE f n (k + 1) (addE o (f o[k])) := by
  rw [goE]
  rw [dif_pos h]
theorem goE_od (P : ∀ x, x < N → f x < N) (hN : N % 2 = 0) : ∀ n k o, Od N o → Od N (goE f n k o)
  | 0, _, _, h => h
  | n + 1, k, o, h => by
    by_cases q : k < o.length
    · rw [goE_step q]
      exact goE_od P hN n (k + 1) _ (h.add hN (P _ (h.lt _ (List.getElem_mem q))))
    · rw [goE_stop q]
      exact h
theorem goE_fuel (P : ∀ x, x < N → f x < N) (hN : N % 2 = 0) : ∀ n k o, Od N o → N ≤ n + k → goE f (n + 1) k o = goE f n k o
  | 0, k, o, h, q => by
    have := h.le
    rw [goE_stop (by omega), goE_stop (by omega)]
  | n + 1, k, o, h, q => by
    by_cases z : k < o.length
    · rw [goE_step z, goE_step z]
      exact goE_fuel P hN n (k + 1) _ (h.add hN (P _ (h.lt _ (List.getElem_mem z)))) (by omega)
    · rw [goE_stop z, goE_stop z]
theorem goE_more (P : ∀ x, x < N → f x < N) (hN : N % 2 = 0) {k : Nat} {o : List Nat} (h : Od N o) {n : Nat} (q : N ≤ n + k) : ∀ m, goE f (n + m) k o = goE f n k o
  | 0 => rfl
  | m + 1 => by
    rw [← Nat.add_assoc, goE_fuel P hN (n + m) k o h (by omega)]
    exact goE_more P hN h q m
theorem goE_skip {n k : Nat} {o : List Nat} (h : k < o.length) (q : f o[k] ∈ o) : goE f (n + 1) k o = goE f n (k + 1) o := by
  rw [goE_step h, addE_in q]
theorem goE_skips {o : List Nat} : ∀ {d : Nat} (n k : Nat), k + d ≤ o.length → (∀ i (h : i < o.length), i < k + d → f o[i] ∈ o) → goE f (n + d) k o = goE f n (k + d) o
  | 0, n, k, _, _ => rfl
  | d + 1, n, k, h, q => by
    rw [← Nat.add_assoc, goE_skip (by omega) (q k (by omega) (by omega)), goE_skips n (k + 1) (by omega) (fun i hi hj => q i hi (by omega))]
    congr 1
    omega
theorem goE_sub : ∀ n k o, ∀ x ∈ o, x ∈ goE f n k o
  | 0, _, _, _, h => h
  | n + 1, k, o, x, h => by
    by_cases q : k < o.length
    · rw [goE_step q]
      exact goE_sub n (k + 1) _ x (addE_sub o _ x h)
    · rw [goE_stop q]
      exact h
theorem goE_get : ∀ n k o, ∀ i, i < o.length → (goE f n k o)[i]? = o[i]?
  | 0, _, _, _, _ => rfl
  | n + 1, k, o, i, h => by
    by_cases q : k < o.length
    · rw [goE_step q, goE_get n (k + 1) _ i (Nat.lt_of_lt_of_le h (addE_len o _))]
      exact addE_get h
    · rw [goE_stop q]
/-- all that is met is closed -/
theorem goE_closed (P : ∀ x, x < N → f x < N) (hN : N % 2 = 0) : ∀ n k o, Od N o → N ≤ n + k → (∀ i (h : i < o.length), i < k → f o[i] ∈ o) → ∀ x ∈ goE f n k o, f x ∈ goE f n k o
  | 0, k, o, h, q, c, x, hx => by
    have := h.le
    obtain ⟨i, hi, e⟩ := List.mem_iff_getElem.mp hx
    rw [← e]
    exact c i hi (by have hi : i < o.length := hi; omega)
  | n + 1, k, o, h, q, c, x, hx => by
    by_cases z : k < o.length
    · rw [goE_step z] at hx ⊢
      refine goE_closed P hN n (k + 1) _ (h.add hN (P _ (h.lt _ (List.getElem_mem z)))) (by omega) (fun i hi hk => ?_) x hx
      have hio : i < o.length := by omega
      have e : (addE o (f o[k]))[i] = o[i] := by
        have := addE_get (h := f o[k]) hio
        rw [List.getElem?_eq_getElem hi, List.getElem?_eq_getElem hio] at this
        exact Option.some.inj this
      rw [e]
      by_cases w : i = k
      · subst w
        exact addE_mem _ _
      · exact addE_sub _ _ _ (c i hio (by omega))
    · rw [goE_stop z] at hx ⊢
      obtain ⟨i, hi, e⟩ := List.mem_iff_getElem.mp hx
      rw [← e]
      exact c i hi (by omega)
/-- the halves of the list, one behind another -/
def ordE (f : Nat → Nat) (N : Nat) (hs : List Nat) : List Nat := hs.foldl (fun o h => goE f N 0 (addE o h)) []
theorem ordE_snoc (hs : List Nat) (h : Nat) : ordE f N (hs ++ [h]) = goE f N 0 (addE (ordE f N hs) h) := by
  unfold ordE
  rw [List.foldl_append]
  rfl
/-- closed orders -/
structure Oc (f : Nat → Nat) (N : Nat) (o : List Nat) : Prop where
  od : Od N o
  cl : ∀ x ∈ o, f x ∈ o
theorem oc_nil : Oc f N [] := ⟨od_nil N, fun _ h => (nomatch h)⟩
theorem oc_next (P : ∀ x, x < N → f x < N) (hN : N % 2 = 0) {o : List Nat} (c : Oc f N o) {h : Nat} (hh : h < N) : Oc f N (goE f N 0 (addE o h)) :=
  ⟨goE_od P hN N 0 _ (c.od.add hN hh), goE_closed P hN N 0 _ (c.od.add hN hh) (Nat.le_refl _) (fun i _ hi => absurd hi (Nat.not_lt_zero i))⟩
theorem ordE_ocF (P : ∀ x, x < N → f x < N) (hN : N % 2 = 0) : ∀ (hs o : List Nat), (∀ h ∈ hs, h < N) → Oc f N o → Oc f N (hs.foldl (fun o h => goE f N 0 (addE o h)) o)
  | [], _, _, c => c
  | h :: hs, o, hl, c => ordE_ocF P hN hs _ (fun x hx => hl x (List.mem_cons_of_mem _ hx)) (oc_next P hN c (hl h (List.mem_cons_self ..)))
theorem ordE_oc (P : ∀ x, x < N → f x < N) (hN : N % 2 = 0) (hs : List Nat) (hl : ∀ h ∈ hs, h < N) : Oc f N (ordE f N hs) := ordE_ocF P hN hs [] hl oc_nil
theorem ordE_subF : ∀ (hs o : List Nat), ∀ x ∈ o, x ∈ hs.foldl (fun o h => goE f N 0 (addE o h)) o
  | [], _, _, h => h
  | a :: hs, o, x, h => ordE_subF hs _ x (goE_sub _ _ _ x (addE_sub o a x h))
theorem ordE_memF : ∀ (hs o : List Nat), ∀ x ∈ hs, x ∈ hs.foldl (fun o h => goE f N 0 (addE o h)) o
  | a :: hs, o, x, h => by
    rcases List.mem_cons.mp h with e | h
    · subst e
      exact ordE_subF hs _ x (goE_sub _ _ _ x (addE_mem o x))
    · exact ordE_memF hs _ x h
theorem ordE_mem (hs : List Nat) {x : Nat} (h : x ∈ hs) : x ∈ ordE f N hs := ordE_memF hs [] x h
/-! ### the new mesh -/
theorem idx_at {o : List Nat} {x : Nat} (h : x ∈ o) : o[o.idxOf x]? = some x := by
  have h2 := List.idxOf_lt_length_iff.mpr h
  rw [List.getElem?_eq_getElem h2, List.getElem_idxOf h2]
theorem idx_inj {o : List Nat} {x y : Nat} (hx : x ∈ o) (hy : y ∈ o) (e : o.idxOf x = o.idxOf y) : x = y := by
  have h1 := idx_at hx
  rw [e, idx_at hy] at h1
  exact (Option.some.inj h1).symm
theorem idx_of {o : List Nat} (nd : o.Nodup) {i x : Nat} (h : o[i]? = some x) : o.idxOf x = i := by
  obtain ⟨hi, e⟩ := List.getElem?_eq_some_iff.mp h
  subst e
  exact nd.idxOf_getElem i hi
/-- the new next links, the new numbers -/
def newN (f : Nat → Nat) (o : List Nat) : List Nat := o.map fun h => o.idxOf (f h)
def newH (o hs : List Nat) : List Nat := hs.map fun h => o.idxOf h
theorem newN_len (f : Nat → Nat) (o : List Nat) : (newN f o).length = o.length := List.length_map ..
theorem newN_eq {o : List Nat} : newN f o = (List.range o.length).map (fun i => o.idxOf (f (fn o i))) := by
  refine List.ext_getElem? fun i => ?_
  unfold newN
  by_cases h : i < o.length
  · rw [List.getElem?_map, List.getElem?_map, List.getElem?_range h, fn_get h]
    rfl
  · rw [List.getElem?_eq_none (by rw [List.length_map]; omega), List.getElem?_eq_none (by rw [List.length_map, List.length_range]; omega)]
theorem isP_newN (P : Pf f N) {o : List Nat} (c : Oc f N o) : IsP (newN f o) := by
  rw [newN_eq]
  refine isP_of ⟨fun i hi => List.idxOf_lt_length_iff.mpr (c.cl _ (fn_mem hi)), fun i j hi hj e => ?_⟩
  have h1 := idx_inj (c.cl _ (fn_mem hi)) (c.cl _ (fn_mem hj)) e
  have h2 := P.inj _ _ (c.od.lt _ (fn_mem hi)) (c.od.lt _ (fn_mem hj)) h1
  have h3 := idx_of c.od.nd (fn_get hi)
  have h4 := idx_of c.od.nd (fn_get hj)
  rw [← h3, ← h4, h2]
theorem fn_newN {o : List Nat} (c : Oc f N o) {x : Nat} (h : x ∈ o) : fn (newN f o) (o.idxOf x) = o.idxOf (f x) := by
  refine fn_at ?_
  unfold newN
  rw [List.getElem?_map, idx_at h]
  rfl
/-! ### the new mesh again -/
theorem addE_map {O o : List Nat} (c : Oc f N O) (ho : ∀ x ∈ o, x ∈ O) {h : Nat} (hh : h ∈ O) : addE (o.map O.idxOf) (O.idxOf h) = (addE o h).map O.idxOf := by
  by_cases q : h ∈ o
  · rw [addE_in q, addE_in (List.mem_map.mpr ⟨h, q, rfl⟩)]
  · rw [addE_out q, addE_out (fun z => by
      obtain ⟨y, hy, e⟩ := List.mem_map.mp z
      rw [← idx_inj (ho y hy) hh e] at q
      exact q hy), List.map_append, ← c.od.ix h hh]
    rfl
theorem addE_in_O {O o : List Nat} (c : Oc f N O) (ho : ∀ x ∈ o, x ∈ O) {h : Nat} (hh : h ∈ O) : ∀ x ∈ addE o h, x ∈ O := fun x hx => by
  rcases addE_from hx with q | q | q
  · exact ho x q
  · rw [q]
    exact hh
  · rw [q]
    exact c.od.tm h hh
theorem goE_map {O : List Nat} (c : Oc f N O) : ∀ n k (o : List Nat), (∀ x ∈ o, x ∈ O) → goE (fn (newN f O)) n k (o.map O.idxOf) = (goE f n k o).map O.idxOf ∧ ∀ x ∈ goE f n k o, x ∈ O
  | 0, _, _, ho => ⟨rfl, ho⟩
  | n + 1, k, o, ho => by
    by_cases q : k < o.length
    · have hk : o[k] ∈ O := ho _ (List.getElem_mem q)
      rw [goE_step q, goE_step (by rw [List.length_map]; exact q), List.getElem_map, fn_newN c hk, addE_map c ho (c.cl _ hk)]
      exact goE_map c n (k + 1) _ (addE_in_O c ho (c.cl _ hk))
    · rw [goE_stop q, goE_stop (by rw [List.length_map]; exact q)]
      exact ⟨rfl, ho⟩
theorem foldE_map {O : List Nat} (c : Oc f N O) (m : Nat) : ∀ (hs o : List Nat), (∀ x ∈ o, x ∈ O) → (∀ x ∈ hs, x ∈ O) → (hs.map O.idxOf).foldl (fun o h => goE (fn (newN f O)) m 0 (addE o h)) (o.map O.idxOf) = (hs.foldl (fun o h => goE f m 0 (addE o h)) o).map O.idxOf
  | [], _, _, _ => rfl
  | h :: hs, o, ho, hh => by
    have h1 := hh h (List.mem_cons_self ..)
    obtain ⟨e1, e2⟩ := goE_map c m 0 (addE o h) (addE_in_O c ho h1)
    show (hs.map O.idxOf).foldl _ (goE _ m 0 (addE (o.map O.idxOf) (O.idxOf h))) = _
    rw [addE_map c ho h1, e1]
    exact foldE_map c m hs _ e2 fun x hx => hh x (List.mem_cons_of_mem _ hx)
theorem map_idx {O : List Nat} (nd : O.Nodup) : O.map O.idxOf = List.range O.length := by
  refine List.ext_getElem? fun i => ?_
  by_cases h : i < O.length
  · rw [List.getElem?_map, fn_get h, List.getElem?_range h]
    show some (O.idxOf (fn O i)) = _
    rw [idx_of nd (fn_get h)]
  · rw [List.getElem?_eq_none (by rw [List.length_map]; omega), List.getElem?_eq_none (by rw [List.length_range]; omega)]
/-- fuel enough is enough -/
theorem foldE_fuel {f : Nat → Nat} {M : Nat} (P : ∀ x, x < M → f x < M) (hM : M % 2 = 0) (m : Nat) : ∀ (hs o : List Nat), (∀ h ∈ hs, h < M) → Oc f M o → hs.foldl (fun o h => goE f (M + m) 0 (addE o h)) o = hs.foldl (fun o h => goE f M 0 (addE o h)) o
  | [], _, _, _ => rfl
  | h :: hs, o, hl, c => by
    show hs.foldl _ (goE f (M + m) 0 (addE o h)) = hs.foldl _ (goE f M 0 (addE o h))
    rw [goE_more P hM (c.od.add hM (hl h (List.mem_cons_self ..))) (by omega) m]
    exact foldE_fuel P hM m hs _ (fun x hx => hl x (List.mem_cons_of_mem _ hx)) (oc_next P hM c (hl h (List.mem_cons_self ..)))
/-- the new mesh and the new numbers give themselves -/
theorem ordE_again (P : Pf f N) (hN : N % 2 = 0) {hs : List Nat} (hl : ∀ h ∈ hs, h < N) :
    ordE (fn (newN f (ordE f N hs))) (newN f (ordE f N hs)).length (newH (ordE f N hs) hs) = List.range (ordE f N hs).length := by
  have c := ordE_oc (fun x hx => P.lt x hx) hN hs hl
  have hO : ∀ x ∈ hs, x ∈ ordE f N hs := fun x hx => ordE_mem hs hx
  have hI := isP_newN P c
  have PI := pf_fn hI
  have le := c.od.le
  have hlen := newN_len f (ordE f N hs)
  have q1 := foldE_map c N hs [] (fun x hx => (nomatch hx)) hO
  have hl2 : ∀ h ∈ newH (ordE f N hs) hs, h < (newN f (ordE f N hs)).length := fun h hh => by
    obtain ⟨x, hx, rfl⟩ := List.mem_map.mp hh
    rw [hlen]
    exact List.idxOf_lt_length_iff.mpr (hO x hx)
  have q2 := foldE_fuel (f := fn (newN f (ordE f N hs))) (M := (newN f (ordE f N hs)).length) (fun x hx => PI.lt x hx) (by rw [hlen]; exact c.od.ev) (N - (newN f (ordE f N hs)).length) (newH (ordE f N hs) hs) [] hl2 oc_nil
  rw [show (newN f (ordE f N hs)).length + (N - (newN f (ordE f N hs)).length) = N by omega] at q2
  unfold ordE at q2 ⊢
  rw [← q2]
  unfold ordE at q1
  have e : newH (hs.foldl (fun o h => goE f N 0 (addE o h)) []) hs = hs.map (hs.foldl (fun o h => goE f N 0 (addE o h)) []).idxOf := rfl
  rw [e]
  refine q1.trans ?_
  exact map_idx c.od.nd
theorem range_idx {n x : Nat} (h : x < n) : (List.range n).idxOf x = x := idx_of List.nodup_range (List.getElem?_range h)
theorem newN_range {ms : List Nat} (h : IsP ms) : newN (fn ms) (List.range ms.length) = ms := by
  unfold newN
  refine List.ext_getElem? fun i => ?_
  by_cases q : i < ms.length
  · rw [List.getElem?_map, List.getElem?_range q, fn_get q]
    show some ((List.range ms.length).idxOf (fn ms i)) = _
    rw [range_idx ((pf_fn h).lt i q)]
  · rw [List.getElem?_eq_none (by rw [List.length_map, List.length_range]; omega), List.getElem?_eq_none (by omega)]
theorem newH_range {hs : List Nat} {n : Nat} (h : ∀ x ∈ hs, x < n) : newH (List.range n) hs = hs := by
  unfold newH
  have : hs.map (fun h => (List.range n).idxOf h) = hs.map id := List.map_congr_left fun x hx => range_idx (h x hx)
  rw [this, List.map_id]
end
end Hm
namespace Hm
open PySem PySem.Spec PyProof.Rows L2 Evl
theorem hu1 {k : Nat} {A : Around} (r : Room k A) : A.units + 1 < cLine := by
  have := r.units
  omega
/-! ### dicts of numbers -/
section
variable {K : PySem.W.Frag} {σ : L2.St} {H : Hp} {ty td tv te ta tb : TE} {D : Ends} {tz tu : TS}
theorem ev_dnin {d : Addr} {kvs : List (Key × V)} {i : Int} (hy : Ev ty σ H (.int i)) (hd : Ev td σ H (.ref d)) (h : H d = some (.dK kvs)) : Ev (tDNotIn ty td) σ H (.bl (!(valV kvs (.inl i)).isSome)) := fun H1 e Q q =>
  hy H1 e _ fun H2 e2 => hd H2 (e.trans e2) _ fun H3 e3 => ⟨d, _, rfl, DGet.k (k := .inl i) (((e.trans e2).trans e3) _ _ h), q H3 (e2.trans e3)⟩
theorem ev_din {d : Addr} {kvs : List (Key × V)} {i : Int} (hy : Ev ty σ H (.int i)) (hd : Ev td σ H (.ref d)) (h : H d = some (.dK kvs)) : Ev (tDIn ty td) σ H (.bl (valV kvs (.inl i)).isSome) := fun H1 e Q q =>
  hy H1 e _ fun H2 e2 => hd H2 (e.trans e2) _ fun H3 e3 => ⟨d, _, rfl, DGet.k (k := .inl i) (((e.trans e2).trans e3) _ _ h), q H3 (e2.trans e3)⟩
theorem ev_dget {d : Addr} {kvs : List (Key × V)} {i : Int} {v : V} (hd : Ev td σ H (.ref d)) (hy : Ev ty σ H (.int i)) (h : H d = some (.dK kvs)) (hv : valV kvs (.inl i) = some v) : Ev (tDGet td ty) σ H v := fun H1 e Q q =>
  hd H1 e _ fun H2 e2 => hy H2 (e.trans e2) _ fun H3 e3 => ⟨d, v, rfl, by
    have g := DGet.k (k := .inl i) (((e.trans e2).trans e3) _ _ h)
    rw [hv] at g
    exact g, q H3 (e2.trans e3)⟩
theorem q_dput {d : Addr} {kvs : List (Key × V)} {i : Int} {v : V} (hv : Ev tv σ H v) (hd : Ev td σ H (.ref d)) (hy : Ev ty σ H (.int i)) (h : H d = some (.dK kvs)) (hl : kvs.length < 100000) (k : ∀ H1, Ex H H1 → tz D σ (upd H1 d (.dK (putK kvs (.inl i) v)))) : tSeq (sDPut td ty tv) tz D σ H :=
  hv H (Ex.refl H) _ fun H1 e1 => hd H1 e1 _ fun H2 e2 => hy H2 (e1.trans e2) _ fun H3 e3 => ⟨d, _, rfl, DPut.k (k := .inl i) (((e1.trans e2).trans e3) _ _ h) (sz_lt hl), k H3 ((e1.trans e2).trans e3)⟩
theorem q_asgD {i : Nat} (k : ∀ p, H p = none → tz D (σ.set i (some (.ref p))) (upd H p (.dK []))) : tSeq (tAsg tDNewK (gName i)) tz D σ H := fun p hp => k p hp
theorem s_forNTn {xs : List V} {tl : TE} {j : Nat} (h : EvU tl σ H xs) (Pv : Addr → Nat → L2.St → Hp → Prop) (h0 : ∀ p H1, H p = none → Ex H H1 → H1 p = some (.tup xs) → Pv p 0 σ H1) (hl : ∀ p i σ' H', i ≤ xs.length → Pv p i σ' H' → SqT K H' p xs)
    (hs : ∀ p i x σ' H', xs[i]? = some x → Pv p i σ' H' → tu { D with nx := Pv p (i + 1), ct := Pv p (i + 1), bk := D.nx } (σ'.set j (some x)) H') (hd : ∀ p σ' H', Pv p xs.length σ' H' → D.nx σ' H') : tFor (iTup K tl) (gName j) tu D σ H :=
  h H (Ex.refl H) _ fun p H1 hp e h1 => ⟨p, rfl, ⟨xs, st_of h1⟩, for_tup (Pv p) (h0 p H1 hp e h1) (hl p) (hs p) (hd p)⟩
theorem s_retTup2 (h : ta σ H fun v H1 => tb σ H1 fun w H2 => 2 ≤ sizeLine ∧ ∀ T, H2 T = none → D.rt (.ref T) (upd H2 T (.tup [v, w]))) : tRet (tTup (tCons ta (tCons tb tNil))) D σ H := h
end
/-- all but two objects is kept -/
def Ex2 (o d : Addr) (H H' : Hp) : Prop := ∀ a u, a ≠ o → a ≠ d → H a = some u → H' a = some u
theorem Ex2.of {o d : Addr} {H H' : Hp} (e : Ex H H') : Ex2 o d H H' := fun a u _ _ h => e a u h
theorem Ex2.trans {o d : Addr} {H H1 H2 : Hp} (a : Ex2 o d H H1) (b : Ex2 o d H1 H2) : Ex2 o d H H2 := fun x u n m h => b x u n m (a x u n m h)
theorem Ex2.upd1 {o d : Addr} {H H' : Hp} {u : HO} (a : Ex2 o d H H') : Ex2 o d H (L2.upd H' o u) := fun x v n m h => by
  rw [upd_ne n]
  exact a x v n m h
theorem Ex2.upd2 {o d : Addr} {H H' : Hp} {u : HO} (a : Ex2 o d H H') : Ex2 o d H (L2.upd H' d u) := fun x v n m h => by
  rw [upd_ne m]
  exact a x v n m h
theorem Ex2.ex {o d : Addr} {H0 H H' : Hp} (a : Ex2 o d H H') (e : Ex H0 H) (h1 : H0 o = none) (h2 : H0 d = none) : Ex H0 H' := fun x u h => a x u (ne_of_none h h1) (ne_of_none h h2) (e x u h)
/-- a dict that numbers the halves of an order -/
def DkE (kvs : List (Key × V)) (o : List Nat) : Prop := kvs.length ≤ o.length ∧ ∀ h : Nat, valV kvs (.inl (h : Int)) = if h ∈ o then some (vi (o.idxOf h)) else none
theorem dkE_nil : DkE [] [] := ⟨Nat.le_refl _, fun h => by rw [if_neg (by simp)]; rfl⟩
theorem dkE_some {kvs : List (Key × V)} {o : List Nat} (D : DkE kvs o) (h : Nat) : (valV kvs (.inl (h : Int))).isSome = decide (h ∈ o) := by
  rw [D.2]
  by_cases q : h ∈ o
  · rw [if_pos q, decide_eq_true q]
    rfl
  · rw [if_neg q, decide_eq_false q]
    rfl
theorem dkE_snoc {kvs : List (Key × V)} {o : List Nat} {h : Nat} (D : DkE kvs o) (q : h ∉ o) : DkE (putK kvs (.inl (h : Int)) (vi o.length)) (o ++ [h]) := by
  refine ⟨Nat.le_trans (length_putK _ _ _) (by rw [List.length_append]; exact Nat.succ_le_succ D.1), fun x => ?_⟩
  rw [valV_put, D.2]
  by_cases e : x = h
  · subst e
    rw [if_pos rfl, if_pos (by simp), List.idxOf_append, if_neg q]
    simp
  · have ne : ¬ ((Sum.inl (x : Int) : Key) = Sum.inl (h : Int)) := fun z => e (by have := Sum.inl.inj z; omega)
    rw [if_neg ne]
    by_cases m : x ∈ o
    · rw [if_pos m, if_pos (List.mem_append_left _ m), List.idxOf_append, if_pos m]
    · rw [if_neg m, if_neg (by simp [m, e])]
def sp_addedge (K : PySem.W.Frag) : Sp := fun vs H Q _ => ∃ (x o d : Addr) (h : Nat) (ns ord : List Nat) (kvs : List (Key × V)), vs = [.ref x, vi h, .ref o, .ref d] ∧ MeshAt K H x ns ∧ H o = some (.lst (L ord)) ∧ H d = some (.dK kvs) ∧ DkE kvs ord ∧ (h ∉ ord → tw h ∉ ord) ∧ ord.length ≤ 1000 ∧
  ∀ H' kvs', H' o = some (.lst (L (addE ord h))) → H' d = some (.dK kvs') → DkE kvs' (addE ord h) → Ex2 o d H H' → Q .non H'
abbrev nm_addedge : List Str := ["mesh", "half", "order", "numbers", "member"]
abbrev pr_addedge : List Str := ["mesh", "half", "order", "numbers"]
def t_addedge (K : PySem.W.Frag) : TS :=
  (tIfS (tB (tDNotIn (tVar 1) (tVar 3))) (tFor (iTup K (tTup (tCons (tVar 1) (tCons (tMeth (He.ga K "Mesh") "twin" (sp_Meshtwin K) [] E0 (tVar 0) (tCons (tVar 1) tNil)) tNil)))) (gName 4) (tSeq (sDPut (tVar 3) (tVar 4) (tCB (cLen K) (tCons (tVar 2) tNil)))
      (tDrop (tBM K "list" rAppend (tVar 2) (tCons (tVar 4) tNil))))) tNext)
abbrev Wt_addedge (K : PySem.W.Frag) (vs : List V) (H : Hp) (Q : VK) : Prop := t_addedge K { nx := fun _ H' => Q .non H', rt := Q } (start nm_addedge vs) H
theorem ln_addedge {K : PySem.W.Frag} (vs : List V) (H : Hp) (Q : VK) (E : XK) (h : sp_addedge K vs H Q E) : vs.length = pr_addedge.length := by
  obtain ⟨_, _, _, _, _, _, _, rfl, _⟩ := h
  rfl
theorem rd_addedge {K : PySem.W.Frag} (F : KF K) (vs : List V) (H : Hp) (Q : VK) (E : XK) (h : sp_addedge K vs H Q E) : Wt_addedge K vs H Q := by
  obtain ⟨x, o, d, h, ns, ord, kvs, rfl, hm, ho, hd, hD, ht, hz, k⟩ := h
  show t_addedge K _ [some (.ref x), some (vi h), some (.ref o), some (.ref d), none] H
  have hod : o ≠ d := fun q => by
    rw [q, hd] at ho
    cases ho
  refine s_when (et_B (ev_dnin (ev_var rfl) (ev_var rfl) hd)) (fun hb H1 e1 => ?_) (fun hb H1 e1 => ?_)
  · have q : h ∉ ord := fun z => by
      rw [dkE_some hD, decide_eq_true z] at hb
      cases hb
    have qt := ht q
    have q2 : tw h ∉ ord ++ [h] := fun z => by
      rcases List.mem_append.mp z with z | z
      · exact qt z
      · exact tw_ne h (List.mem_singleton.mp z)
    have turn : ∀ (p : Addr) (y : Nat) (cur : List Nat) (σ4 : Option V) (H' : Hp) (kvs' : List (Key × V)) (N : L2.St → Hp → Prop) (B C : L2.St → Hp → Prop) (R : VK), H' o = some (.lst (L cur)) → H' d = some (.dK kvs') → DkE kvs' cur → y ∉ cur → cur.length ≤ 1001 → p ≠ o → p ≠ d →
        (∀ H2 kvs2, H2 o = some (.lst (L (cur ++ [y]))) → H2 d = some (.dK kvs2) → DkE kvs2 (cur ++ [y]) → Ex2 o d H' H2 → N [some (.ref x), some (vi h), some (.ref o), some (.ref d), some (vi y)] H2) →
        (tSeq (sDPut (tVar 3) (tVar 4) (tCB (cLen K) (tCons (tVar 2) tNil))) (tDrop (tBM K "list" rAppend (tVar 2) (tCons (tVar 4) tNil)))) { nx := N, rt := R, bk := B, ct := C } [some (.ref x), some (vi h), some (.ref o), some (.ref d), some (vi y)] H' := by
      intro p y cur σ4 H' kvs' N B C R g1 g2 g3 g4 g5 _ _ kk
      refine q_dput (v := vi cur.length) (ev_is (ev_cb (ea_1 (ev_var rfl)) (rc_len (sq_of g1))) (by rw [L_len])) (ev_var rfl) (ev_var rfl) g2 (by have := g3.1; omega) (fun H2 e2 => ?_)
      have g1' : (upd H2 d (.dK (putK kvs' (.inl (y : Int)) (vi cur.length)))) o = some (.lst (L cur)) := by
        rw [upd_ne hod]
        exact e2 _ _ g1
      refine s_app g1' (ev_var rfl) (ev_var rfl) (by rw [L_len]; omega) (fun H3 e3 => ?_)
      refine kk _ (putK kvs' (.inl (y : Int)) (vi cur.length)) (by rw [upd_same, L_app]; rfl) (by rw [upd_ne hod.symm]; exact e3 _ _ upd_same) (dkE_snoc g3 g4) ((((Ex2.of e2).upd2).trans (Ex2.of e3)).upd1)
    refine s_forNTn (xs := [vi h, vi (tw h)]) (eu_tup (ea_2 (ev_var rfl) (ev_mm (hm.ex e1) (ev_var rfl) (by decide +kernel) (ea_1 (ev_var rfl)) spv_Meshtwin)) (by show 2 ≤ 100000; decide))
      (fun p i σ' H' => ∃ (v4 : Option V) (cur : List Nat) (kvs' : List (Key × V)), σ' = [some (.ref x), some (vi h), some (.ref o), some (.ref d), v4] ∧ H' p = some (.tup [vi h, vi (tw h)]) ∧ p ≠ o ∧ p ≠ d ∧ cur = ord ++ [h, tw h].take i ∧ H' o = some (.lst (L cur)) ∧ H' d = some (.dK kvs') ∧ DkE kvs' cur ∧ Ex2 o d H H') ?_ ?_ ?_ ?_
    · intro p H2 hp e2 h2
      have o2 := e2 _ _ (e1 _ _ ho)
      have d2 := e2 _ _ (e1 _ _ hd)
      exact ⟨_, ord, kvs, rfl, h2, (ne_of_none (e1 _ _ ho) hp).symm, (ne_of_none (e1 _ _ hd) hp).symm, by simp, o2, d2, hD, Ex2.of (e1.trans e2)⟩
    · rintro p i σ' H' _ ⟨_, _, _, _, h2, _⟩
      exact st_of h2
    · rintro p i y σ' H' hy ⟨v4, cur, kvs', rfl, h2, n1, n2, rfl, a1, a2, a3, a4⟩
      match i, hy with
      | 0, hy =>
        obtain rfl : vi h = y := Option.some.inj hy
        have e0 : ord ++ [h, tw h].take 0 = ord := by simp
        rw [e0] at a1 a3
        refine turn p h ord v4 H' kvs' _ _ _ _ a1 a2 a3 q (by omega) n1 n2 (fun H3 kvs3 b1 b2 b3 b4 => ?_)
        exact ⟨_, _, kvs3, rfl, b4 _ _ n1 n2 h2, n1, n2, rfl, b1, b2, b3, a4.trans b4⟩
      | 1, hy =>
        obtain rfl : vi (tw h) = y := Option.some.inj hy
        have e1 : ord ++ [h, tw h].take 1 = ord ++ [h] := by simp
        have e2 : ord ++ [h, tw h].take (1 + 1) = (ord ++ [h]) ++ [tw h] := by simp
        rw [e1] at a1 a3
        refine turn p (tw h) (ord ++ [h]) v4 H' kvs' _ _ _ _ a1 a2 a3 q2 (by rw [List.length_append]; show ord.length + 1 ≤ 1001; omega) n1 n2 (fun H3 kvs3 b1 b2 b3 b4 => ?_)
        exact ⟨_, _, kvs3, rfl, b4 _ _ n1 n2 h2, n1, n2, rfl, by rw [e2]; exact b1, b2, by rw [e2]; exact b3, a4.trans b4⟩
      | n + 2, hy => cases hy
    · rintro p σ' H' ⟨v4, cur, kvs', rfl, h2, n1, n2, rfl, a1, a2, a3, a4⟩
      have e : ord ++ [h, tw h].take [vi h, vi (tw h)].length = addE ord h := by
        rw [addE_out q]
        rfl
      rw [e] at a1 a3
      exact k H' kvs' a1 a2 a3 a4
  · have q : h ∈ ord := Classical.byContradiction fun z => by
      rw [dkE_some hD, decide_eq_false z] at hb
      cases hb
    have := k H1 kvs
    rw [addE_in q] at this
    exact this (e1 _ _ ho) (e1 _ _ hd) hD (Ex2.of e1)
end Hm
namespace Hm
open PySem PySem.Spec PyProof.Rows L2 Evl
section
variable {K : PySem.W.Frag} {σ : L2.St} {H : Hp} {ta tb te : TE} {D : Ends} {tz : TS} {v : V}
/-- f(..).append(e), on a new list -/
theorem s_appN {xs : List V} (ha : EvL ta σ H xs) (h : ∀ H1, Ex H H1 → Ev te σ H1 v) (hz : xs.length < 100000) (k : ∀ p H1, H p = none → Ex H H1 → D.nx σ (upd H1 p (.lst (xs ++ [v])))) :
    tDrop (tBM K "list" rAppend ta (tCons te tNil)) D σ H := ha H (Ex.refl H) _ fun p H1 hp e1 h1 =>
  ⟨Or.inl ⟨rfl, xs, sq_of h1⟩, h H1 e1 H1 (Ex.refl H1) _ fun H2 e2 => ⟨p, xs, v, rfl, rfl, e2 _ _ h1, sz_lt hz, k p H2 hp (e1.trans e2)⟩⟩
/-- f(..) as a statement -/
theorem q_dropC {sp : Sp} {E : XK} {ta : TA} {vs : List V} (h : EvA ta σ H vs) (k : ∀ H1, Ex H H1 → sp vs H1 (fun _ H2 => tz D σ H2) E) : tSeq (tDrop (tCall sp [] E ta)) tz D σ H :=
  h H (Ex.refl H) _ fun H1 e => by
    show sp (vs ++ []) H1 _ E
    rw [List.append_nil]
    exact k H1 e
end
theorem LA.items {H : Hp} {as : List Addr} {xss : List (List Nat)} (h : LA H as xss) : ∀ a ∈ as, ∃ xs ∈ xss, H a = some (.lst (L xs)) := by
  induction h with
  | nil => intro a ha; cases ha
  | cons r t ih =>
    intro a ha
    rcases List.mem_cons.mp ha with rfl | ha
    · exact ⟨_, List.mem_cons_self .., r⟩
    · obtain ⟨xs, m, q⟩ := ih a ha
      exact ⟨xs, List.mem_cons_of_mem _ m, q⟩
theorem cyc_item {ns : List Nat} (hM : MP ns) {b : Bool} {xs : List Nat} (h : xs ∈ cyc ns b) : xs.length ≤ 1000 := by
  obtain ⟨x, hx, rfl⟩ := List.mem_map.mp h
  have hx := List.mem_range.mp (List.mem_filter.mp hx).1
  rw [rnd_length]
  have := (per_spec (pf_stp hM.p hM.two b) hx).2.1
  have := hM.len
  omega
theorem cyc_len {ns : List Nat} (hM : MP ns) (b : Bool) : (cyc ns b).length ≤ 1000 := by
  have := cycs_len (stp ns b) ns.length ns.length
  have := hM.len
  unfold cyc
  omega
end Hm
namespace Hm
open PySem PySem.Spec PyProof.Rows L2 Evl
theorem pfl {ns : List Nat} (h : IsP ns) : ∀ x, x < ns.length → fn ns x < ns.length := fun x hx => (pf_fn h).lt x hx
theorem Od.out {N : Nat} {o : List Nat} (h : Od N o) {x : Nat} (q : x ∉ o) : tw x ∉ o := fun z => q (by have := h.tm _ z; rwa [tw_tw] at this)
/-- what is met behind the halves hs of a mesh -/
abbrev ordM (ns hs : List Nat) : List Nat := ordE (fn ns) ns.length hs
def sp_numbered (K : PySem.W.Frag) : Sp := fun vs H Q _ => ∃ (x p : Addr) (ns hs : List Nat), vs = [.ref x, .ref p] ∧ MeshAt K H x ns ∧ MP ns ∧ SqL K H p (L hs) ∧ (∀ h ∈ hs, h < ns.length) ∧ hs.length ≤ 1000 ∧
  ∀ T y q H', H T = none → H y = none → H q = none → Ex H H' → H' T = some (.tup [.ref y, .ref q]) → MeshN K H H' y (newN (fn ns) (ordM ns hs)) → H' q = some (.lst (L (newH (ordM ns hs) hs))) → Q (.ref T) H'
abbrev nm_numbered : List Str := ["mesh", "halves", "order", "numbers", "done", "half", "nexts"]
abbrev pr_numbered : List Str := ["mesh", "halves"]
def t_numbered (K : PySem.W.Frag) : TS :=
  (tSeq (tAsg (tLst tNil) (gName 2))
  (tSeq (tAsg tDNewK (gName 3))
  (tSeq (tAsg (tC (.int 0)) (gName 4))
  (tSeq (tFor (iList K (tVar 1)) (gName 5) (tSeq (tDrop (tCall (sp_addedge K) [] E0 (tCons (tVar 0) (tCons (tVar 5) (tCons (tVar 2) (tCons (tVar 3) tNil))))))
      (tWhile (tTest (tOp zLt (tVar 4) (tCB (cLen K) (tCons (tVar 2) tNil)))) (tSeq (tDrop (tCall (sp_addedge K) [] E0 (tCons (tVar 0) (tCons (tMeth (He.ga K "Mesh") "after" (sp_Meshafter K) [] E0 (tVar 0) (tCons (tOp (rIxL K) (tVar 2) (tVar 4)) tNil)) (tCons (tVar 2) (tCons (tVar 3) tNil))))))
        (tAug 4 (tC (.int 1)) (ipI fun i j => i + j))))))
  (tSeq (tAsg (tLc (iList K (tVar 2)) (gName 5) tYes (tDGet (tVar 3) (tMeth (He.ga K "Mesh") "after" (sp_Meshafter K) [] E0 (tVar 0) (tCons (tVar 5) tNil))) [5]) (gName 6))
  (tRet (tTup (tCons (tMake (He.ga K "Mesh") (sp_Meshinit K) [] E0 (tCons (tVar 6) tNil)) (tCons (tLc (iList K (tVar 1)) (gName 5) tYes (tDGet (tVar 3) (tVar 5)) [5]) tNil)))))))))
abbrev Wt_numbered (K : PySem.W.Frag) (vs : List V) (H : Hp) (Q : VK) : Prop := t_numbered K { nx := fun _ H' => Q .non H', rt := Q } (start nm_numbered vs) H
theorem ln_numbered {K : PySem.W.Frag} (vs : List V) (H : Hp) (Q : VK) (E : XK) (h : sp_numbered K vs H Q E) : vs.length = pr_numbered.length := by
  obtain ⟨_, _, _, _, rfl, _⟩ := h
  rfl
theorem rd_numbered {K : PySem.W.Frag} (F : KF K) (vs : List V) (H : Hp) (Q : VK) (E : XK) (h : sp_numbered K vs H Q E) : Wt_numbered K vs H Q := by
  obtain ⟨x, p, ns, hs, rfl, hm, hM, hp, hl, hz, k⟩ := h
  show t_numbered K _ [some (.ref x), some (.ref p), none, none, none, none, none] H
  have P := pfl hM.p
  have two := hM.two
  have nl := hM.len
  refine q_asgL (el_lst ea_nil (Nat.zero_le _)) (fun o H1 ho e1 h1 => ?_)
  refine q_asgD (fun d hd => ?_)
  have x1 : Ex H (upd H1 d (.dK [])) := e1.trans (Ex.new hd)
  have hd0 : H d = none := fresh_back e1 hd
  have hod : o ≠ d := ne_of_none h1 hd
  have o1 : (upd H1 d (.dK [])) o = some (.lst (L [])) := by
    rw [upd_ne hod]
    exact h1
  refine q_asg ev_c (fun H2 e2 => ?_)
  have ocI : ∀ i, Oc (fn ns) ns.length (ordM ns (hs.take i)) := fun i => ordE_oc P two _ (fun h hh => hl h (List.mem_of_mem_take hh))
  refine q_forLn (ev_var rfl) (ex_l (x1.trans e2) hp) (fun i σ' H' => ∃ (v5 : Option V) (kvs : List (Key × V)), σ' = [some (.ref x), some (.ref p), some (.ref o), some (.ref d), some (vi (ordM ns (hs.take i)).length), v5, none] ∧ Ex H H' ∧
    H' o = some (.lst (L (ordM ns (hs.take i)))) ∧ H' d = some (.dK kvs) ∧ DkE kvs (ordM ns (hs.take i))) ?_ ?_ ?_ ?_
  · intro H3 e3
    exact ⟨_, [], rfl, x1.trans (e2.trans e3), e3 _ _ (e2 _ _ o1), e3 _ _ (e2 _ _ upd_same), dkE_nil⟩
  · rintro i σ' H' _ ⟨_, _, _, ex, _⟩
    exact ex_l ex hp
  · rintro i y σ' H' hy ⟨v5, kvs, rfl, ex, g1, g2, g3⟩
    obtain ⟨hi, rfl⟩ := L_item hy
    have hy' : fn hs i < ns.length := hl _ (fn_mem hi)
    have oc := ocI i
    have ole := oc.od.le
    have e' : ordM ns (hs.take (i + 1)) = goE (fn ns) ns.length 0 (addE (ordM ns (hs.take i)) (fn hs i)) := by
      have : hs.take (i + 1) = hs.take i ++ [fn hs i] := by
        rw [List.take_add_one, fn_get hi]
        rfl
      rw [this]
      exact ordE_snoc _ _
    refine q_dropC (ea_cons (ev_var rfl) (ea_cons (ev_var rfl) (ea_2 (ev_var rfl) (ev_var rfl)))) (fun H3 e3 => ?_)
    refine ⟨x, o, d, fn hs i, ns, _, kvs, rfl, hm.ex (ex.trans e3), e3 _ _ g1, e3 _ _ g2, g3, oc.od.out, by omega, fun H4 kvs4 a1 a2 a3 a4 => ?_⟩
    have x4 : Ex H H4 := a4.ex (ex.trans e3) ho hd0
    have od4 := oc.od.add two hy'
    refine s_while (fun m σ' H' => ∃ (dn : Nat) (cur : List Nat) (kvs : List (Key × V)), m = ns.length - dn ∧ dn ≤ cur.length ∧ Od ns.length cur ∧ goE (fn ns) (ns.length - dn) dn cur = ordM ns (hs.take (i + 1)) ∧
      σ' = [some (.ref x), some (.ref p), some (.ref o), some (.ref d), some (vi dn), some (vi (fn hs i)), none] ∧ Ex H H' ∧ H' o = some (.lst (L cur)) ∧ H' d = some (.dK kvs) ∧ DkE kvs cur) _ ⟨(ordM ns (hs.take i)).length, _, kvs4, rfl, addE_len _ _, od4, ?_, rfl, x4, a1, a2, a3⟩ ?_
    · rw [e']
      have q := goE_skips (f := fn ns) (o := addE (ordM ns (hs.take i)) (fn hs i)) (d := (ordM ns (hs.take i)).length) (ns.length - (ordM ns (hs.take i)).length) 0 (by have := addE_len (ordM ns (hs.take i)) (fn hs i); omega) (fun j hj hk => by
        have hj2 : j < (ordM ns (hs.take i)).length := by omega
        have e : (addE (ordM ns (hs.take i)) (fn hs i))[j] = (ordM ns (hs.take i))[j] := by
          have := addE_get (h := fn hs i) hj2
          rw [List.getElem?_eq_getElem hj, List.getElem?_eq_getElem hj2] at this
          exact Option.some.inj this
        rw [e]
        exact addE_sub _ _ _ (oc.cl _ (List.getElem_mem hj2)))
      rw [Nat.sub_add_cancel ole, Nat.zero_add] at q
      exact q.symm
    · rintro m σ' H5 ⟨dn, cur, kvs5, rfl, hdn, od5, hgo, rfl, x5, b1, b2, b3⟩
      have cle := od5.le
      refine ⟨decide ((dn : Int) < (cur.length : Int)), et_test (ev_op (ev_var rfl) (ev_is (ev_cb (ea_1 (ev_var rfl)) (rc_len (sq_of b1))) (by rw [L_len])) rv_I0), fun hb H6 e6 => ?_, fun hb H6 e6 => ?_⟩
      · have hlt : dn < cur.length := by
          have := of_decide_eq_true hb
          omega
        refine ⟨_, fun σ2 H2 hw => hw, ?_⟩
        have hc : fn cur dn < ns.length := od5.lt _ (fn_mem hlt)
        have m6 := hm.ex (x5.trans e6)
        refine q_dropC (ea_cons (ev_var rfl) (ea_cons (ev_mm m6 (ev_var rfl) (by decide +kernel) (ea_1 (ev_op (ev_var rfl) (ev_var rfl) (rv_ixL (sq_of (e6 _ _ b1)) (L_at hlt)))) (spv_Meshafter m6 hc)) (ea_2 (ev_var rfl) (ev_var rfl)))) (fun H7 e7 => ?_)
        refine ⟨x, o, d, fn ns (fn cur dn), ns, cur, kvs5, rfl, m6.ex e7, e7 _ _ (e6 _ _ b1), e7 _ _ (e6 _ _ b2), b3, od5.out, by omega, fun H8 kvs8 c1 c2 c3 c4 => ?_⟩
        refine s_aug (f := fun i j => i + j) (a := (dn : Int)) (b := 1) rfl ev_c (fun H9 e9 => ?_)
        refine ⟨ns.length - (dn + 1), by omega, dn + 1, _, kvs8, rfl, by have := addE_len cur (fn ns (fn cur dn)); omega, od5.add two (P _ hc), ?_, ?_, (c4.ex ((x5.trans e6).trans e7) ho hd0).trans e9, e9 _ _ c1, e9 _ _ c2, c3⟩
        · rw [← hgo]
          have e1 : ns.length - dn = (ns.length - (dn + 1)) + 1 := by omega
          have e2 : fn cur dn = cur[dn] := by
            have := fn_get hlt
            rw [List.getElem?_eq_getElem hlt] at this
            exact (Option.some.inj this).symm
          rw [e1, goE_step hlt, e2]
        · have : ((dn : Int) + 1) = ((dn + 1 : Nat) : Int) := by omega
          show [some (V.ref x), some (.ref p), some (.ref o), some (.ref d), some (.int ((dn : Int) + 1)), some (vi (fn hs i)), none] = _
          rw [this]
      · have hge : cur.length ≤ dn := by
          have := of_decide_eq_false hb
          omega
        rw [goE_stop (by omega)] at hgo
        have edn : dn = cur.length := by omega
        rw [hgo] at b1 b3 edn
        subst edn
        exact ⟨_, kvs5, rfl, x5.trans e6, e6 _ _ b1, e6 _ _ b2, b3⟩
  · rintro σ' H3 ⟨v5, kvs, rfl, x3, g1, g2, g3⟩
    rw [L_len, List.take_of_length_le (Nat.le_refl _)] at *
    have oc : Oc (fn ns) ns.length (ordM ns hs) := ordE_oc P two hs hl
    have ole := oc.od.le
    have hmem : ∀ h ∈ hs, h ∈ ordM ns hs := fun h hh => ordE_mem hs hh
    generalize hO : ordM ns hs = O at *
    have m3 := hm.ex x3
    have hcomp : EvL (tLc (iList K (tVar 2)) (gName 5) tYes (tDGet (tVar 3) (tMeth (He.ga K "Mesh") "after" (sp_Meshafter K) [] E0 (tVar 0) (tCons (tVar 5) tNil))) [5]) [some (.ref x), some (.ref p), some (.ref o), some (.ref d), some (vi O.length), v5, none] H3 (L (newN (fn ns) O)) := by
      have q := el_lcL (K := K) (σ := [some (.ref x), some (.ref p), some (.ref o), some (.ref d), some (vi O.length), v5, none]) (H := H3) (j := 5) (vs := [5]) (tl := tVar 2) (t := tYes) (te := tDGet (tVar 3) (tMeth (He.ga K "Mesh") "after" (sp_Meshafter K) [] E0 (tVar 0) (tCons (tVar 5) tNil))) (fun _ => true) (fun i => vi (O.idxOf (fn ns (fn O i)))) (ev_var rfl) (sq_of g1) (by rw [L_len]; omega) (fun _ => rfl) (fun i y H1 _ _ => et_yes) (fun i y H4 e4 hy _ => by
        obtain ⟨hi, rfl⟩ := L_item hy
        have hc := fn_mem hi
        refine ev_dget (ev_var rfl) (ev_mm (m3.ex e4) (ev_var rfl) (by decide +kernel) (ea_1 (ev_var rfl)) (spv_Meshafter (m3.ex e4) (oc.od.lt _ hc))) (e4 _ _ g2) ?_
        rw [g3.2, if_pos (oc.cl _ hc)])
      rw [given_all, L_len] at q
      rw [newN_eq]
      unfold L
      rw [List.map_map]
      exact q
    refine q_asgL hcomp (fun w H4 hw e4 h4 => ?_)
    have x4 := x3.trans e4
    have MN : MP (newN (fn ns) O) := ⟨isP_newN (pf_fn hM.p) oc, by rw [newN_len]; exact oc.od.ev, by rw [newN_len]; omega⟩
    refine s_retTup2 (mk_mesh (ev_var rfl) (sq_of h4) MN (fun y H5 hy m5 e5 => ?_))
    have x5 := x4.trans e5
    have hcomp2 : EvL (tLc (iList K (tVar 1)) (gName 5) tYes (tDGet (tVar 3) (tVar 5)) [5]) [some (.ref x), some (.ref p), some (.ref o), some (.ref d), some (vi O.length), v5, some (.ref w)] H5 (L (newH O hs)) := by
      have q := el_lcL (K := K) (σ := [some (.ref x), some (.ref p), some (.ref o), some (.ref d), some (vi O.length), v5, some (.ref w)]) (H := H5) (j := 5) (vs := [5]) (tl := tVar 1) (t := tYes) (te := tDGet (tVar 3) (tVar 5)) (fun _ => true) (fun i => vi (O.idxOf (fn hs i))) (ev_var rfl) (ex_l x5 hp) (by rw [L_len]; omega) (fun _ => rfl) (fun i y H1 _ _ => et_yes) (fun i y H6 e6 hy _ => by
        obtain ⟨hi, rfl⟩ := L_item hy
        refine ev_dget (ev_var rfl) (ev_var rfl) (e6 _ _ (e5 _ _ (e4 _ _ g2))) ?_
        rw [g3.2, if_pos (hmem _ (fn_mem hi))])
      rw [given_all, L_len] at q
      have e : (List.range hs.length).map (fun i => vi (O.idxOf (fn hs i))) = L (newH O hs) := by
        refine List.ext_getElem? fun j => ?_
        by_cases hj : j < hs.length
        · rw [List.getElem?_map, List.getElem?_range hj]
          unfold L newH
          rw [List.getElem?_map, List.getElem?_map, fn_get hj]
          rfl
        · rw [List.getElem?_eq_none (by rw [List.length_map, List.length_range]; omega), List.getElem?_eq_none (by unfold newH; rw [L_len, List.length_map]; omega)]
      rw [e] at q
      exact q
    refine hcomp2 H5 (Ex.refl H5) _ (fun q H6 hq e6 h6 => ⟨by show 2 ≤ sizeLine; decide, fun T hT => ?_⟩)
    have x6 := x5.trans e6
    exact k T y q _ (fresh_back x6 hT) (fresh_back x4 hy) (fresh_back x5 hq) (x6.trans (Ex.new hT)) upd_same ((m5.ex (e6.trans (Ex.new hT))).back x4) ((Ex.new hT) _ _ h6)
end Hm
namespace Hm
open PySem PySem.Spec PyProof.Rows L2 Evl
theorem inV_L (h : Nat) : ∀ ord : List Nat, inV (vi h) (L ord) = decide (h ∈ ord)
  | [] => rfl
  | a :: r => by
    have ih := inV_L h r
    unfold inV at ih ⊢
    show (eqV (vi a) (vi h) || (L r).any fun y => eqV y (vi h)) = _
    rw [ih]
    have e : eqV (vi a) (vi h) = decide (a = h) := by
      show decide ((a : Int) = (h : Int)) = _
      by_cases q : a = h
      · rw [q, decide_eq_true rfl, decide_eq_true rfl]
      · rw [decide_eq_false q, decide_eq_false (fun z => q (by omega))]
    rw [e]
    by_cases q : a = h
    · simp [q]
    · by_cases z : h ∈ r
      · simp [q, z]
      · simp [q, z, Ne.symm q]
theorem flat_L : ∀ ord : List Nat, (L ord).all flatV = true
  | [] => rfl
  | a :: r => by
    show (flatV (vi a) && (L r).all flatV) = true
    rw [flat_L r]
    rfl
theorem only_one {l : List Nat} {a : Nat} (nd : l.Nodup) (h : ∀ x, x ∈ l ↔ x = a) : l = [a] := by
  cases l with
  | nil => exact absurd ((h a).mpr rfl) (by simp)
  | cons b r =>
    obtain rfl := (h b).mp (List.mem_cons_self ..)
    cases r with
    | nil => rfl
    | cons c s =>
      obtain rfl := (h c).mp (List.mem_cons_of_mem _ (List.mem_cons_self ..))
      simp at nd
theorem given_idx {O : List Nat} (nd : O.Nodup) {z : Nat} (hz : z ∈ O) : given O.length (fun i => decide (vi (fn O i) = vi z)) (fun i => vi i) = [vi (O.idxOf z)] := by
  unfold given
  have e : (List.range O.length).filter (fun i => decide (vi (fn O i) = vi z)) = [O.idxOf z] := by
    refine only_one (List.nodup_range.filter _) fun x => ?_
    rw [List.mem_filter, List.mem_range]
    constructor
    · rintro ⟨h1, h2⟩
      have h3 : (fn O x : Int) = (z : Int) := V.int.inj (of_decide_eq_true h2)
      have h4 : fn O x = z := Int.ofNat.inj h3
      exact (idx_of nd (by rw [fn_get h1, h4])).symm
    · rintro rfl
      refine ⟨List.idxOf_lt_length_iff.mpr hz, ?_⟩
      rw [fn_at (idx_at hz)]
      exact decide_eq_true rfl
  rw [e]
  rfl
section
variable {K : PySem.W.Frag} {σ : L2.St} {H : Hp} {ta tb te : TE} {D : Ends} {tz : TS} {E : XK}
theorem el_catV {a : Addr} {xs ys : List V} (ha : Ev ta σ H (.ref a)) (hS : H a = some (.lst xs)) (hb : EvL tb σ H ys) (hz : xs.length + ys.length ≤ 100000) : EvL (tOp rCat ta tb) σ H (xs ++ ys) := fun H1 e Q q =>
  ha H1 e _ fun H2 e2 => hb H2 (e.trans e2) _ fun p' H3 _ e3 h3 => ⟨a, p', xs, ys, rfl, rfl, e3 _ _ (e2 _ _ (e _ _ hS)), h3, sz_of hz, fun r hr => q r _ (fresh_back (e2.trans e3) hr) ((e2.trans e3).trans (Ex.new hr)) upd_same⟩
theorem set_same {σ : L2.St} {i : Nat} {v : V} (h : σ[i]? = some (some v)) : σ.set i (some v) = σ := by
  refine List.ext_getElem? fun j => ?_
  by_cases e : i = j
  · subst e
    rw [List.getElem?_set_self (List.getElem?_eq_some_iff.mp h).1, h]
  · rw [List.getElem?_set_ne e]
/-- if y not in order: order = order + [y, twin(y)] -/
theorem q_addLaw {i j : Nat} {o : Addr} {ord : List Nat} {h : Nat} (s2 : σ[i]? = some (some (.ref o))) (sj : σ[j]? = some (some (vi h))) (ho : H o = some (.lst (L ord))) (hz : ord.length ≤ 10000)
    (k : ∀ o' H1, Ex H H1 → H1 o' = some (.lst (L (addE ord h))) → tz D (σ.set i (some (.ref o'))) H1) :
    tSeq (tIfS (tTest (tOp (rIn K true) (tVar j) (tVar i))) (tAsg (tOp rCat (tVar i) (tLst (tCons (tVar j) (tCons (tCall (sp_Ltwin K) [] E0 (tCons (tVar j) tNil)) tNil)))) (gName i)) tNext) tz D σ H := by
  refine q_when (et_test (ev_op (ev_var sj) (ev_var s2) (rv_niL (sq_of ho) rfl (flat_L ord)))) (fun hb H1 e1 => ?_) (fun hb H1 e1 => ?_)
  · rw [inV_L] at hb
    have q : h ∉ ord := fun z => by
      rw [decide_eq_true z] at hb
      cases hb
    refine s_asgL (el_catV (ev_var s2) (e1 _ _ ho) (el_lst (ea_2 (ev_var sj) (ev_call (ea_1 (ev_var sj)) (spv_Ltwin h))) (by show 2 ≤ 100000; decide)) (by rw [L_len]; show ord.length + 2 ≤ 100000; omega)) (fun p H2 hp e2 h2 => ?_)
    refine k p H2 (e1.trans e2) ?_
    rw [addE_out q, L_app]
    exact h2
  · rw [inV_L] at hb
    have q : h ∈ ord := Classical.byContradiction fun z => by
      rw [decide_eq_false z] at hb
      cases hb
    have := k o H1 e1 (by rw [addE_in q]; exact e1 _ _ ho)
    rw [set_same s2] at this
    exact this
theorem s_retL2 {x : V} {ys : List V} (ha : Ev ta σ H x) (hb : EvL tb σ H ys) (k : ∀ T q H1 , H T = none → H q = none → Ex H H1 → H1 T = some (.lst [x, .ref q]) → H1 q = some (.lst ys) → D.rt (.ref T) H1) : tRet (tLst (tCons ta (tCons tb tNil))) D σ H :=
  ha H (Ex.refl H) _ fun H1 e1 => hb H1 e1 _ fun q H2 hq e2 h2 => ⟨by show 2 ≤ sizeLine; decide, fun T hT => k T q _ (fresh_back (e1.trans e2) hT) (fresh_back e1 hq) ((e1.trans e2).trans (Ex.new hT)) upd_same ((Ex.new hT) _ _ h2)⟩
end
end Hm
namespace Hm
open PySem PySem.Spec PyProof.Rows L2 Evl
section
variable {K : PySem.W.Frag} {σ : L2.St} {H : Hp} {ta tb te : TE} {D : Ends} {tz tu tw : TS} {E : XK} {sp : Sp} {tp tr : TA} {vs : List V} {i : Nat}
theorem c_call {Q : VK} (hp : EvA tp σ H vs) (k : ∀ H1, Ex H H1 → sp vs H1 Q E) : tCall sp [] E tp σ H Q := hp H (Ex.refl H) _ fun H1 e1 => by
  show sp (vs ++ []) H1 Q E
  rw [List.append_nil]
  exact k H1 e1
theorem q_max1C (hp : EvA tp σ H vs) (k : ∀ H1, Ex H H1 → sp vs H1 (fun v H2 => rMax2 [.int 1, v] H2 (fun w H3 => tz D (σ.set i (some w)) H3)) E) : tSeq (tAsg (tCB rMax2 (tCons (tC (.int 1)) (tCons (tCall sp [] E tp) tNil))) (gName i)) tz D σ H := c_call (Q := fun v H2 => rMax2 [.int 1, v] H2 (fun w H3 => tz D (σ.set i (some w)) H3)) hp k
theorem q_ifCand {c : Int} {t2 : TT} (hp : EvA tp σ H vs) (k : ∀ H1, Ex H H1 → sp vs H1 (fun v H2 => rEq v (.int c) H2 (fun z H3 => ∃ b, z = .bl b ∧ (if b = true then t2 σ H3 (fun b' H4 => if b' = true then tu { D with nx := tz D } σ H4 else tw { D with nx := tz D } σ H4) else (if false = true then tu { D with nx := tz D } σ H3 else tw { D with nx := tz D } σ H3)))) E) :
    tSeq (tIfS (tAnd (tTest (tOp rEq (tCall sp [] E tp) (tC (.int c)))) t2) tu tw) tz D σ H := c_call (Q := fun v H2 => rEq v (.int c) H2 (fun z H3 => ∃ b, z = .bl b ∧ (if b = true then t2 σ H3 (fun b' H4 => if b' = true then tu { D with nx := tz D } σ H4 else tw { D with nx := tz D } σ H4) else (if false = true then tu { D with nx := tz D } σ H3 else tw { D with nx := tz D } σ H3)))) hp k
theorem q_ifEqC {c : Int} (h : EvA tp σ H vs) (k : ∀ H1, Ex H H1 → sp vs H1 (fun v H2 => scal v (.int c) = true ∧ (if decide (v = .int c) = true then tu { D with nx := tz D } σ H2 else tw { D with nx := tz D } σ H2)) E) :
    tSeq (tIfS (tTest (tOp rEq (tCall sp [] E tp) (tC (.int c)))) tu tw) tz D σ H := s_ifEqC (D := { D with nx := tz D }) h k
theorem q_asgC1 (h : ta σ H (fun v H1 => tr σ H1 fun vs H2 => sp ((v :: vs) ++ []) H2 (fun w H3 => tz D (σ.set i (some w)) H3) E)) : tSeq (tAsg (tCall sp [] E (tCons ta tr)) (gName i)) tz D σ H := h
theorem q_asgG {g : TG} (hp : EvA tp σ H vs) (k : ∀ H1, Ex H H1 → sp vs H1 (fun v H2 => g v σ H2 (fun σ' H3 => tz D σ' H3)) E) : tSeq (tAsg (tCall sp [] E tp) g) tz D σ H := c_call (Q := fun v H2 => g v σ H2 (fun σ' H3 => tz D σ' H3)) hp k
def LcB (J : It) (g : TG) (tt : TT) (te : TE) (vs : List Nat) (σ : L2.St) (H1 : Hp) (Qd : Addr → Hp → Prop) : Prop := ∀ D, H1 D = none → ∃ W : Nat → Nat → Hp → Prop, (∃ m, W 0 m (upd H1 D (.lst []))) ∧ ∀ i m H, W i m H →
  (J.stop i H ∧ Qd D H) ∨ (J.go i H ∧ ∃ Nx : Hp → Prop, (∀ H', Nx H' → ∃ m', m' < m ∧ W (i + 1) m' H') ∧ ∀ x H', J.yld i H x H' → g x (wipe σ vs) H' fun σ2 H2 => wipe σ2 vs = wipe σ vs ∧ tt σ2 H2 fun b H3 =>
    if b = true then te σ2 H3 fun y H4 => ∃ acc, H4 D = some (.lst acc) ∧ acc.length < sizeLine ∧ Nx (upd H4 D (.lst (acc ++ [y]))) else Nx H3)
theorem q_lc {wi : TI} {g : TG} {tt : TT} {vs : List Nat} (h : wi σ H fun J H1 => LcB J g tt te vs σ H1 (fun Dl H' => tz D (σ.set i (some (.ref Dl))) H')) : tSeq (tAsg (tLc wi g tt te vs) (gName i)) tz D σ H := h
theorem rng_add {c : Int} {R : It → Hp → Prop} (hp : EvA tp σ H vs) (k : ∀ H1, Ex H H1 → sp vs H1 (fun v H2 => zAdd (.int c) v H2 (fun z H3 => ∃ j : Int, [z] = [V.int j] ∧ -(2 ^ 62) ≤ j ∧ j < 2 ^ 62 ∧ R (Itr 0 j.toNat) H3)) E) : iRng1 (tCons (tOp zAdd (tC (.int c)) (tCall sp [] E tp)) tNil) σ H R :=
  c_call (Q := fun v H2 => zAdd (.int c) v H2 (fun z H3 => ∃ j : Int, [z] = [V.int j] ∧ -(2 ^ 62) ≤ j ∧ j < 2 ^ 62 ∧ R (Itr 0 j.toNat) H3)) hp k
theorem rc_lenT {p : Addr} {xs : List V} (h : H p = some (.tup xs)) : RC (cLen K) [.ref p] H (.int (xs.length : Int)) := fun H1 e _ q => ⟨p, xs, rfl, Or.inr (st_of (e _ _ h)), q H1 (Ex.refl H1)⟩
theorem rc_isT {p : Addr} {xs : List V} (h : H p = some (.tup xs)) : RC (rIsi K) [.ref p, .ty "tuple"] H (.bl true) :=
  rc_isi (.ty "tuple") (fun H1 e => .base (.tup (e _ _ h))) (kit_ty (by decide +kernel))
theorem ev_ixT {j : Nat} {n : Int} {T : Addr} {xs : List V} {v : V} (hs : σ[j]? = some (some (.ref T))) (h : H T = some (.tup xs)) (ha : atI xs n = some v) : Ev (tOp (rIxT K) (tVar j) (tC (.int n))) σ H v := ev_op (ev_var hs) ev_c (rv_ixT (st_of h) ha)
end
theorem isP_double {ns : List Nat} (h : IsP ns) : IsP (ns ++ ns.map (· + ns.length)) where
  perm := by
    rw [List.length_append, List.length_map, List.range_add]
    refine List.Perm.append h.perm ?_
    have e : ns.map (· + ns.length) = ns.map (ns.length + ·) := List.map_congr_left fun x _ => Nat.add_comm _ _
    rw [e]
    exact h.perm.map _
end Hm
namespace Hm
/-! ### classes of numbers below N, and how many there are -/
structure Eqv (N : Nat) (R : Nat → Nat → Prop) : Prop where
  refl : ∀ x, x < N → R x x
  symm : ∀ x y, x < N → y < N → R x y → R y x
  trans : ∀ x y z, x < N → y < N → z < N → R x y → R y z → R x z
def minR (N : Nat) (R : Nat → Nat → Prop) (x : Nat) : Prop := ∀ y, y < N → R x y → x ≤ y
noncomputable def minB (N : Nat) (R : Nat → Nat → Prop) (x : Nat) : Bool := @decide (minR N R x) (Classical.propDecidable _)
theorem minB_iff {N : Nat} {R : Nat → Nat → Prop} {x : Nat} : minB N R x = true ↔ minR N R x := by
  unfold minB
  exact @decide_eq_true_iff _ (Classical.propDecidable _)
noncomputable def cnt (N : Nat) (R : Nat → Nat → Prop) : Nat := ((List.range N).filter (minB N R)).length
theorem cnt_congr {N : Nat} {R R' : Nat → Nat → Prop} (h : ∀ x y, x < N → y < N → (R x y ↔ R' x y)) : cnt N R = cnt N R' := by
  unfold cnt
  rw [List.filter_congr (q := minB N R') (fun x hx => ?_)]
  have hx := List.mem_range.mp hx
  rw [Bool.eq_iff_iff, minB_iff, minB_iff]
  exact ⟨fun q y hy r => q y hy ((h x y hx hy).mpr r), fun q y hy r => q y hy ((h x y hx hy).mp r)⟩
theorem filter_one {p q : Nat → Bool} {M : Nat} (hp : p M = true) (hq : q M = false) (h : ∀ x, x ≠ M → p x = q x) : ∀ n, ((List.range n).filter p).length = ((List.range n).filter q).length + (if M < n then 1 else 0)
  | 0 => rfl
  | n + 1 => by
    have ih := filter_one hp hq h n
    rw [List.range_succ, List.filter_append, List.filter_append, List.length_append, List.length_append, ih]
    by_cases e : n = M
    · subst e
      rw [if_neg (Nat.lt_irrefl _), if_pos (Nat.lt_succ_self _)]
      simp [List.filter_cons, hp, hq]
    · have : (if M < n + 1 then 1 else 0) = (if M < n then 1 else 0) := by
        by_cases c : M < n
        · rw [if_pos c, if_pos (by omega)]
        · rw [if_neg c, if_neg (by omega)]
      have e2 : (List.filter p [n]).length = (List.filter q [n]).length := by simp only [List.filter_cons, h n e, List.filter_nil]
      omega
theorem least {P : Nat → Prop} (h : ∃ n, P n) : ∃ m, P m ∧ ∀ k, P k → m ≤ k := by
  obtain ⟨n, hn⟩ := h
  induction n using Nat.strongRecOn with
  | ind n ih =>
    by_cases c : ∃ k, k < n ∧ P k
    · obtain ⟨k, hk, hp⟩ := c
      exact ih k hk hp
    · exact ⟨n, hn, fun k hk => Nat.le_of_not_lt fun q => c ⟨k, q, hk⟩⟩
def joinR (R : Nat → Nat → Prop) (a b x y : Nat) : Prop := R x y ∨ (R x a ∧ R b y) ∨ (R x b ∧ R a y)
section
variable {N : Nat} {R : Nat → Nat → Prop}
theorem joinR_comm {a b x y : Nat} : joinR R a b x y ↔ joinR R b a x y := ⟨fun h => h.elim .inl fun h => .inr h.symm, fun h => h.elim .inl fun h => .inr h.symm⟩
theorem joinR_eqv (E : Eqv N R) {a b : Nat} (ha : a < N) (hb : b < N) : Eqv N (joinR R a b) where
  refl := fun x hx => .inl (E.refl x hx)
  symm := fun x y hx hy h => by
    rcases h with h | ⟨h1, h2⟩ | ⟨h1, h2⟩
    · exact .inl (E.symm _ _ hx hy h)
    · exact .inr (.inr ⟨E.symm _ _ hb hy h2, E.symm _ _ hx ha h1⟩)
    · exact .inr (.inl ⟨E.symm _ _ ha hy h2, E.symm _ _ hx hb h1⟩)
  trans := fun x y z hx hy hz h g => by
    rcases h with h | ⟨h1, h2⟩ | ⟨h1, h2⟩ <;> rcases g with g | ⟨g1, g2⟩ | ⟨g1, g2⟩
    · exact .inl (E.trans _ _ _ hx hy hz h g)
    · exact .inr (.inl ⟨E.trans _ _ _ hx hy ha h g1, g2⟩)
    · exact .inr (.inr ⟨E.trans _ _ _ hx hy hb h g1, g2⟩)
    · exact .inr (.inl ⟨h1, E.trans _ _ _ hb hy hz h2 g⟩)
    · exact .inr (.inl ⟨h1, g2⟩)
    · exact .inl (E.trans _ _ _ hx ha hz h1 g2)
    · exact .inr (.inr ⟨h1, E.trans _ _ _ ha hy hz h2 g⟩)
    · exact .inl (E.trans _ _ _ hx hb hz h1 g2)
    · exact .inr (.inr ⟨h1, g2⟩)
theorem cnt_join_lt (E : Eqv N R) {a b ma mb : Nat} (ha : a < N) (hb : b < N) (n : ¬ R a b) (hma : ma < N) (hmb : mb < N) (ra : R a ma) (rb : R b mb) (la : ∀ y, y < N → R a y → ma ≤ y) (lb : ∀ y, y < N → R b y → mb ≤ y) (lt : ma < mb) :
    cnt N R = cnt N (joinR R a b) + 1 := by
  unfold cnt
  have q := filter_one (p := fun x => decide (x < N) && minB N R x) (q := fun x => decide (x < N) && minB N (joinR R a b) x) (M := mb) ?_ ?_ ?_ N
  · rw [if_pos hmb] at q
    have e : ∀ r : Nat → Bool, (List.range N).filter (fun x => decide (x < N) && r x) = (List.range N).filter r := fun r => List.filter_congr fun x hx => by
      rw [decide_eq_true (List.mem_range.mp hx), Bool.true_and]
    rw [e, e] at q
    exact q
  · rw [Bool.and_eq_true]
    refine ⟨decide_eq_true hmb, minB_iff.mpr fun y hy h => lb y hy (E.trans _ _ _ hb hmb hy rb h)⟩
  · rw [Bool.and_eq_false_iff]
    refine .inr (Bool.eq_false_iff.mpr fun h => ?_)
    have := minB_iff.mp h ma hma (.inr (.inr ⟨E.symm _ _ hb hmb rb, ra⟩))
    omega
  · intro x hne
    by_cases hx : x < N
    · rw [decide_eq_true hx, Bool.true_and, Bool.true_and, Bool.eq_iff_iff, minB_iff, minB_iff]
      constructor
      · intro h y hy g
        rcases g with g | ⟨g1, g2⟩ | ⟨g1, g2⟩
        · exact h y hy g
        · have e1 : x ≤ ma := h ma hma (E.trans _ _ _ hx ha hma g1 ra)
          have e2 := lb y hy g2
          omega
        · have e1 : x ≤ mb := h mb hmb (E.trans _ _ _ hx hb hmb g1 rb)
          have e2 := lb x hx (E.symm _ _ hx hb g1)
          omega
      · exact fun h y hy g => h y hy (.inl g)
    · rw [decide_eq_false hx, Bool.false_and, Bool.false_and]
theorem cnt_join (E : Eqv N R) {a b : Nat} (ha : a < N) (hb : b < N) (n : ¬ R a b) : cnt N R = cnt N (joinR R a b) + 1 := by
  obtain ⟨ma, ⟨hma, ra⟩, la⟩ := least (P := fun y => y < N ∧ R a y) ⟨a, ha, E.refl a ha⟩
  obtain ⟨mb, ⟨hmb, rb⟩, lb⟩ := least (P := fun y => y < N ∧ R b y) ⟨b, hb, E.refl b hb⟩
  have la' : ∀ y, y < N → R a y → ma ≤ y := fun y h1 h2 => la y ⟨h1, h2⟩
  have lb' : ∀ y, y < N → R b y → mb ≤ y := fun y h1 h2 => lb y ⟨h1, h2⟩
  rcases Nat.lt_trichotomy ma mb with h | h | h
  · exact cnt_join_lt E ha hb n hma hmb ra rb la' lb' h
  · subst h
    exact absurd (E.trans _ _ _ ha hma hb ra (E.symm _ _ hb hma rb)) n
  · rw [cnt_join_lt E hb ha (fun q => n (E.symm _ _ hb ha q)) hmb hma rb ra lb' la' h]
    congr 1
    exact cnt_congr fun x y _ _ => joinR_comm
theorem cnt_join_same (E : Eqv N R) {a b : Nat} (ha : a < N) (hb : b < N) (h : R a b) : cnt N (joinR R a b) = cnt N R := cnt_congr fun x y hx hy => ⟨fun g => by
    rcases g with g | ⟨g1, g2⟩ | ⟨g1, g2⟩
    · exact g
    · exact E.trans _ _ _ hx ha hy g1 (E.trans _ _ _ ha hb hy h g2)
    · exact E.trans _ _ _ hx hb hy g1 (E.trans _ _ _ hb ha hy (E.symm _ _ ha hb h) g2), .inl⟩
end
/-! ### rounds of a permutation, and of it behind an exchange -/
def Cy (f : Nat → Nat) (x y : Nat) : Prop := ∃ k, itr f k x = y
section
variable {f : Nat → Nat} {N : Nat}
theorem cy_eqv (P : Pf f N) : Eqv N (Cy f) where
  refl := fun x _ => ⟨0, rfl⟩
  symm := fun x y hx hy h => (mem_rnd P hy).mp (rnd_symm P hx ((mem_rnd P hx).mpr h))
  trans := fun x y z _ _ _ ⟨k, e⟩ ⟨j, g⟩ => ⟨j + k, by rw [itr_add, e, g]⟩
theorem cy_step (x : Nat) {y : Nat} (h : Cy f x y) : Cy f x (f y) := by
  obtain ⟨k, rfl⟩ := h
  exact ⟨k + 1, rfl⟩
theorem cycs_cnt (P : Pf f N) : (cycs f N N).length = cnt N (Cy f) := by
  unfold cycs cnt
  rw [List.length_map]
  rw [List.filter_congr (q := minB N (Cy f)) (fun x hx => ?_)]
  have hx := List.mem_range.mp hx
  rw [Bool.eq_iff_iff, minB_iff, isMin_iff]
  exact ⟨fun h y _ g => h y ((mem_rnd P hx).mpr g), fun h y hy => h y (rnd_lt P hx hy) ((mem_rnd P hx).mp hy)⟩
def sw (f : Nat → Nat) (a b : Nat) : Nat → Nat := fun x => if x = a then f b else if x = b then f a else f x
theorem sw_a (a b : Nat) : sw f a b a = f b := if_pos rfl
theorem sw_b {a b : Nat} (h : a ≠ b) : sw f a b b = f a := by
  unfold sw
  rw [if_neg (Ne.symm h), if_pos rfl]
theorem sw_o {a b x : Nat} (h1 : x ≠ a) (h2 : x ≠ b) : sw f a b x = f x := by
  unfold sw
  rw [if_neg h1, if_neg h2]
theorem sw_pf (P : Pf f N) {a b : Nat} (ha : a < N) (hb : b < N) (n : a ≠ b) : Pf (sw f a b) N := by
  have key : ∀ x, x < N → ∃ y, y < N ∧ sw f a b x = f y ∧ (y = if x = a then b else if x = b then a else x) := fun x hx => by
    unfold sw
    by_cases h1 : x = a
    · exact ⟨b, hb, by rw [if_pos h1], by rw [if_pos h1]⟩
    · by_cases h2 : x = b
      · exact ⟨a, ha, by rw [if_neg h1, if_pos h2], by rw [if_neg h1, if_pos h2]⟩
      · exact ⟨x, hx, by rw [if_neg h1, if_neg h2], by rw [if_neg h1, if_neg h2]⟩
  refine ⟨fun x hx => ?_, fun x y hx hy e => ?_⟩
  · obtain ⟨y, hy, e, _⟩ := key x hx
    rw [e]
    exact P.lt y hy
  · obtain ⟨u, hu, e1, q1⟩ := key x hx
    obtain ⟨v, hv, e2, q2⟩ := key y hy
    have := P.inj u v hu hv (by rw [← e1, ← e2, e])
    rw [q1, q2] at this
    split at this <;> split at this <;> (try split at this) <;> (try split at this) <;> omega
theorem sw_sub (P : Pf f N) {a b : Nat} (ha : a < N) (hb : b < N) (n : a ≠ b) {x y : Nat} (hx : x < N) (h : Cy (sw f a b) x y) : joinR (Cy f) a b x y := by
  obtain ⟨k, rfl⟩ := h
  have E := cy_eqv P
  induction k with
  | zero => exact .inl ⟨0, rfl⟩
  | succ k ih =>
    show joinR (Cy f) a b x (sw f a b (itr (sw f a b) k x))
    generalize itr (sw f a b) k x = z at *
    by_cases h1 : z = a
    · subst h1
      rw [sw_a]
      rcases ih with g | ⟨g1, g2⟩ | ⟨g1, g2⟩
      · exact .inr (.inl ⟨g, cy_step _ ⟨0, rfl⟩⟩)
      · exact .inr (.inl ⟨g1, cy_step _ ⟨0, rfl⟩⟩)
      · exact .inl (cy_step _ g1)
    · by_cases h2 : z = b
      · subst h2
        rw [sw_b n]
        rcases ih with g | ⟨g1, g2⟩ | ⟨g1, g2⟩
        · exact .inr (.inr ⟨g, cy_step _ ⟨0, rfl⟩⟩)
        · exact .inl (cy_step _ g1)
        · exact .inr (.inr ⟨g1, cy_step _ ⟨0, rfl⟩⟩)
      · rw [sw_o h1 h2]
        rcases ih with g | ⟨g1, g2⟩ | ⟨g1, g2⟩
        · exact .inl (cy_step _ g)
        · exact .inr (.inl ⟨g1, cy_step _ g2⟩)
        · exact .inr (.inr ⟨g1, cy_step _ g2⟩)
/-- along a way that meets neither -/
theorem sw_path {a b z z' : Nat} (hz : sw f a b z' = f z) : ∀ k, (∀ j, 0 < j → j < k → itr f j z ≠ a ∧ itr f j z ≠ b) → ∀ j, 0 < j → j ≤ k → itr (sw f a b) j z' = itr f j z
  | _, h, 1, _, _ => hz
  | k, h, j + 2, _, hj => by
    have ih := sw_path hz k h (j + 1) (by omega) (by omega)
    obtain ⟨h1, h2⟩ := h (j + 1) (by omega) (by omega)
    show sw f a b (itr (sw f a b) (j + 1) z') = f (itr f (j + 1) z)
    rw [ih, sw_o h1 h2]
/-- the round of b hangs behind a -/
theorem sw_hang (P : Pf f N) {a b z z' : Nat} (ha : a < N) (hb : b < N) (hzN : z < N) (hz : sw f a b z' = f z) (na : z = b ∧ ¬ Cy f b a ∨ z = a ∧ ¬ Cy f a b) {y : Nat} (h : Cy f z y) : Cy (sw f a b) z' y := by
  obtain ⟨s1, s2, s3⟩ := per_spec P hzN
  have hp := per_pos f N z
  have away : ∀ j, 0 < j → j < per f N z → itr f j z ≠ a ∧ itr f j z ≠ b := fun j h1 h2 => by
    rcases na with ⟨rfl, n⟩ | ⟨rfl, n⟩
    · exact ⟨fun e => n ⟨j, e⟩, s3 j h1 h2⟩
    · exact ⟨s3 j h1 h2, fun e => n ⟨j, e⟩⟩
  have q := sw_path hz (per f N z) away
  have hy := (mem_rnd P hzN).mpr h
  unfold rnd at hy
  obtain ⟨k, hk, e⟩ := List.mem_map.mp hy
  have hk := List.mem_range.mp hk
  by_cases k0 : k = 0
  · subst k0
    exact ⟨per f N z, by rw [q _ hp (Nat.le_refl _), s1]; exact e⟩
  · exact ⟨k, by rw [q k (by omega) (by omega)]; exact e⟩
theorem sw_far {a b x : Nat} (h1 : ¬ Cy f x a) (h2 : ¬ Cy f x b) : ∀ k, itr (sw f a b) k x = itr f k x
  | 0 => rfl
  | k + 1 => by
    show sw f a b (itr (sw f a b) k x) = f (itr f k x)
    rw [sw_far h1 h2 k, sw_o (fun e => h1 ⟨k, e⟩) (fun e => h2 ⟨k, e⟩)]
/-- two rounds become one -/
theorem sw_merge (P : Pf f N) {a b : Nat} (ha : a < N) (hb : b < N) (n : ¬ Cy f a b) {x y : Nat} (hx : x < N) (hy : y < N) : Cy (sw f a b) x y ↔ joinR (Cy f) a b x y := by
  have hab : a ≠ b := fun e => n ⟨0, e⟩
  have E := cy_eqv P
  have PG := sw_pf P ha hb hab
  have EG := cy_eqv PG
  have n' : ¬ Cy f b a := fun q => n (E.symm _ _ hb ha q)
  have A : ∀ y, Cy f b y → Cy (sw f a b) a y := fun y h => sw_hang P ha hb hb (sw_a a b) (.inl ⟨rfl, n'⟩) h
  have B : ∀ y, Cy f a y → Cy (sw f a b) b y := fun y h => sw_hang P ha hb ha (sw_b hab) (.inr ⟨rfl, n⟩) h
  have AB : Cy (sw f a b) a b := A b ⟨0, rfl⟩
  refine ⟨sw_sub P ha hb hab hx, fun h => ?_⟩
  rcases h with h | ⟨h1, h2⟩ | ⟨h1, h2⟩
  · by_cases ca : Cy f a x
    · have cy : Cy f a y := E.trans _ _ _ ha hx hy ca h
      exact EG.trans _ _ _ hx hb hy (EG.symm _ _ hb hx (B x ca)) (B y cy)
    · by_cases cb : Cy f b x
      · have cy : Cy f b y := E.trans _ _ _ hb hx hy cb h
        exact EG.trans _ _ _ hx ha hy (EG.symm _ _ ha hx (A x cb)) (A y cy)
      · obtain ⟨k, e⟩ := h
        exact ⟨k, by rw [sw_far (fun q => ca (E.symm _ _ hx ha q)) (fun q => cb (E.symm _ _ hx hb q)) k, e]⟩
  · have c1 := EG.symm _ _ hb hx (B x (E.symm _ _ hx ha h1))
    exact EG.trans _ _ _ hx ha hy (EG.trans _ _ _ hx hb ha c1 (EG.symm _ _ ha hb AB)) (A y h2)
  · have c1 := EG.symm _ _ ha hx (A x (E.symm _ _ hx hb h1))
    exact EG.trans _ _ _ hx hb hy (EG.trans _ _ _ hx ha hb c1 AB) (B y h2)
/-- one round becomes two -/
theorem sw_split (P : Pf f N) {a b : Nat} (ha : a < N) (hb : b < N) (hab : a ≠ b) (h : Cy f a b) : ¬ Cy (sw f a b) a b := by
  have E := cy_eqv P
  obtain ⟨e, ⟨he0, he⟩, hmin⟩ := least (P := fun k => 0 < k ∧ itr f k b = a) (by
    obtain ⟨k, hk⟩ := E.symm _ _ ha hb h
    refine ⟨k, Nat.pos_of_ne_zero fun z => ?_, hk⟩
    subst z
    exact hab hk.symm)
  have away : ∀ j, 0 < j → j < e → itr f j b ≠ a ∧ itr f j b ≠ b := fun j h1 h2 => by
    refine ⟨fun q => ?_, fun q => ?_⟩
    · have := hmin j ⟨h1, q⟩
      omega
    · have q2 : itr f (e - j) b = a := by
        have e3 : itr f ((e - j) + j) b = itr f (e - j) (itr f j b) := itr_add f (e - j) j b
        rw [q, Nat.sub_add_cancel (by omega), he] at e3
        exact e3.symm
      have := hmin (e - j) ⟨by omega, q2⟩
      omega
  have q := sw_path (f := f) (sw_a a b) e away
  have back : itr (sw f a b) e a = a := by rw [q e he0 (Nat.le_refl _), he]
  have many : ∀ m, itr (sw f a b) (e * m) a = a := fun m => by
    induction m with
    | zero => rfl
    | succ m ih => rw [Nat.mul_succ, itr_add, back, ih]
  rintro ⟨k, hk⟩
  have e4 : k = k % e + e * (k / e) := (Nat.mod_add_div k e).symm
  rw [e4, itr_add, many] at hk
  have hr := Nat.mod_lt k he0
  by_cases z : k % e = 0
  · rw [z] at hk
    exact hab hk
  · rw [q _ (by omega) (by omega)] at hk
    exact (away _ (by omega) hr).2 hk
theorem sw_sw {a b : Nat} (hab : a ≠ b) : sw (sw f a b) a b = f := by
  funext x
  by_cases h1 : x = a
  · subst h1
    rw [sw_a, sw_b hab]
  · by_cases h2 : x = b
    · subst h2
      rw [sw_b hab, sw_a]
    · rw [sw_o h1 h2, sw_o h1 h2]
theorem cnt_merge (P : Pf f N) {a b : Nat} (ha : a < N) (hb : b < N) (n : ¬ Cy f a b) : cnt N (Cy f) = cnt N (Cy (sw f a b)) + 1 := by
  rw [cnt_join (cy_eqv P) ha hb n]
  congr 1
  exact cnt_congr fun x y hx hy => (sw_merge P ha hb n hx hy).symm
theorem cnt_split (P : Pf f N) {a b : Nat} (ha : a < N) (hb : b < N) (hab : a ≠ b) (h : Cy f a b) : cnt N (Cy (sw f a b)) = cnt N (Cy f) + 1 := by
  have q := cnt_merge (sw_pf P ha hb hab) ha hb (sw_split P ha hb hab h)
  rw [sw_sw hab] at q
  exact q
/-! ### the number of handles -/
/-- the ends of the first i edges exchanged -/
def swN (f : Nat → Nat) : Nat → Nat → Nat
  | 0 => f
  | i + 1 => sw (swN f i) (2 * i) (2 * i + 1)
def jnN (f : Nat → Nat) : Nat → Nat → Nat → Prop
  | 0 => Cy f
  | i + 1 => joinR (jnN f i) (2 * i) (2 * i + 1)
theorem swN_pf (P : Pf f N) : ∀ i, 2 * i ≤ N → Pf (swN f i) N
  | 0, _ => P
  | i + 1, h => sw_pf (swN_pf P i (by omega)) (by omega) (by omega) (by omega)
theorem jnN_eqv (P : Pf f N) : ∀ i, 2 * i ≤ N → Eqv N (jnN f i)
  | 0, _ => cy_eqv P
  | i + 1, h => joinR_eqv (jnN_eqv P i (by omega)) (by omega) (by omega)
theorem cy_in_jn (P : Pf f N) : ∀ i, 2 * i ≤ N → ∀ x y, x < N → y < N → Cy (swN f i) x y → jnN f i x y
  | 0, _, _, _, _, _, h => h
  | i + 1, hi, x, y, hx, hy, h => by
    have q := sw_sub (swN_pf P i (by omega)) (a := 2 * i) (b := 2 * i + 1) (by omega) (by omega) (by omega) hx h
    have c := cy_in_jn P i (by omega)
    rcases q with q | ⟨q1, q2⟩ | ⟨q1, q2⟩
    · exact .inl (c x y hx hy q)
    · exact .inr (.inl ⟨c _ _ hx (by omega) q1, c _ _ (by omega) hy q2⟩)
    · exact .inr (.inr ⟨c _ _ hx (by omega) q1, c _ _ (by omega) hy q2⟩)
theorem euler_at (P : Pf f N) : ∀ i, 2 * i ≤ N → ∃ m, cnt N (Cy (swN f i)) + 2 * m = cnt N (Cy f) + i ∧ cnt N (Cy f) ≤ cnt N (jnN f i) + m
  | 0, _ => ⟨0, rfl, Nat.le_refl _⟩
  | i + 1, h => by
    obtain ⟨m, h1, h2⟩ := euler_at P i (by omega)
    have PS := swN_pf P i (by omega)
    have EJ := jnN_eqv P i (by omega)
    by_cases c : Cy (swN f i) (2 * i) (2 * i + 1)
    · have e1 := cnt_split PS (a := 2 * i) (b := 2 * i + 1) (by omega) (by omega) (by omega) c
      have e2 := cnt_join_same EJ (a := 2 * i) (b := 2 * i + 1) (by omega) (by omega) (cy_in_jn P i (by omega) _ _ (by omega) (by omega) c)
      refine ⟨m, ?_, ?_⟩
      · show cnt N (Cy (sw (swN f i) (2 * i) (2 * i + 1))) + 2 * m = _
        omega
      · show _ ≤ cnt N (joinR (jnN f i) (2 * i) (2 * i + 1)) + m
        omega
    · have e1 := cnt_merge PS (a := 2 * i) (b := 2 * i + 1) (by omega) (by omega) c
      refine ⟨m + 1, ?_, ?_⟩
      · show cnt N (Cy (sw (swN f i) (2 * i) (2 * i + 1))) + 2 * (m + 1) = _
        omega
      · show _ ≤ cnt N (joinR (jnN f i) (2 * i) (2 * i + 1)) + (m + 1)
        by_cases c2 : jnN f i (2 * i) (2 * i + 1)
        · have := cnt_join_same EJ (a := 2 * i) (b := 2 * i + 1) (by omega) (by omega) c2
          omega
        · have := cnt_join EJ (a := 2 * i) (b := 2 * i + 1) (by omega) (by omega) c2
          omega
end
end Hm
namespace Hm
/-! ### pieces -/
inductive Rch (f : Nat → Nat) : Nat → Nat → Prop where
  | refl (x : Nat) : Rch f x x
  | nx {x y : Nat} (h : Rch f x y) : Rch f x (f y)
  | tw {x y : Nat} (h : Rch f x y) : Rch f x (tw y)
section
variable {f : Nat → Nat} {N : Nat}
theorem Rch.trans {x y z : Nat} (h : Rch f x y) (g : Rch f y z) : Rch f x z := by
  induction g with
  | refl => exact h
  | nx _ ih => exact ih.nx
  | tw _ ih => exact ih.tw
theorem rch_cy {x y : Nat} (h : Cy f x y) : Rch f x y := by
  obtain ⟨k, rfl⟩ := h
  induction k with
  | zero => exact .refl x
  | succ k ih => exact ih.nx
theorem rch_lt (P : Pf f N) (hN : N % 2 = 0) {x y : Nat} (hx : x < N) (h : Rch f x y) : y < N := by
  induction h with
  | refl => exact hx
  | nx _ ih => exact P.lt _ ih
  | tw _ ih => exact tw_lt hN ih
theorem rch_symm (P : Pf f N) (hN : N % 2 = 0) {x y : Nat} (hx : x < N) (h : Rch f x y) : Rch f y x := by
  induction h with
  | refl => exact .refl x
  | @nx y h ih =>
    have hy := rch_lt P hN hx h
    have q : Cy f (f y) y := (cy_eqv P).symm _ _ hy (P.lt _ hy) ⟨1, rfl⟩
    exact (rch_cy q).trans ih
  | @tw y h ih =>
    have q : Rch f (Hm.tw y) y := by
      have := (Rch.refl (f := f) (Hm.tw y)).tw
      rwa [tw_tw] at this
    exact q.trans ih
theorem rch_eqv (P : Pf f N) (hN : N % 2 = 0) : Eqv N (Rch f) := ⟨fun x _ => .refl x, fun _ _ hx _ h => rch_symm P hN hx h, fun _ _ _ _ _ _ h g => h.trans g⟩
theorem tw_even (i : Nat) : tw (2 * i) = 2 * i + 1 := by unfold tw; rw [if_pos (by omega)]
theorem tw_odd (i : Nat) : tw (2 * i + 1) = 2 * i := by unfold tw; rw [if_neg (by omega)]; omega
theorem jn_rch (P : Pf f N) (hN : N % 2 = 0) : ∀ i, 2 * i ≤ N → ∀ x y, x < N → y < N → jnN f i x y → Rch f x y
  | 0, _, _, _, _, _, h => rch_cy h
  | i + 1, hi, x, y, hx, hy, h => by
    have ih := jn_rch P hN i (by omega)
    rcases h with h | ⟨h1, h2⟩ | ⟨h1, h2⟩
    · exact ih _ _ hx hy h
    · have q := (ih _ _ hx (by omega) h1).tw
      rw [tw_even] at q
      exact q.trans (ih _ _ (by omega) hy h2)
    · have q := (ih _ _ hx (by omega) h1).tw
      rw [tw_odd] at q
      exact q.trans (ih _ _ (by omega) hy h2)
theorem jn_mono {x y : Nat} : ∀ {i j : Nat}, i ≤ j → jnN f i x y → jnN f j x y
  | i, 0, h, q => by
    obtain rfl : i = 0 := by omega
    exact q
  | i, j + 1, h, q => by
    by_cases e : i = j + 1
    · rw [← e]
      exact q
    · exact .inl (jn_mono (by omega) q)
theorem rch_jn (P : Pf f N) {e : Nat} (hN : N = 2 * e) {x y : Nat} (hx : x < N) (h : Rch f x y) : jnN f e x y := by
  have E := jnN_eqv P e (by omega)
  induction h with
  | refl => exact E.refl x hx
  | @nx y h ih =>
    have hy := rch_lt P (by omega) hx h
    exact E.trans _ _ _ hx hy (P.lt _ hy) ih (jn_mono (Nat.zero_le _) (show jnN f 0 y (f y) from ⟨1, rfl⟩))
  | @tw y h ih =>
    have hy := rch_lt P (by omega) hx h
    refine E.trans _ _ _ hx hy (tw_lt (by omega) hy) ih ?_
    have E2 := jnN_eqv P (y / 2) (by omega)
    refine jn_mono (i := y / 2 + 1) (by omega) ?_
    by_cases c : y % 2 = 0
    · have e1 : y = 2 * (y / 2) := by omega
      have e2 : Hm.tw y = 2 * (y / 2) + 1 := by
        unfold Hm.tw
        rw [if_pos c]
        omega
      rw [e2]
      refine .inr (.inl ⟨?_, E2.refl _ (by omega)⟩)
      rw [← e1]
      exact E2.refl y hy
    · have e1 : y = 2 * (y / 2) + 1 := by omega
      have e2 : Hm.tw y = 2 * (y / 2) := by
        unfold Hm.tw
        rw [if_neg c]
        omega
      rw [e2]
      refine .inr (.inr ⟨?_, E2.refl _ (by omega)⟩)
      rw [← e1]
      exact E2.refl y hy
theorem swN_eq : ∀ i x, swN f i x = if x < 2 * i then f (tw x) else f x
  | 0, x => by
    rw [if_neg (by omega)]
    rfl
  | i + 1, x => by
    show sw (swN f i) (2 * i) (2 * i + 1) x = _
    by_cases h1 : x = 2 * i
    · subst h1
      rw [sw_a, swN_eq, if_neg (by omega), if_pos (by omega), tw_even]
    · by_cases h2 : x = 2 * i + 1
      · subst h2
        rw [sw_b (by omega), swN_eq, if_neg (by omega), if_pos (by omega), tw_odd]
      · rw [sw_o h1 h2, swN_eq]
        by_cases h3 : x < 2 * i
        · rw [if_pos h3, if_pos (by omega)]
        · rw [if_neg h3, if_neg (by omega)]
theorem cy_inv {g : Nat → Nat} (P : Pf f N) (G : Pf g N) (h : ∀ x, x < N → f (g x) = x) {x y : Nat} (hx : x < N) (hy : y < N) : Cy f x y ↔ Cy g x y := by
  have key : ∀ k z, z < N → itr f k (itr g k z) = z := fun k => by
    induction k with
    | zero => exact fun z _ => rfl
    | succ k ih =>
      intro z hz
      rw [itr_succ' f k]
      show itr f k (f (g (itr g k z))) = z
      rw [h _ (itr_lt G hz k)]
      exact ih z hz
  constructor
  · intro q
    obtain ⟨k, e⟩ := (cy_eqv P).symm _ _ hx hy q
    have e1 := key k x hx
    refine ⟨k, itr_inj P (itr_lt G hx k) hy k ?_⟩
    rw [e1, e]
  · rintro ⟨k, e⟩
    refine (cy_eqv P).symm _ _ hy hx ⟨k, ?_⟩
    rw [← e]
    exact key k x hx
end
/-- corners - edges + faces = 2 pieces - 2 handles, the number of handles not below 0 -/
theorem euler_mesh {ns : List Nat} (h : IsP ns) {e : Nat} (hN : ns.length = 2 * e) :
    ∃ g : Nat, (cycs (fn ns) ns.length ns.length).length + (cycs (fun x => tw (bk ns x)) ns.length ns.length).length + 2 * g = 2 * cnt ns.length (Rch (fn ns)) + e := by
  have P := pf_fn h
  have T := pf_turn h (by omega)
  obtain ⟨m, h1, h2⟩ := euler_at P e (by omega)
  have e1 : cnt ns.length (jnN (fn ns) e) = cnt ns.length (Rch (fn ns)) := cnt_congr fun x y hx hy => ⟨jn_rch P (by omega) e (by omega) x y hx hy, rch_jn P hN hx⟩
  have PS := swN_pf P e (by omega)
  have e2 : cnt ns.length (Cy (swN (fn ns) e)) = cnt ns.length (Cy fun x => tw (bk ns x)) := cnt_congr fun x y hx hy => cy_inv PS T (fun z hz => by
    have hb := bk_lt h hz
    rw [swN_eq, if_pos (by have := tw_lt (N := ns.length) (by omega) hb; omega), tw_tw]
    exact fn_bk h hz) hx hy
  rw [cycs_cnt P, cycs_cnt T, ← e2]
  rw [e1] at h2
  exact ⟨cnt ns.length (Rch (fn ns)) + m - cnt ns.length (Cy (fn ns)), by omega⟩
/-! ### the pieces as lists -/
noncomputable def relB (R : Nat → Nat → Prop) (x y : Nat) : Bool := @decide (R x y) (Classical.propDecidable _)
theorem relB_iff {R : Nat → Nat → Prop} {x y : Nat} : relB R x y = true ↔ R x y := by
  unfold relB
  exact @decide_eq_true_iff _ (Classical.propDecidable _)
noncomputable def pieceL (f : Nat → Nat) (N x : Nat) : List Nat := (List.range N).filter (relB (Rch f) x)
noncomputable def piecesL (f : Nat → Nat) (N n : Nat) : List (List Nat) := ((List.range n).filter (minB N (Rch f))).map (pieceL f N)
theorem piecesL_len (f : Nat → Nat) (N : Nat) : (piecesL f N N).length = cnt N (Rch f) := by
  unfold piecesL cnt
  rw [List.length_map]
theorem mem_piece {f : Nat → Nat} {N x y : Nat} : y ∈ pieceL f N x ↔ y < N ∧ Rch f x y := by
  unfold pieceL
  rw [List.mem_filter, List.mem_range, relB_iff]
/-! ### marks that are lowered -/
section
variable {f : Nat → Nat} {N : Nat}
def lowM (f : Nat → Nat) (M : Nat → Nat) (k : Nat) : Nat := min (min (M k) (M (f k))) (M (tw k))
def putM (f : Nat → Nat) (M : Nat → Nat) (k : Nat) : Nat → Nat := fun x => if x = k ∨ x = f k ∨ x = tw k then lowM f M k else M x
def sweepM (f : Nat → Nat) (M : Nat → Nat) : Nat → Nat → Nat
  | 0 => M
  | n + 1 => putM f (sweepM f M n) n
def marksM (f : Nat → Nat) (N : Nat) : Nat → Nat → Nat
  | 0 => fun x => x
  | t + 1 => sweepM f (marksM f N t) N
theorem putM_le (M : Nat → Nat) (k x : Nat) : putM f M k x ≤ M x := by
  unfold putM
  split
  · rename_i h
    unfold lowM
    rcases h with rfl | rfl | rfl <;> omega
  · exact Nat.le_refl _
theorem sweepM_le (M : Nat → Nat) : ∀ n x, sweepM f M n x ≤ M x
  | 0, _ => Nat.le_refl _
  | n + 1, x => Nat.le_trans (putM_le _ n x) (sweepM_le M n x)
theorem sweepM_mono (M : Nat → Nat) (x : Nat) : ∀ {i j : Nat}, i ≤ j → sweepM f M j x ≤ sweepM f M i x
  | i, 0, h => by
    obtain rfl : i = 0 := by omega
    exact Nat.le_refl _
  | i, j + 1, h => by
    by_cases e : i = j + 1
    · rw [e]
      exact Nat.le_refl _
    · exact Nat.le_trans (putM_le _ j x) (sweepM_mono M x (by omega))
theorem sweepM_to (M : Nat → Nat) {n k : Nat} (h : k < n) : sweepM f M n (f k) ≤ M k ∧ sweepM f M n (tw k) ≤ M k := by
  have a1 : sweepM f M (k + 1) (f k) ≤ M k := by
    show putM f (sweepM f M k) k (f k) ≤ _
    unfold putM
    rw [if_pos (.inr (.inl rfl))]
    have := sweepM_le (f := f) M k k
    unfold lowM
    omega
  have a2 : sweepM f M (k + 1) (tw k) ≤ M k := by
    show putM f (sweepM f M k) k (tw k) ≤ _
    unfold putM
    rw [if_pos (.inr (.inr rfl))]
    have := sweepM_le (f := f) M k k
    unfold lowM
    omega
  exact ⟨Nat.le_trans (sweepM_mono M _ h) a1, Nat.le_trans (sweepM_mono M _ h) a2⟩
/-- each mark is a half of the same piece -/
def InM (f : Nat → Nat) (N : Nat) (M : Nat → Nat) : Prop := ∀ x, x < N → Rch f x (M x)
theorem putM_in (P : Pf f N) (hN : N % 2 = 0) {M : Nat → Nat} (h : InM f N M) {k : Nat} (hk : k < N) : InM f N (putM f M k) := fun x hx => by
  unfold putM
  split
  · rename_i q
    have hl : Rch f k (lowM f M k) := by
      have r1 := h k hk
      have r2 : Rch f k (M (f k)) := ((Rch.refl k).nx).trans (h _ (P.lt _ hk))
      have r3 : Rch f k (M (tw k)) := ((Rch.refl k).tw).trans (h _ (tw_lt hN hk))
      unfold lowM
      rcases Nat.le_total (M k) (M (f k)) with c | c
      · rw [Nat.min_eq_left c]
        rcases Nat.le_total (M k) (M (tw k)) with d | d
        · rw [Nat.min_eq_left d]
          exact r1
        · rw [Nat.min_eq_right d]
          exact r3
      · rw [Nat.min_eq_right c]
        rcases Nat.le_total (M (f k)) (M (tw k)) with d | d
        · rw [Nat.min_eq_left d]
          exact r2
        · rw [Nat.min_eq_right d]
          exact r3
    have hxk : Rch f x k := by
      rcases q with rfl | rfl | rfl
      · exact .refl _
      · exact rch_symm P hN hk (.nx (.refl k))
      · exact rch_symm P hN hk (.tw (.refl k))
    exact hxk.trans hl
  · exact h x hx
theorem sweepM_in (P : Pf f N) (hN : N % 2 = 0) {M : Nat → Nat} (h : InM f N M) : ∀ n, n ≤ N → InM f N (sweepM f M n)
  | 0, _ => h
  | n + 1, hn => putM_in P hN (sweepM_in P hN h n (by omega)) (by omega)
theorem marksM_in (P : Pf f N) (hN : N % 2 = 0) : ∀ t, InM f N (marksM f N t)
  | 0 => fun x _ => .refl x
  | t + 1 => sweepM_in P hN (marksM_in P hN t) N (Nat.le_refl _)
theorem filter_more {p q : Nat → Bool} (h : ∀ x, p x = true → q x = true) {z : Nat} (h1 : p z = false) (h2 : q z = true) : ∀ n, ((List.range n).filter p).length + (if z < n then 1 else 0) ≤ ((List.range n).filter q).length
  | 0 => Nat.le_refl _
  | n + 1 => by
    have ih := filter_more h h1 h2 n
    rw [List.range_succ, List.filter_append, List.filter_append, List.length_append, List.length_append]
    have e0 : ∀ r : Nat → Bool, (List.filter r [n]).length = if r n = true then 1 else 0 := fun r => by
      rw [List.filter_cons]
      split <;> rfl
    rw [e0, e0]
    by_cases c : n = z
    · subst c
      rw [if_pos (Nat.lt_succ_self _), if_pos h2, if_neg (by rw [h1]; simp)]
      rw [if_neg (Nat.lt_irrefl _)] at ih
      omega
    · have e1 : (if z < n + 1 then 1 else 0) = (if z < n then 1 else 0) := by
        by_cases d : z < n
        · rw [if_pos d, if_pos (by omega)]
        · rw [if_neg d, if_neg (by omega)]
      rw [e1]
      have e2 : (if p n = true then 1 else 0) ≤ (if q n = true then 1 else 0) := by
        by_cases d : p n = true
        · rw [if_pos d, if_pos (h n d)]
          exact Nat.le_refl _
        · rw [if_neg d]
          exact Nat.zero_le _
      omega
/-- behind N sweeps each mark is the least half of its piece -/
theorem marksM_min (P : Pf f N) (hN : N % 2 = 0) {m : Nat} (hm : m < N) (hmin : minR N (Rch f) m) : ∀ y, Rch f m y → marksM f N N y = m := by
  have low : ∀ t y, Rch f m y → m ≤ marksM f N t y := fun t y h => by
    have hy := rch_lt P hN hm h
    have q := marksM_in P hN t y hy
    exact hmin _ (rch_lt P hN hy q) (h.trans q)
  have step : ∀ t y, marksM f N (t + 1) y ≤ marksM f N t y := fun t y => sweepM_le _ _ _
  have main : ∀ t, (∀ y, Rch f m y → marksM f N t y = m) ∨ t + 1 ≤ ((List.range N).filter (fun y => relB (Rch f) m y && decide (marksM f N t y = m))).length := by
    intro t
    induction t with
    | zero =>
      right
      have q := filter_more (p := fun _ => false) (q := fun y => relB (Rch f) m y && decide (marksM f N 0 y = m)) (fun x h => (nomatch h)) (z := m) rfl (by
        rw [Bool.and_eq_true]
        exact ⟨relB_iff.mpr (.refl m), decide_eq_true rfl⟩) N
      rw [if_pos hm] at q
      omega
    | succ t ih =>
      rcases ih with ih | ih
      · left
        intro y h
        have h1 := step t y
        have h2 := low (t + 1) y h
        have h3 := ih y h
        omega
      · by_cases all : ∀ y, Rch f m y → marksM f N (t + 1) y = m
        · exact .inl all
        right
        -- a half of the piece without this mark next to one with it
        have edge : ∃ z, Rch f m z ∧ marksM f N t z ≠ m ∧ marksM f N (t + 1) z = m := by
          refine Classical.byContradiction fun no => all ?_
          intro y h
          have key : marksM f N t y = m := by
            induction h with
            | refl =>
              have h1 : ∀ s, marksM f N s m = m := fun s => by
                have l := low s m (.refl m)
                have u : marksM f N s m ≤ m := by
                  induction s with
                  | zero => exact Nat.le_refl _
                  | succ s is => exact Nat.le_trans (step s m) (is (low s m (.refl m)))
                omega
              exact h1 t
            | @nx y h iy =>
              refine Classical.byContradiction fun c => no ⟨f y, h.nx, c, ?_⟩
              have a := (sweepM_to (f := f) (marksM f N t) (rch_lt P hN hm h)).1
              rw [iy] at a
              exact Nat.le_antisymm a (low (t + 1) _ h.nx)
            | @tw y h iy =>
              refine Classical.byContradiction fun c => no ⟨Hm.tw y, h.tw, c, ?_⟩
              have a := (sweepM_to (f := f) (marksM f N t) (rch_lt P hN hm h)).2
              rw [iy] at a
              exact Nat.le_antisymm a (low (t + 1) _ h.tw)
          have h1 := step t y
          have h2 := low (t + 1) y h
          omega
        obtain ⟨z, hz, z1, z2⟩ := edge
        have q := filter_more (p := fun y => relB (Rch f) m y && decide (marksM f N t y = m)) (q := fun y => relB (Rch f) m y && decide (marksM f N (t + 1) y = m)) (fun x hx => by
          rw [Bool.and_eq_true] at hx ⊢
          obtain ⟨x1, x2⟩ := hx
          have x2 := of_decide_eq_true x2
          have h1 := step t x
          have h2 := low (t + 1) x (relB_iff.mp x1)
          exact ⟨x1, decide_eq_true (by omega)⟩) (z := z) (by rw [decide_eq_false z1, Bool.and_false]) (by rw [relB_iff.mpr hz, decide_eq_true z2]; rfl) N
        rw [if_pos (rch_lt P hN hm hz)] at q
        omega
  rcases main N with h | h
  · exact h
  · have := List.length_filter_le (fun y => relB (Rch f) m y && decide (marksM f N N y = m)) (List.range N)
    rw [List.length_range] at this
    omega
/-- the least half of each piece -/
theorem piece_min (P : Pf f N) (hN : N % 2 = 0) {x : Nat} (hx : x < N) : ∃ m, m < N ∧ Rch f m x ∧ minR N (Rch f) m ∧ marksM f N N x = m := by
  obtain ⟨m, ⟨h1, h2⟩, h3⟩ := least (P := fun y => y < N ∧ Rch f x y) ⟨x, hx, .refl x⟩
  have hm : minR N (Rch f) m := fun y hy h => h3 y ⟨hy, h2.trans h⟩
  have hr := rch_symm P hN hx h2
  exact ⟨m, h1, hr, hm, marksM_min P hN h1 hm x hr⟩
theorem marks_first (P : Pf f N) (hN : N % 2 = 0) {x : Nat} (hx : x < N) : marksM f N N x = x ↔ minR N (Rch f) x := by
  constructor
  · intro h
    obtain ⟨m, _, _, h3, h4⟩ := piece_min P hN hx
    rw [h] at h4
    rw [h4]
    exact h3
  · intro h
    exact marksM_min P hN hx h x (.refl x)
theorem marks_same (P : Pf f N) (hN : N % 2 = 0) {m x : Nat} (hm : m < N) (h : minR N (Rch f) m) (hx : x < N) : marksM f N N x = m ↔ Rch f m x := by
  constructor
  · intro e
    have := marksM_in P hN N x hx
    rw [e] at this
    exact rch_symm P hN hx this
  · exact marksM_min P hN hm h x
end
/-! ### a piece by a stack -/
structure Stk (f : Nat → Nat) (s : Nat) (seen todo : List Nat) : Prop where
  st : ∀ x ∈ seen, Rch f s x
  tt : ∀ x ∈ todo, Rch f s x
  s0 : s ∈ seen ∨ s ∈ todo
  nx : ∀ x ∈ seen, f x ∈ seen ∨ f x ∈ todo
  tw : ∀ x ∈ seen, tw x ∈ seen ∨ tw x ∈ todo
theorem stk_end {f : Nat → Nat} {s : Nat} {seen : List Nat} (h : Stk f s seen []) {x : Nat} : x ∈ seen ↔ Rch f s x := by
  refine ⟨h.st x, fun q => ?_⟩
  have no : ∀ y, ¬ y ∈ ([] : List Nat) := fun y hy => (nomatch hy)
  induction q with
  | refl => exact h.s0.resolve_right (no _)
  | nx _ ih => exact (h.nx _ ih).resolve_right (no _)
  | tw _ ih => exact (h.tw _ ih).resolve_right (no _)
end Hm
namespace Hm
open PySem PySem.Spec PyProof.Rows L2 Evl
/-! ### d.update(d2), l.pop(), min of three -/
def rUpd : V → List V → Hp → VK → Prop := fun x xs H Q => ∃ (a b : Addr) (kvs more : List (Key × V)), x = .ref a ∧ xs = [.ref b] ∧ a ≠ b ∧ H a = some (.dK kvs) ∧ H b = some (.dK more) ∧ kvs.length + more.length ≤ 100000 ∧ Q .non (upd H a (.dK (mergeK kvs more)))
theorem mt_update {X : Cx} : MtR X "dict.update" rUpd := by
  intro pins s σ H x xs v us Q I rx rxs h
  obtain ⟨a, b, kvs, more, rfl, rfl, hab, ha, hb, hz, q⟩ := h
  cases rx
  cases rxs with
  | cons rb rr =>
    cases rr
    cases rb
    obtain ⟨z1, hd1, vs1, rel1, dd1⟩ := dk_of I.hok ha
    obtain ⟨z2, hd2, vs2, rel2, dd2⟩ := dk_of I.hok hb
    have hsz : vs1.length + vs2.length ≤ sizeLine := by
      rw [← rel1.length, ← rel2.length]
      exact sz_of hz
    refine call_meetsIn PySem.F.slot_dict_update dd1.typeIs PySem.F.entry_dict_update (PySem.F.args_dict_update_2 _ _) (meets_dict_update (mixKind X.prog X.w) a b hab hd2) ⟨vs1, vs2, dd1, dd2, hsz, fun h' dd1' dd2' hs => ?_⟩
    have he : ∃ q, h'.get? a = some q := let ⟨q, _, _, hq, _⟩ := dd1'; ⟨q, hq⟩
    have hl : (mergeK kvs more).length ≤ sizeLine := Nat.le_trans (length_mergeK more kvs) (sz_of hz)
    show EP X pins σ Q Value.none _
    exact ⟨.non, _, d_write (t' := s.toks) I (by rw [ha]; exact True.intro) hs he (dk_new hl hd1 (rel2.merge rel1) dd1'), rfl, q⟩
end Hm
namespace Hm
open PySem PySem.Spec PyProof.Rows L2 Evl
/-! ### an empty list is false; pop -/
def tTruL (K : PySem.W.Frag) (te : TE) : TT := fun σ H Q => te σ H fun x H' => ∃ k, TruV K x H' k ∧ Q k H'
theorem pt_truL {X : Cx} {e : Expr} {te : TE} (he : PE X e te) (hp : ∀ whole, isTrue e X.env whole = (do let v ← whole; standAt e.pos; holding [v] (truthy v)) := by intro _; rfl) : PT X e (tTruL X.K te) := pt_truth he hp
theorem et_truL {K : PySem.W.Frag} {σ : L2.St} {H : Hp} {te : TE} {p : Addr} {xs : List V} (h : Ev te σ H (.ref p)) (hS : SqL K H p xs) : EvT (tTruL K te) σ H (!xs.isEmpty) := fun H1 e Q q =>
  h H1 e _ fun H2 e2 => ⟨_, .inl ⟨xs, ex_l (e.trans e2) hS, rfl⟩, q H2 e2⟩
theorem q_pop {K : PySem.W.Frag} {σ : L2.St} {H : Hp} {te : TE} {tz : TS} {D : Ends} {i : Nat} {l : Addr} {xs : List V} {y : V} (h : Ev te σ H (.ref l)) (hl : H l = some (.lst (xs ++ [y]))) (k : ∀ H1, Ex H H1 → tz D (σ.set i (some y)) (upd H1 l (.lst xs))) :
    tSeq (tAsg (tBM0 K "list" rPop te) (gName i)) tz D σ H := h H (Ex.refl H) _ fun H1 e1 =>
  ⟨Or.inl ⟨rfl, _, sq_of (e1 _ _ hl)⟩, l, _, y, rfl, rfl, e1 _ _ hl, by simp, by rw [List.dropLast_concat]; exact k H1 e1⟩
abbrev rIsNon : R2 := fun x y H Q => y = .non ∧ Q (.bl (decide (x = .non))) H
abbrev cTup (K : PySem.W.Frag) : CR1 := fun xs H Q => ∃ p ys, xs = [.ref p] ∧ ((SqL K H p ys ∧ ∀ l, H l = none → Q (.ref l) (upd H l (.tup ys))) ∨ (SqT K H p ys ∧ Q (.ref p) H))
end Hm
namespace Hm
open PySem PySem.Spec PyProof.Rows L2 Evl
/-! ### the program: one round -/
theorem vi_eq {a b : Nat} : decide (vi a = vi b) = decide (a = b) := by
  by_cases h : a = b
  · rw [h, decide_eq_true rfl, decide_eq_true rfl]
  · have e : ¬ vi a = vi b := fun q => h (Int.ofNat.inj (V.int.inj q))
    rw [decide_eq_false h, decide_eq_false e]
def sp_isoneround (K : PySem.W.Frag) : Sp := fun vs H Q _ => ∃ (p : Addr) (ns : List Nat) (a b : Nat), vs = [.ref p, vi a, vi b] ∧ SqL K H p (L ns) ∧ IsP ns ∧ a < ns.length ∧ b < ns.length ∧ ∀ H', Ex H H' → Q (.bl (decide (b ∈ rnd (fn ns) ns.length a))) H'
abbrev nm_isoneround : List Str := ["links", "first", "second", "half"]
abbrev pr_isoneround : List Str := ["links", "first", "second"]
def t_isoneround (K : PySem.W.Frag) : TS :=
  (tSeq (tAsg (tOp (rIxL K) (tVar 0) (tVar 1)) (gName 3))
  (tSeq (tWhile (tAnd (tTest (tOp rNe (tVar 3) (tVar 1))) (tTest (tOp rNe (tVar 3) (tVar 2)))) (tAsg (tOp (rIxL K) (tVar 0) (tVar 3)) (gName 3)))
  (tRet (tOp rEq (tVar 3) (tVar 2)))))
abbrev Wt_isoneround (K : PySem.W.Frag) (vs : List V) (H : Hp) (Q : VK) : Prop := t_isoneround K { nx := fun _ H' => Q .non H', rt := Q } (start nm_isoneround vs) H
theorem ln_isoneround {K : PySem.W.Frag} (vs : List V) (H : Hp) (Q : VK) (E : XK) (h : sp_isoneround K vs H Q E) : vs.length = pr_isoneround.length := by
  obtain ⟨_, _, _, _, rfl, _⟩ := h
  rfl
theorem rd_isoneround {K : PySem.W.Frag} (F : KF K) (vs : List V) (H : Hp) (Q : VK) (E : XK) (h : sp_isoneround K vs H Q E) : Wt_isoneround K vs H Q := by
  obtain ⟨p, ns, a, b, rfl, hS, hP, ha, hb, k⟩ := h
  show t_isoneround K _ [some (.ref p), some (vi a), some (vi b), none] H
  have P := pf_fn hP
  obtain ⟨s1, s2, s3⟩ := per_spec P ha
  have pp := per_pos (fn ns) ns.length a
  refine q_asg (v := vi (itr (fn ns) 1 a)) (ev_op (ev_var rfl) (ev_var rfl) (rv_ixL hS (L_at ha))) (fun H1 e1 => ?_)
  refine q_while (fun m σ' H' => ∃ n : Nat, m = per (fn ns) ns.length a - n ∧ n + 1 ≤ per (fn ns) ns.length a ∧ σ' = [some (.ref p), some (vi a), some (vi b), some (vi (itr (fn ns) (n + 1) a))] ∧ Ex H H' ∧ ∀ j, 0 < j → j ≤ n → itr (fn ns) j a ≠ a ∧ itr (fn ns) j a ≠ b) _ ⟨0, rfl, pp, rfl, e1, fun j h1 h2 => by omega⟩ ?_
  rintro m σ' H2 ⟨n, rfl, hn, rfl, x2, no⟩
  refine ⟨!decide (itr (fn ns) (n + 1) a = a) && !decide (itr (fn ns) (n + 1) a = b), et_and (et_is (et_test (ev_op (ev_var rfl) (ev_var rfl) (rv_ne rfl))) (by rw [vi_eq])) (fun _ => et_is (et_test (ev_op (ev_var rfl) (ev_var rfl) (rv_ne rfl))) (by rw [vi_eq])), fun hc H3 e3 => ?_, fun hc H3 e3 => ?_⟩
  · rw [Bool.and_eq_true, Bool.not_eq_true', Bool.not_eq_true', decide_eq_false_iff_not, decide_eq_false_iff_not] at hc
    have lt : n + 1 < per (fn ns) ns.length a := Nat.lt_of_le_of_ne hn (fun q => hc.1 (by rw [q, s1]))
    refine ⟨_, fun σ2 H2 hw => hw, ?_⟩
    refine s_asg (v := vi (itr (fn ns) (n + 1 + 1) a)) (ev_op (ev_var rfl) (ev_var rfl) (rv_ixL (ex_l (x2.trans e3) hS) (L_at (itr_lt P ha (n + 1))))) (fun H4 e4 => ?_)
    refine ⟨per (fn ns) ns.length a - (n + 1), by omega, n + 1, rfl, lt, rfl, (x2.trans e3).trans e4, fun j h1 h2 => ?_⟩
    by_cases q : j = n + 1
    · rw [q]
      exact hc
    · exact no j h1 (by omega)
  · refine s_ret (ev_is (w := .bl (decide (b ∈ rnd (fn ns) ns.length a))) (ev_op (ev_var rfl) (ev_var rfl) (rv_eq rfl)) ?_) (fun H4 e4 => k H4 ((x2.trans e3).trans e4))
    rw [vi_eq]
    congr 1
    by_cases q : itr (fn ns) (n + 1) a = b
    · rw [decide_eq_true q, decide_eq_true ((mem_rnd P ha).mpr ⟨n + 1, q⟩)]
    · rw [decide_eq_false q]
      have z : itr (fn ns) (n + 1) a = a := Classical.byContradiction fun w => by
        rw [decide_eq_false w, decide_eq_false q] at hc
        cases hc
      have pe : per (fn ns) ns.length a = n + 1 := Nat.le_antisymm (Nat.le_of_not_lt fun w => s3 (n + 1) (Nat.succ_pos _) w z) hn
      rw [decide_eq_false]
      intro hm
      unfold rnd at hm
      obtain ⟨j, hj, e⟩ := List.mem_map.mp hm
      have hj := List.mem_range.mp hj
      by_cases j0 : j = 0
      · subst j0
        exact q (z.trans e)
      · exact (no j (by omega) (by omega)).2 e
theorem spv_isoneround {K : PySem.W.Frag} {H : Hp} {p : Addr} {ns : List Nat} {a b : Nat} (hS : SqL K H p (L ns)) (hP : IsP ns) (ha : a < ns.length) (hb : b < ns.length) : SpV (sp_isoneround K) [.ref p, vi a, vi b] H (.bl (decide (b ∈ rnd (fn ns) ns.length a))) := fun H1 e Q q E => ⟨p, ns, a, b, rfl, ex_l e hS, hP, ha, hb, q⟩
def sp_Meshisoneface (K : PySem.W.Frag) : Sp := fun vs H Q _ => ∃ (x : Addr) (ns : List Nat) (a b : Nat), vs = [.ref x, vi a, vi b] ∧ MeshAt K H x ns ∧ MP ns ∧ a < ns.length ∧ b < ns.length ∧ ∀ H', Ex H H' → Q (.bl (decide (b ∈ rnd (stp ns true) ns.length a))) H'
abbrev nm_Meshisoneface : List Str := ["self", "first", "second"]
abbrev pr_Meshisoneface : List Str := ["self", "first", "second"]
def t_Meshisoneface (K : PySem.W.Frag) : TS :=
  (tRet (tCall (sp_isoneround K) [] E0 (tCons (tFld K (tVar 0) "_nexts") (tCons (tVar 1) (tCons (tVar 2) tNil)))))
abbrev Wt_Meshisoneface (K : PySem.W.Frag) (vs : List V) (H : Hp) (Q : VK) : Prop := t_Meshisoneface K { nx := fun _ H' => Q .non H', rt := Q } (start nm_Meshisoneface vs) H
theorem ln_Meshisoneface {K : PySem.W.Frag} (vs : List V) (H : Hp) (Q : VK) (E : XK) (h : sp_Meshisoneface K vs H Q E) : vs.length = pr_Meshisoneface.length := by
  obtain ⟨_, _, _, _, rfl, _⟩ := h
  rfl
theorem rd_Meshisoneface {K : PySem.W.Frag} (F : KF K) (vs : List V) (H : Hp) (Q : VK) (E : XK) (h : sp_Meshisoneface K vs H Q E) : Wt_Meshisoneface K vs H Q := by
  obtain ⟨x, ns, a, b, rfl, ⟨dx, l1, l2, l3, q1, q2, q3, q4⟩, hM, ha, hb, k⟩ := h
  show t_Meshisoneface K _ [some (.ref x), some (vi a), some (vi b)] H
  exact s_ret (ev_call (ea_cons (ev_fld (ev_var rfl) q1 F.cl F.n1 (mfs_n _ _ _)) (ea_2 (ev_var rfl) (ev_var rfl))) (spv_isoneround (sq_of q2) hM.p ha hb)) (fun H1 e1 => k H1 e1)
def sp_Meshisonecorner (K : PySem.W.Frag) : Sp := fun vs H Q _ => ∃ (x : Addr) (ns : List Nat) (a b : Nat), vs = [.ref x, vi a, vi b] ∧ MeshAt K H x ns ∧ MP ns ∧ a < ns.length ∧ b < ns.length ∧ ∀ H', Ex H H' → Q (.bl (decide (b ∈ rnd (stp ns false) ns.length a))) H'
abbrev nm_Meshisonecorner : List Str := ["self", "first", "second"]
abbrev pr_Meshisonecorner : List Str := ["self", "first", "second"]
def t_Meshisonecorner (K : PySem.W.Frag) : TS :=
  (tRet (tCall (sp_isoneround K) [] E0 (tCons (tFld K (tVar 0) "_turns") (tCons (tVar 1) (tCons (tVar 2) tNil)))))
abbrev Wt_Meshisonecorner (K : PySem.W.Frag) (vs : List V) (H : Hp) (Q : VK) : Prop := t_Meshisonecorner K { nx := fun _ H' => Q .non H', rt := Q } (start nm_Meshisonecorner vs) H
theorem ln_Meshisonecorner {K : PySem.W.Frag} (vs : List V) (H : Hp) (Q : VK) (E : XK) (h : sp_Meshisonecorner K vs H Q E) : vs.length = pr_Meshisonecorner.length := by
  obtain ⟨_, _, _, _, rfl, _⟩ := h
  rfl
theorem rd_Meshisonecorner {K : PySem.W.Frag} (F : KF K) (vs : List V) (H : Hp) (Q : VK) (E : XK) (h : sp_Meshisonecorner K vs H Q E) : Wt_Meshisonecorner K vs H Q := by
  obtain ⟨x, ns, a, b, rfl, ⟨dx, l1, l2, l3, q1, q2, q3, q4⟩, hM, ha, hb, k⟩ := h
  show t_Meshisonecorner K _ [some (.ref x), some (vi a), some (vi b)] H
  have e : rnd (fn (turns ns)) (turns ns).length a = rnd (stp ns false) ns.length a := by
    have h3 := pf_fn (isP_turns hM.p hM.two)
    rw [turns_len] at h3 ⊢
    exact rnd_congr h3 (fun z hz => fn_turns hz) ha
  refine s_ret (ev_call (ea_cons (ev_fld (ev_var rfl) q1 F.cl F.n3 (mfs_t _ _ _)) (ea_2 (ev_var rfl) (ev_var rfl))) (spv_isoneround (sq_of q4) (isP_turns hM.p hM.two) (by rw [turns_len]; exact ha) (by rw [turns_len]; exact hb))) (fun H1 e1 => ?_)
  rw [e]
  exact k H1 e1
def sp_Meshedges (K : PySem.W.Frag) : Sp := fun vs H Q _ => ∃ (x : Addr) (ns : List Nat), vs = [.ref x] ∧ MeshAt K H x ns ∧ ∀ H', Ex H H' → Q (vi (ns.length / 2)) H'
abbrev nm_Meshedges : List Str := ["self"]
abbrev pr_Meshedges : List Str := ["self"]
def t_Meshedges (K : PySem.W.Frag) : TS :=
  (tRet (tOp zDiv (tCB (cLen K) (tCons (tFld K (tVar 0) "_nexts") tNil)) (tC (.int 2))))
abbrev Wt_Meshedges (K : PySem.W.Frag) (vs : List V) (H : Hp) (Q : VK) : Prop := t_Meshedges K { nx := fun _ H' => Q .non H', rt := Q } (start nm_Meshedges vs) H
theorem ln_Meshedges {K : PySem.W.Frag} (vs : List V) (H : Hp) (Q : VK) (E : XK) (h : sp_Meshedges K vs H Q E) : vs.length = pr_Meshedges.length := by
  obtain ⟨_, _, rfl, _⟩ := h
  rfl
theorem rd_Meshedges {K : PySem.W.Frag} (F : KF K) (vs : List V) (H : Hp) (Q : VK) (E : XK) (h : sp_Meshedges K vs H Q E) : Wt_Meshedges K vs H Q := by
  obtain ⟨x, ns, rfl, ⟨dx, l1, l2, l3, q1, q2, q3, q4⟩, k⟩ := h
  show t_Meshedges K _ [some (.ref x)] H
  refine s_ret (v := vi (ns.length / 2)) (ev_is (ev_op (ev_cb (ea_1 (ev_fld (ev_var rfl) q1 F.cl F.n1 (mfs_n _ _ _))) (rc_len (sq_of q2))) ev_c (rv_I ⟨by decide, by decide⟩)) ?_) (fun H1 e1 => k H1 e1)
  rw [L_len]
  congr 1
  rw [Int.fdiv_eq_ediv_of_nonneg _ (by decide)]
  omega
end Hm
namespace Hm
open PySem PySem.Spec PyProof.Rows L2 Evl
/-! ### the program: a piece by a stack -/
def rSortDI : CR1 := fun xs H Q => ∃ (a : Addr) (kvs : List (Key × V)) (ks : List Int), xs = [.ref a] ∧ Rd H a (.dK kvs) ∧ kvs.map (·.1) = ks.map Sum.inl ∧ ks.length < 64 ∧
    ∀ (ys : List Int) (p : Addr), ys.Perm ks → ys.Pairwise (· ≤ ·) → H p = none → Q (.ref p) (upd H p (.lst (ys.map V.int)))
/-- a dict whose keys are these, each with True -/
def kdT (ks : List Nat) : List (Key × V) := ks.map fun h : Nat => ((.inl (h : Int) : Key), V.bl true)
theorem kdT_val (h : Nat) : ∀ ks : List Nat, (valV (kdT ks) (.inl (h : Int))).isSome = decide (h ∈ ks)
  | [] => by
    rw [decide_eq_false (by simp)]
    rfl
  | a :: r => by
    have ih := kdT_val h r
    show (valV (((.inl (a : Int) : Key), V.bl true) :: kdT r) (.inl (h : Int))).isSome = _
    by_cases e : a = h
    · subst e
      rw [valV_pos rfl]
      simp
    · have ne : ¬ ((Sum.inl (a : Int) : Key) = Sum.inl (h : Int)) := fun z => e (by have := Sum.inl.inj z; omega)
      rw [valV_neg ne, ih]
      by_cases q : h ∈ r
      · simp [q]
      · simp [q, Ne.symm e]
theorem kdT_put {h : Nat} {ks : List Nat} (q : h ∉ ks) : putK (kdT ks) (.inl (h : Int)) (.bl true) = kdT (ks ++ [h]) := by
  have n : valV (kdT ks) (.inl (h : Int)) = none := by
    have := kdT_val h ks
    rw [decide_eq_false q] at this
    cases c : valV (kdT ks) (.inl (h : Int)) with
    | none => rfl
    | some v =>
      rw [c] at this
      cases this
  rw [putK_new _ n]
  unfold kdT
  rw [List.map_append]
  rfl
theorem kdT_len (ks : List Nat) : (kdT ks).length = ks.length := List.length_map ..
theorem kdT_keys (ks : List Nat) : (kdT ks).map (·.1) = (ks.map fun h : Nat => (h : Int)).map Sum.inl := by
  unfold kdT
  rw [List.map_map, List.map_map]
  rfl
theorem piece_sorted (f : Nat → Nat) (N s : Nat) : (pieceL f N s).Pairwise (· ≤ ·) := by
  unfold pieceL
  exact (List.pairwise_le_range).filter _
theorem piece_nodup (f : Nat → Nat) (N s : Nat) : (pieceL f N s).Nodup := by
  unfold pieceL
  exact List.nodup_range.filter _
theorem ev_ret_sort {σ : L2.St} {H : Hp} {te : TE} {D : Ends} {d : Addr} {kvs : List (Key × V)} {ks r : List Int} (h : Ev te σ H (.ref d)) (hd : H d = some (.dK kvs)) (hk : kvs.map (·.1) = ks.map Sum.inl) (hl : ks.length < 64) (hu : ∀ ns' : List Int, ns'.Perm ks → ns'.Pairwise (· ≤ ·) → ns' = r)
    (k : ∀ p H1, H p = none → Ex H H1 → H1 p = some (.lst (r.map V.int)) → D.rt (.ref p) H1) : tRet (tCB rSortDI (tCons te tNil)) D σ H := h H (Ex.refl H) _ fun H1 e1 =>
  ⟨d, kvs, ks, rfl, .inl (e1 _ _ hd), hk, hl, fun ys p h1 h2 hp => by
    rw [hu ys h1 h2]
    exact k p _ (fresh_back e1 hp) (e1.trans (Ex.new hp)) upd_same⟩
def sp_Meshpiece (K : PySem.W.Frag) : Sp := fun vs H Q _ => ∃ (x : Addr) (ns : List Nat) (s : Nat), vs = [.ref x, vi s] ∧ MeshAt K H x ns ∧ MP ns ∧ s < ns.length ∧ ns.length < 64 ∧ ∀ p H', H p = none → Ex H H' → H' p = some (.lst (L (pieceL (fn ns) ns.length s))) → Q (.ref p) H'
abbrev nm_Meshpiece : List Str := ["self", "start", "seen", "todo", "half"]
abbrev pr_Meshpiece : List Str := ["self", "start"]
def t_Meshpiece (K : PySem.W.Frag) : TS :=
  (tSeq (tAsg tDNewK (gName 2))
  (tSeq (tAsg (tLst (tCons (tVar 1) tNil)) (gName 3))
  (tSeq (tWhile (tTruL K (tVar 3)) (tSeq (tAsg (tBM0 K "list" rPop (tVar 3)) (gName 4))
      (tIfS (tB (tDNotIn (tVar 4) (tVar 2))) (tSeq (sDPut (tVar 2) (tVar 4) (tC (.bl true)))
        (tSeq (tDrop (tBM K "list" rAppend (tVar 3) (tCons (tOp (rIxL K) (tFld K (tVar 0) "_nexts") (tVar 4)) tNil)))
        (tDrop (tBM K "list" rAppend (tVar 3) (tCons (tOp zXor (tVar 4) (tC (.int 1))) tNil))))) tNext)))
  (tRet (tCB rSortDI (tCons (tVar 2) tNil))))))
abbrev Wt_Meshpiece (K : PySem.W.Frag) (vs : List V) (H : Hp) (Q : VK) : Prop := t_Meshpiece K { nx := fun _ H' => Q .non H', rt := Q } (start nm_Meshpiece vs) H
theorem ln_Meshpiece {K : PySem.W.Frag} (vs : List V) (H : Hp) (Q : VK) (E : XK) (h : sp_Meshpiece K vs H Q E) : vs.length = pr_Meshpiece.length := by
  obtain ⟨_, _, _, rfl, _⟩ := h
  rfl
theorem rd_Meshpiece {K : PySem.W.Frag} (F : KF K) (vs : List V) (H : Hp) (Q : VK) (E : XK) (h : sp_Meshpiece K vs H Q E) : Wt_Meshpiece K vs H Q := by
  obtain ⟨x, ns, s, rfl, hm, hM, hs, h64, k⟩ := h
  show t_Meshpiece K _ [some (.ref x), some (vi s), none, none, none] H
  have P := pf_fn hM.p
  have two := hM.two
  refine q_asgD (fun d hd => ?_)
  refine q_asgL (el_lst (ea_1 (ev_var rfl)) (by show 1 ≤ 100000; decide)) (fun t H1 ht e1 h1 => ?_)
  have hdt : d ≠ t := ne_of_none upd_same ht
  have x1 : Ex H H1 := (Ex.new hd).trans e1
  have ht0 : H t = none := fresh_back (Ex.new hd) ht
  refine q_while (fun m σ' H' => ∃ (ks todo : List Nat) (v4 : Option V), m = 3 * (ns.length - ks.length) + todo.length ∧ Stk (fn ns) s ks todo ∧ ks.Nodup ∧ (∀ y ∈ ks, y < ns.length) ∧ (∀ y ∈ todo, y < ns.length) ∧ todo.length ≤ 2 * ks.length + 1 ∧
    σ' = [some (.ref x), some (vi s), some (.ref d), some (.ref t), v4] ∧ Ex H H' ∧ H' d = some (.dK (kdT ks)) ∧ H' t = some (.lst (L todo))) _ ⟨[], [s], none, rfl, ⟨fun _ h => (nomatch h), fun y hy => by rw [List.mem_singleton.mp hy]; exact .refl s, .inr (List.mem_singleton.mpr rfl), fun _ h => (nomatch h), fun _ h => (nomatch h)⟩, List.nodup_nil, fun _ h => (nomatch h), fun y hy => by rw [List.mem_singleton.mp hy]; exact hs, by show 1 ≤ _; omega, rfl, x1, by rw [e1 _ _ upd_same]; rfl, h1⟩ ?_
  rintro m σ' H2 ⟨ks, todo, v4, rfl, S, nd, kl, tl, tz, rfl, x2, a1, a2⟩
  have kle : ks.length ≤ ns.length := nodup_le _ _ nd kl
  refine ⟨!(L todo).isEmpty, et_truL (ev_var rfl) (sq_of a2), fun hb H3 e3 => ?_, fun hb H3 e3 => ?_⟩
  · rcases List.eq_nil_or_concat todo with rfl | ⟨r, h, ec⟩
    · cases hb
    rw [List.concat_eq_append] at ec
    subst ec
    have hh : h < ns.length := tl h (List.mem_append_right _ (List.mem_singleton.mpr rfl))
    have rl : ∀ y ∈ r, y < ns.length := fun y hy => tl y (List.mem_append_left _ hy)
    have hr := S.tt h (List.mem_append_right _ (List.mem_singleton.mpr rfl))
    refine ⟨_, fun σ2 H2 hw => hw, ?_⟩
    have a3 : H3 t = some (.lst (L r ++ [vi h])) := by
      rw [e3 _ _ a2, L_app]
      rfl
    refine q_pop (ev_var rfl) a3 (fun H4 e4 => ?_)
    have x4 : Ex H (upd H4 t (.lst (L r))) := ((x2.trans e3).trans e4).mut ht0
    have d4 : (upd H4 t (.lst (L r))) d = some (.dK (kdT ks)) := by
      rw [upd_ne hdt]
      exact e4 _ _ (e3 _ _ a1)
    refine s_when (et_B (ev_dnin (ev_var rfl) (ev_var rfl) d4)) (fun hb H5 e5 => ?_) (fun hb H5 e5 => ?_)
    · have q : h ∉ ks := fun z => by
        rw [kdT_val, decide_eq_true z] at hb
        cases hb
      have x5 := x4.trans e5
      have hklt : ks.length < ns.length := by
        have := nodup_le ns.length (ks ++ [h]) (by
          rw [List.nodup_append]
          exact ⟨nd, by simp, fun a ha b hb e => q (by rw [← List.mem_singleton.mp hb, ← e]; exact ha)⟩) (fun y hy => by
          rcases List.mem_append.mp hy with hy | hy
          · exact kl y hy
          · rw [List.mem_singleton.mp hy]
            exact hh)
        rw [List.length_append] at this
        exact this
      refine q_dput ev_c (ev_var rfl) (ev_var rfl) (e5 _ _ d4) (by rw [kdT_len]; have := hM.len; omega) (fun H6 e6 => ?_)
      rw [kdT_put q]
      have x6 : Ex H (upd H6 d (.dK (kdT (ks ++ [h])))) := (x5.trans e6).mut hd
      have t6 : (upd H6 d (.dK (kdT (ks ++ [h])))) t = some (.lst (L r)) := by
        rw [upd_ne hdt.symm]
        exact e6 _ _ (e5 _ _ upd_same)
      obtain ⟨dx, l1, l2, l3, q1, q2, q3, q4⟩ := hm.ex x6
      have tlen : r.length + 1 ≤ 2 * ks.length + 1 := by
        rw [List.length_append] at tz
        exact tz
      have := hM.len
      refine q_app t6 (ev_var rfl) (ev_op (ev_fld (ev_var rfl) q1 F.cl F.n1 (mfs_n _ _ _)) (ev_var rfl) (rv_ixL (sq_of q2) (L_at hh))) (by rw [L_len]; omega) (fun H7 e7 => ?_)
      refine s_app upd_same (ev_var rfl) (ev_is (w := vi (tw h)) (ev_op (ev_var rfl) ev_c rv_I0) (by show V.int (Builtin.bitXor (h : Int) 1) = _; rw [xor_tw])) (by rw [List.length_append, L_len]; show r.length + 1 < 100000; omega) (fun H8 e8 => ?_)
      have move : ∀ {y : Nat}, y ∈ ks ∨ y ∈ r ++ [h] → y ∈ ks ++ [h] ∨ y ∈ r ++ [fn ns h, tw h] := fun z => by
        rcases z with z | z
        · exact .inl (List.mem_append_left _ z)
        · rcases List.mem_append.mp z with z | z
          · exact .inr (List.mem_append_left _ z)
          · exact .inl (List.mem_append_right _ z)
      have hf := P.lt h hh
      have ht' := tw_lt two hh
      refine ⟨_, ?_, ks ++ [h], r ++ [fn ns h, tw h], _, rfl, ?_, ?_, ?_, ?_, ?_, rfl, ?_, ?_, ?_⟩
      · rw [List.length_append, List.length_append, List.length_append]
        show 3 * (ns.length - (ks.length + 1)) + (r.length + 2) < 3 * (ns.length - ks.length) + (r.length + 1)
        omega
      · refine ⟨fun y hy => ?_, fun y hy => ?_, ?_, fun y hy => ?_, fun y hy => ?_⟩
        · rcases List.mem_append.mp hy with hy | hy
          · exact S.st y hy
          · rw [List.mem_singleton.mp hy]
            exact hr
        · rcases List.mem_append.mp hy with hy | hy
          · exact S.tt y (List.mem_append_left _ hy)
          · rcases List.mem_cons.mp hy with hy | hy
            · rw [hy]
              exact hr.nx
            · rw [List.mem_singleton.mp hy]
              exact hr.tw
        · exact move S.s0
        · rcases List.mem_append.mp hy with hy | hy
          · exact move (S.nx y hy)
          · rw [List.mem_singleton.mp hy]
            exact .inr (List.mem_append_right _ (List.mem_cons_self ..))
        · rcases List.mem_append.mp hy with hy | hy
          · exact move (S.tw y hy)
          · rw [List.mem_singleton.mp hy]
            exact .inr (List.mem_append_right _ (List.mem_cons_of_mem _ (List.mem_cons_self ..)))
      · rw [List.nodup_append]
        exact ⟨nd, by simp, fun a ha b hb e => q (by rw [← List.mem_singleton.mp hb, ← e]; exact ha)⟩
      · intro y hy
        rcases List.mem_append.mp hy with hy | hy
        · exact kl y hy
        · rw [List.mem_singleton.mp hy]
          exact hh
      · intro y hy
        rcases List.mem_append.mp hy with hy | hy
        · exact rl y hy
        · rcases List.mem_cons.mp hy with hy | hy
          · rw [hy]
            exact hf
          · rw [List.mem_singleton.mp hy]
            exact ht'
      · rw [List.length_append, List.length_append]
        show r.length + 2 ≤ 2 * (ks.length + 1) + 1
        omega
      · exact (((x6.trans e7).mut ht0).trans e8).mut ht0
      · rw [upd_ne hdt]
        refine e8 _ _ ?_
        rw [upd_ne hdt]
        exact e7 _ _ upd_same
      · rw [upd_same, L_app, List.append_assoc]
        rfl
    · have q : h ∈ ks := Classical.byContradiction fun z => by
        rw [kdT_val, decide_eq_false z] at hb
        cases hb
      have stay : ∀ {y : Nat}, y ∈ ks ∨ y ∈ r ++ [h] → y ∈ ks ∨ y ∈ r := fun z => by
        rcases z with z | z
        · exact .inl z
        · rcases List.mem_append.mp z with z | z
          · exact .inr z
          · rw [List.mem_singleton.mp z]
            exact .inl q
      refine ⟨_, ?_, ks, r, _, rfl, ⟨S.st, fun y hy => S.tt y (List.mem_append_left _ hy), stay S.s0, fun y hy => stay (S.nx y hy), fun y hy => stay (S.tw y hy)⟩, nd, kl, rl, ?_, rfl, x4.trans e5, e5 _ _ d4, e5 _ _ upd_same⟩
      · rw [List.length_append]
        show _ < _ + (r.length + 1)
        omega
      · rw [List.length_append] at tz
        have : r.length + 1 ≤ 2 * ks.length + 1 := tz
        omega
  · have e0 : todo = [] := by
      cases todo with
      | nil => rfl
      | cons a r => cases hb
    subst e0
    have hk : ∀ y, y ∈ ks ↔ y ∈ pieceL (fn ns) ns.length s := fun y => by
      rw [mem_piece, stk_end S]
      exact ⟨fun h => ⟨rch_lt P two hs h, h⟩, fun h => h.2⟩
    have pm : ks.Perm (pieceL (fn ns) ns.length s) := (List.perm_ext_iff_of_nodup nd (piece_nodup _ _ _)).mpr hk
    obtain ⟨r, r1, r2, r3⟩ := sort_ex (ks.map fun h : Nat => (h : Int))
    have er : (pieceL (fn ns) ns.length s).map (fun h : Nat => (h : Int)) = r := r3 _ (pm.symm.map _) (by
      rw [List.pairwise_map]
      exact (piece_sorted (fn ns) ns.length s).imp fun h => by omega)
    refine ev_ret_sort (ev_var rfl) (e3 _ _ a1) (kdT_keys ks) (by rw [List.length_map]; omega) r3 (fun p H4 hp e4 h4 => ?_)
    refine k p H4 (fresh_back (x2.trans e3) hp) ((x2.trans e3).trans e4) ?_
    rw [h4, ← er, L_int]
end Hm
namespace Hm
open PySem PySem.Spec PyProof.Rows L2 Evl
/-! ### the program: the pieces -/
theorem mem_fold {h : Nat} : ∀ (more kvs : List (Key × V)), (valV (mergeK kvs more) (.inl (h : Int))).isSome = ((valV kvs (.inl (h : Int))).isSome || more.any fun kv => decide (kv.1 = .inl (h : Int)))
  | [], kvs => by
    show (valV kvs (.inl (h : Int))).isSome = _
    simp
  | p :: r, kvs => by
    have ih := mem_fold (h := h) r (putK kvs p.1 p.2)
    show (valV (mergeK (putK kvs p.1 p.2) r) (.inl (h : Int))).isSome = _
    rw [ih, valV_put]
    by_cases e : p.1 = .inl (h : Int)
    · rw [if_pos e.symm]
      simp [e]
    · rw [if_neg (fun z => e z.symm)]
      simp [e]
theorem any_kdT (h : Nat) : ∀ ks : List Nat, ((kdT ks).any fun kv => decide (kv.1 = .inl (h : Int))) = decide (h ∈ ks)
  | [] => by
    rw [decide_eq_false (by simp)]
    rfl
  | a :: r => by
    have ih := any_kdT h r
    show (decide ((Sum.inl (a : Int) : Key) = Sum.inl (h : Int)) || (kdT r).any fun kv => decide (kv.1 = .inl (h : Int))) = _
    rw [ih]
    by_cases e : a = h
    · subst e
      simp
    · have ne : ¬ ((Sum.inl (a : Int) : Key) = Sum.inl (h : Int)) := fun z => e (by have := Sum.inl.inj z; omega)
      rw [decide_eq_false ne]
      by_cases q : h ∈ r
      · simp [q]
      · simp [q, Ne.symm e]
/-- {h: True for h in a list} -/
theorem dc_true {K : PySem.W.Frag} {σ : L2.St} {H : Hp} {tl : TE} {j : Nat} {a : Addr} {ms : List Nat} {Q : VK} (h : Ev tl σ H (.ref a)) (hS : SqL K H a (L ms)) (nd : ms.Nodup) (hz : ms.length ≤ 10000) (hw : ∀ x, wipe ((wipe σ [j]).set j (some x)) [j] = wipe σ [j]) (hj : ∀ x, ((wipe σ [j]).set j (some x))[j]? = some (some x))
    (k : ∀ D H1, H D = none → Ex H H1 → H1 D = some (.dK (kdT ms)) → Q (.ref D) H1) : tDc (iList K tl) (gName j) tYes (tVar j) (tC (.bl true)) [j] σ H Q := h H (Ex.refl H) _ fun H1 e1 => by
  refine ⟨a, rfl, ⟨_, ex_l e1 hS⟩, fun Dl hD => ?_⟩
  have sq : ∀ {H' : Hp}, Ex H1 H' → SqL K H' a (L ms) := fun e => ex_l (e1.trans e) hS
  refine ⟨fun i m H' => m = ms.length - i ∧ i ≤ ms.length ∧ Ex H1 H' ∧ H' Dl = some (.dK (kdT (ms.take i))), ⟨_, rfl, Nat.zero_le _, Ex.new hD, upd_same⟩, ?_⟩
  rintro i m H' ⟨rfl, hi, ex, hd⟩
  by_cases lt : i < ms.length
  · refine .inr ⟨⟨L ms, vi (fn ms i), sq ex, L_get lt⟩, fun H2 => i + 1 ≤ ms.length ∧ Ex H1 H2 ∧ H2 Dl = some (.dK (kdT (ms.take (i + 1)))), fun H2 ⟨p1, p2, p3⟩ => ⟨_, by omega, rfl, p1, p2, p3⟩, fun x H2 y => ?_⟩
    obtain ⟨e, y⟩ := y
    subst e
    have hx := y _ (sq ex)
    rw [L_get lt] at hx
    obtain rfl := Option.some.inj hx
    refine ⟨hw _, ?_⟩
    unfold tYes
    dsimp only
    rw [if_pos rfl]
    refine ⟨_, hj _, kdT (ms.take i), .inl (fn ms i : Int), rfl, hd, sz_lt (by rw [kdT_len, List.length_take]; omega), lt, ex.mut hD, ?_⟩
    have q : fn ms i ∉ ms.take i := fun z => by
      obtain ⟨i2, h2, e2⟩ := List.mem_iff_getElem.mp z
      rw [List.length_take] at h2
      rw [List.getElem_take] at e2
      have h3 : ms[i2]? = ms[i]? := by
        rw [fn_get lt, List.getElem?_eq_getElem (by omega), e2]
      have := (List.getElem?_inj (by omega) nd).mp h3
      omega
    rw [upd_same, kdT_put q, List.take_add_one, fn_get lt]
    rfl
  · have e : i = ms.length := by omega
    subst e
    rw [List.take_of_length_le (Nat.le_refl _)] at hd
    exact .inl ⟨⟨L ms, sq ex, by rw [L_len]; exact Nat.le_refl _⟩, k Dl H' (fresh_back e1 hD) (e1.trans ex) hd⟩
theorem piecesL_yes {f : Nat → Nat} {N n : Nat} (h : minB N (Rch f) n = true) : piecesL f N (n + 1) = piecesL f N n ++ [pieceL f N n] := by
  unfold piecesL
  rw [List.range_succ, List.filter_append, List.map_append, List.filter_cons, if_pos h]
  rfl
theorem piecesL_no {f : Nat → Nat} {N n : Nat} (h : ¬ minB N (Rch f) n = true) : piecesL f N (n + 1) = piecesL f N n := by
  unfold piecesL
  rw [List.range_succ, List.filter_append, List.map_append, List.filter_cons, if_neg h]
  exact List.append_nil _
/-- in a piece that was met before n -/
def Met (f : Nat → Nat) (N n y : Nat) : Prop := ∃ m, m < n ∧ minR N (Rch f) m ∧ Rch f m y
theorem q_upd {K : PySem.W.Frag} {σ : L2.St} {H : Hp} {td te : TE} {tz : TS} {D : Ends} {d : Addr} {kvs : List (Key × V)} (hd : Ev td σ H (.ref d)) (h : H d = some (.dK kvs)) (ty : ∀ H4, H4 d = some (.dK kvs) → tyV K "dict" (.ref d) H4)
    (k : ∀ H4, Ex H H4 → te σ H4 (fun v H5 => rUpd (.ref d) [v] H5 (fun _ H6 => tz D σ H6))) : tSeq (tDrop (tBM K "dict" rUpd td (tCons te tNil))) tz D σ H := hd H (Ex.refl H) _ fun H4 e4 => ⟨ty H4 (e4 _ _ h), k H4 e4⟩
def sp_Meshpieces (K : PySem.W.Frag) : Sp := fun vs H Q _ => ∃ (x : Addr) (ns : List Nat), vs = [.ref x] ∧ MeshAt K H x ns ∧ MP ns ∧ ns.length < 64 ∧ ∀ p H', H p = none → Ex H H' → LLn H H' p (piecesL (fn ns) ns.length ns.length) → Q (.ref p) H'
abbrev nm_Meshpieces : List Str := ["self", "found", "seen", "half", "piece", "member"]
abbrev pr_Meshpieces : List Str := ["self"]
def t_Meshpieces (K : PySem.W.Frag) : TS :=
  (tSeq (tAsg (tLst tNil) (gName 1))
  (tSeq (tAsg tDNewK (gName 2))
  (tSeq (tFor (iRng1 (tCons (tCB (cLen K) (tCons (tFld K (tVar 0) "_nexts") tNil)) tNil)) (gName 3) (tIfS (tB (tDNotIn (tVar 3) (tVar 2))) (tSeq (tAsg (tMeth (He.ga K "Mesh") "_piece" (sp_Meshpiece K) [] E0 (tVar 0) (tCons (tVar 3) tNil)) (gName 4))
        (tSeq (tDrop (tBM K "dict" rUpd (tVar 2) (tCons (tDc (iList K (tVar 4)) (gName 5) tYes (tVar 5) (tC (.bl true)) [5]) tNil)))
        (tDrop (tBM K "list" rAppend (tVar 1) (tCons (tVar 4) tNil))))) tNext))
  (tRet (tVar 1)))))
abbrev Wt_Meshpieces (K : PySem.W.Frag) (vs : List V) (H : Hp) (Q : VK) : Prop := t_Meshpieces K { nx := fun _ H' => Q .non H', rt := Q } (start nm_Meshpieces vs) H
theorem ln_Meshpieces {K : PySem.W.Frag} (vs : List V) (H : Hp) (Q : VK) (E : XK) (h : sp_Meshpieces K vs H Q E) : vs.length = pr_Meshpieces.length := by
  obtain ⟨_, _, rfl, _⟩ := h
  rfl
theorem rd_Meshpieces {K : PySem.W.Frag} (F : KF K) (vs : List V) (H : Hp) (Q : VK) (E : XK) (h : sp_Meshpieces K vs H Q E) : Wt_Meshpieces K vs H Q := by
  obtain ⟨x, ns, rfl, hm, hM, h64, k⟩ := h
  show t_Meshpieces K _ [some (.ref x), none, none, none, none, none] H
  have P := pf_fn hM.p
  have two := hM.two
  obtain ⟨dx, l1, l2, l3, q1, q2, q3, q4⟩ := id hm
  refine q_asgL (el_lst ea_nil (Nat.zero_le _)) (fun o H1 ho e1 h1 => ?_)
  refine q_asgD (fun d hd => ?_)
  have hod : o ≠ d := ne_of_none h1 hd
  have hd0 : H d = none := fresh_back e1 hd
  have x1 : Ex H (upd H1 d (.dK [])) := e1.trans (Ex.new hd)
  refine q_forR1 (n := (ns.length : Int)) (ea_1 (ev_is (ev_cb (ea_1 (ev_fld (ev_var rfl) (x1 _ _ q1) F.cl F.n1 (mfs_n _ _ _))) (rc_len (sq_of (x1 _ _ q2)))) (by rw [L_len]))) (by omega) (fun i σ' H' => ∃ (as : List Addr) (kvs : List (Key × V)) (v3 v4 : Option V), σ' = [some (.ref x), some (.ref o), some (.ref d), v3, v4, none] ∧ Ex H H' ∧
    H' o = some (.lst (as.map V.ref)) ∧ LA H' as (piecesL (fn ns) ns.length i) ∧ (∀ a ∈ as, H a = none ∧ a ≠ o ∧ a ≠ d) ∧ H' d = some (.dK kvs) ∧ kvs.length ≤ i * 64 ∧ ∀ h, h < ns.length → ((valV kvs (.inl (h : Int))).isSome = true ↔ Met (fn ns) ns.length i h)) ?_ ?_ ?_
  · intro H2 e2
    refine ⟨[], [], _, _, rfl, x1.trans e2, e2 _ _ (by rw [upd_ne hod]; exact h1), .nil, fun a ha => (nomatch ha), e2 _ _ upd_same, Nat.le_refl _, fun h _ => ⟨fun z => (nomatch z), fun ⟨m, hm, _⟩ => absurd hm (Nat.not_lt_zero _)⟩⟩
  · rintro i σ' H' hi ⟨as, kvs, v3, v4, rfl, ex, a1, a2, a3, a4, a5, a6⟩
    have hi' : i < ns.length := by omega
    refine s_when (et_B (ev_dnin (ev_var rfl) (ev_var rfl) a4)) (fun hb H2 e2 => ?_) (fun hb H2 e2 => ?_)
    · have no : ¬ Met (fn ns) ns.length i i := fun z => by
        rw [(a6 i hi').mpr z] at hb
        cases hb
      have hmin : minR ns.length (Rch (fn ns)) i := by
        obtain ⟨m, m1, m2, m3, _⟩ := piece_min P two hi'
        by_cases c : m = i
        · rw [← c]
          exact m3
        · exact absurd ⟨m, Nat.lt_of_le_of_ne (m3 i hi' m2) c, m3, m2⟩ no
      have x2 := ex.trans e2
      have m2 := hm.ex x2
      refine q_asgL (el_mm m2 (ev_var rfl) (by decide +kernel) (ea_1 (ev_var rfl)) (fun H3 e3 Q2 qq E2 => ⟨x, ns, i, rfl, m2.ex e3, hM, hi', h64, qq⟩)) (fun p H3 hp e3 h3 => ?_)
      have plen : (pieceL (fn ns) ns.length i).length ≤ ns.length := by
        have := List.length_filter_le (relB (Rch (fn ns)) i) (List.range ns.length)
        rw [List.length_range] at this
        exact this
      have d3 := e3 _ _ (e2 _ _ a4)
      have o3 := e3 _ _ (e2 _ _ a1)
      have hpo : p ≠ o := (ne_of_none (e2 _ _ a1) hp).symm
      have hpd : p ≠ d := (ne_of_none (e2 _ _ a4) hp).symm
      refine q_upd (ev_var rfl) d3 (fun H4 h4 => .inr (.inr (.inl ⟨rfl, .inl ⟨_, h4⟩⟩))) (fun H4 e4 => ?_)
      refine dc_true (ms := pieceL (fn ns) ns.length i) (ev_var rfl) (sq_of (e4 _ _ h3)) (piece_nodup _ _ _) (by omega) (fun _ => rfl) (fun _ => rfl) (fun D H5 hD e5 h5 => ?_)
      have d5 := e5 _ _ (e4 _ _ d3)
      have o5 := e5 _ _ (e4 _ _ o3)
      have p5 := e5 _ _ (e4 _ _ h3)
      have hdD : d ≠ D := ne_of_none (e4 _ _ d3) hD
      have x5 := (x2.trans e3).trans (e4.trans e5)
      have k64 : kvs.length ≤ 64 * 64 := Nat.le_trans a5 (Nat.mul_le_mul_right 64 (by omega))
      refine ⟨d, D, kvs, _, rfl, rfl, hdD, d5, h5, by rw [kdT_len]; omega, ?_⟩
      have o6 : (upd H5 d (.dK (mergeK kvs (kdT (pieceL (fn ns) ns.length i))))) o = some (.lst (as.map V.ref)) := by
        rw [upd_ne hod]
        exact o5
      refine s_app o6 (ev_var rfl) (ev_var rfl) (by rw [List.length_map, Paired.length a2]; have := List.length_filter_le (minB ns.length (Rch (fn ns))) (List.range i); rw [List.length_range] at this; unfold piecesL; rw [List.length_map]; omega) (fun H7 e7 => ?_)
      have x7 : Ex H H7 := ((x5.mut hd0)).trans e7
      have hp0 : H p = none := fresh_back x2 hp
      refine ⟨as ++ [p], _, _, _, rfl, x7.mut ho, by rw [upd_same, List.map_append]; rfl, ?_, ?_, by rw [upd_ne hod.symm]; exact e7 _ _ upd_same, ?_, ?_⟩
      · rw [piecesL_yes (minB_iff.mpr hmin)]
        refine paired_snoc ?_ ?_
        · have l5 : LA H5 as (piecesL (fn ns) ns.length i) := LA.ex a2 ((e2.trans e3).trans (e4.trans e5))
          refine LA.upd (LA.ex (LA.upd l5 (fun a ha => (a3 a ha).2.2)) e7) (fun a ha => (a3 a ha).2.1)
        · show (upd H7 o _) p = _
          rw [upd_ne hpo]
          refine e7 _ _ ?_
          rw [upd_ne hpd]
          exact p5
      · intro a ha
        rcases List.mem_append.mp ha with ha | ha
        · exact a3 a ha
        · rw [List.mem_singleton.mp ha]
          exact ⟨hp0, hpo, hpd⟩
      · have q := length_mergeK (kdT (pieceL (fn ns) ns.length i)) kvs
        rw [kdT_len] at q
        have : (i + 1) * 64 = i * 64 + 64 := Nat.succ_mul i 64
        omega
      · intro h hh
        rw [mem_fold, any_kdT, Bool.or_eq_true, a6 h hh, decide_eq_true_iff, mem_piece]
        constructor
        · rintro (⟨m, c1, c2, c3⟩ | ⟨_, c⟩)
          · exact ⟨m, by omega, c2, c3⟩
          · exact ⟨i, Nat.lt_succ_self i, hmin, c⟩
        · rintro ⟨m, c1, c2, c3⟩
          by_cases c : m = i
          · rw [c] at c3
            exact .inr ⟨hh, c3⟩
          · exact .inl ⟨m, by omega, c2, c3⟩
    · have hmet : Met (fn ns) ns.length i i := (a6 i hi').mp (by
        cases c : (valV kvs (.inl (i : Int))).isSome with
        | true => rfl
        | false =>
          rw [c] at hb
          cases hb)
      have nmin : ¬ minB ns.length (Rch (fn ns)) i = true := fun z => by
        obtain ⟨m, c1, c2, c3⟩ := hmet
        have := minB_iff.mp z m (by omega) (rch_symm P two (by omega) c3)
        omega
      refine ⟨as, kvs, _, _, rfl, ex.trans e2, e2 _ _ a1, ?_, a3, e2 _ _ a4, by have : (i + 1) * 64 = i * 64 + 64 := Nat.succ_mul i 64; omega, fun h hh => ?_⟩
      · rw [piecesL_no nmin]
        exact LA.ex a2 e2
      · rw [a6 h hh]
        constructor
        · rintro ⟨m, c1, c2, c3⟩
          exact ⟨m, by omega, c2, c3⟩
        · rintro ⟨m, c1, c2, c3⟩
          by_cases c : m = i
          · rw [c] at c2
            exact absurd (minB_iff.mpr c2) nmin
          · exact ⟨m, by omega, c2, c3⟩
  · rintro σ' H' ⟨as, kvs, v3, v4, rfl, ex, a1, a2, a3, a4, a5, a6⟩
    exact s_ret (ev_var rfl) (fun H2 e2 => k o H2 ho (ex.trans e2) ⟨as, e2 _ _ a1, LA.ex a2 e2, fun a ha => ⟨(a3 a ha).1, (a3 a ha).2.1⟩⟩)
end Hm
namespace Hm
open PySem PySem.Spec PyProof.Rows L2 Evl
/-! ### the law's pieces -/
theorem rc_min3 {H : Hp} {a b c : Nat} : RC (rNuC3 nuMin3) [vi a, vi b, vi c] H (vi (min (min a b) c)) := fun H1 e Q q => by
  have two : ∀ x y : Nat, nuMin2 (vi x) (vi y) = some (vi (min x y)) := fun x y => by
    show some (if decide ((y : Int) < (x : Int)) = true then vi y else vi x) = _
    by_cases h : y < x
    · rw [if_pos (decide_eq_true (by omega)), Nat.min_eq_right (by omega)]
    · rw [if_neg (by rw [decide_eq_false (by omega)]; exact Bool.false_ne_true), Nat.min_eq_left (by omega)]
  refine ⟨vi a, vi b, vi c, vi (min (min a b) c), rfl, ?_, q H1 (Ex.refl H1)⟩
  unfold nuMin3
  rw [two a b]
  exact two _ c
/-- a list of N marks -/
def mkL (M : Nat → Nat) (N : Nat) : List Nat := (List.range N).map M
theorem mkL_len (M : Nat → Nat) (N : Nat) : (mkL M N).length = N := by unfold mkL; rw [List.length_map, List.length_range]
theorem fn_mkL {M : Nat → Nat} {N x : Nat} (h : x < N) : fn (mkL M N) x = M x := fn_at (by unfold mkL; rw [List.getElem?_map, List.getElem?_range h]; rfl)
theorem mkL_put {f M : Nat → Nat} {N k : Nat} (hk : k < N) (hf : f k < N) (ht : tw k < N) : (((mkL M N).set k (lowM f M k)).set (f k) (lowM f M k)).set (tw k) (lowM f M k) = mkL (putM f M k) N := by
  refine List.ext_getElem? fun x => ?_
  by_cases hx : x < N
  · unfold mkL
    rw [List.getElem?_map (l := List.range N) (f := putM f M k), List.getElem?_range hx]
    show _ = some (putM f M k x)
    unfold putM
    by_cases h3 : x = tw k
    · subst h3
      rw [List.getElem?_set_self (by simp; omega), if_pos (.inr (.inr rfl))]
    · rw [List.getElem?_set_ne (Ne.symm h3)]
      by_cases h2 : x = f k
      · subst h2
        rw [List.getElem?_set_self (by simp; omega), if_pos (.inr (.inl rfl))]
      · rw [List.getElem?_set_ne (Ne.symm h2)]
        by_cases h1 : x = k
        · subst h1
          rw [List.getElem?_set_self (by simp; omega), if_pos (.inl rfl)]
        · rw [List.getElem?_set_ne (Ne.symm h1), if_neg (by rintro (h | h | h) <;> contradiction), List.getElem?_map, List.getElem?_range hx]
          rfl
  · rw [List.getElem?_eq_none (by simp only [List.length_set]; rw [mkL_len]; omega), List.getElem?_eq_none (by rw [mkL_len]; omega)]
theorem piecesL_map (f : Nat → Nat) (N : Nat) : piecesL f N N = ((List.range N).filter (minB N (Rch f))).map (pieceL f N) := rfl
/-- [.. a new list for each x ..] -/
theorem ell_lc {K : PySem.W.Frag} {σ : L2.St} {H : Hp} {tl te : TE} {j : Nat} {a : Addr} {ms : List Nat} {xss : List (List Nat)} (h : Ev tl σ H (.ref a)) (hS : SqL K H a (L ms)) (hl : xss.length = ms.length) (hz : ms.length ≤ 10000) (hw : ∀ x, wipe ((wipe σ [j]).set j (some x)) [j] = wipe σ [j])
    (he : ∀ i H1, Ex H H1 → (hi : i < ms.length) → EvL te ((wipe σ [j]).set j (some (vi (fn ms i)))) H1 (L (xss.getD i []))) : EvLL (tLc (iList K tl) (gName j) tYes te [j]) σ H xss := fun H0 e0 Q q => h H0 e0 _ fun H1 e1 => by
  have e01 := e0.trans e1
  refine ⟨a, rfl, ⟨_, ex_l e01 hS⟩, fun Dl hD => ?_⟩
  have sq : ∀ {H' : Hp}, Ex H1 H' → SqL K H' a (L ms) := fun e => ex_l (e01.trans e) hS
  refine ⟨fun i m H' => m = ms.length - i ∧ i ≤ ms.length ∧ Ex H1 H' ∧ ∃ as : List Addr, H' Dl = some (.lst (as.map V.ref)) ∧ LA H' as (xss.take i) ∧ ∀ a ∈ as, H1 a = none ∧ a ≠ Dl, ⟨_, rfl, Nat.zero_le _, Ex.new hD, [], upd_same, .nil, fun a ha => (nomatch ha)⟩, ?_⟩
  rintro i m H' ⟨rfl, hi, ex, as, d1, d2, d3⟩
  by_cases lt : i < ms.length
  · refine .inr ⟨⟨L ms, vi (fn ms i), sq ex, L_get lt⟩, fun H2 => i + 1 ≤ ms.length ∧ Ex H1 H2 ∧ ∃ as : List Addr, H2 Dl = some (.lst (as.map V.ref)) ∧ LA H2 as (xss.take (i + 1)) ∧ ∀ a ∈ as, H1 a = none ∧ a ≠ Dl, fun H2 ⟨p1, p2, p3⟩ => ⟨_, by omega, rfl, p1, p2, p3⟩, fun x H2 y => ?_⟩
    obtain ⟨e, y⟩ := y
    subst e
    have hx := y _ (sq ex)
    rw [L_get lt] at hx
    obtain rfl := Option.some.inj hx
    refine ⟨hw _, ?_⟩
    unfold tYes
    dsimp only
    rw [if_pos rfl]
    refine he i H2 (e01.trans ex) lt H2 (Ex.refl H2) _ (fun p H3 hp e3 h3 => ?_)
    have al : as.length = (xss.take i).length := Paired.length d2
    rw [List.length_take] at al
    have hpD : p ≠ Dl := (ne_of_none d1 hp).symm
    refine ⟨as.map V.ref, e3 _ _ d1, sz_lt (by rw [List.length_map]; omega), lt, Ex.mut (ex.trans e3) hD, as ++ [p], by rw [upd_same, List.map_append]; rfl, ?_, fun b hb => ?_⟩
    · have ht : xss.take (i + 1) = xss.take i ++ [xss.getD i []] := by
        rw [List.take_add_one, List.getD_eq_getElem?_getD, List.getElem?_eq_getElem (by omega)]
        rfl
      rw [ht]
      refine paired_snoc (LA.upd (LA.ex d2 e3) (fun b hb => (d3 b hb).2)) ?_
      rw [upd_ne hpD]
      exact h3
    · rcases List.mem_append.mp hb with hb | hb
      · exact d3 b hb
      · rw [List.mem_singleton.mp hb]
        exact ⟨fresh_back ex hp, hpD⟩
  · have e : i = ms.length := by omega
    subst e
    rw [List.take_of_length_le (by omega)] at d2
    exact .inl ⟨⟨L ms, sq ex, by rw [L_len]; exact Nat.le_refl _⟩, q Dl H' (fresh_back e1 hD) (e1.trans ex) ⟨as, d1, d2, fun b hb => ⟨fresh_back e1 (d3 b hb).1, (d3 b hb).2⟩⟩⟩
def sp_Lpieces (K : PySem.W.Frag) : Sp := fun vs H Q _ => ∃ (a : Addr) (ns : List Nat), vs = [.ref a] ∧ SqL K H a (L ns) ∧ MP ns ∧ ∀ p H', H p = none → Ex H H' → LLn H H' p (piecesL (fn ns) ns.length ns.length) → Q (.ref p) H'
abbrev nm_Lpieces : List Str := ["_law_nexts_here", "_law_k", "_law_marks", "_law_turn", "_law_lowest", "_law_firsts", "_law_first"]
abbrev pr_Lpieces : List Str := ["_law_nexts_here"]
def t_Lpieces (K : PySem.W.Frag) : TS :=
  (tSeq (tAsg (tLc (iRng1 (tCons (tCB (cLen K) (tCons (tVar 0) tNil)) tNil)) (gName 1) tYes (tVar 1) [1]) (gName 2))
  (tSeq (tFor (iRng1 (tCons (tCB (cLen K) (tCons (tVar 0) tNil)) tNil)) (gName 3) (tFor (iRng1 (tCons (tCB (cLen K) (tCons (tVar 0) tNil)) tNil)) (gName 1) (tSeq (tAsg (tCB (rNuC3 nuMin3) (tCons (tOp (rIxL K) (tVar 2) (tVar 1)) (tCons (tOp (rIxL K) (tVar 2) (tOp (rIxL K) (tVar 0) (tVar 1))) (tCons (tOp (rIxL K) (tVar 2) (tCall (sp_Ltwin K) [] E0 (tCons (tVar 1) tNil))) tNil)))) (gName 4))
        (tSeq (tAsg (tVar 4) (gSub (tVar 2) (tVar 1) rSetL))
        (tSeq (tAsg (tVar 4) (gSub (tVar 2) (tOp (rIxL K) (tVar 0) (tVar 1)) rSetL))
        (tAsg (tVar 4) (gSub (tVar 2) (tCall (sp_Ltwin K) [] E0 (tCons (tVar 1) tNil)) rSetL)))))))
  (tSeq (tAsg (tLc (iRng1 (tCons (tCB (cLen K) (tCons (tVar 0) tNil)) tNil)) (gName 1) (tTest (tOp rEq (tOp (rIxL K) (tVar 2) (tVar 1)) (tVar 1))) (tVar 1) [1]) (gName 5))
  (tRet (tLc (iList K (tVar 5)) (gName 6) tYes (tLc (iRng1 (tCons (tCB (cLen K) (tCons (tVar 0) tNil)) tNil)) (gName 1) (tTest (tOp rEq (tOp (rIxL K) (tVar 2) (tVar 1)) (tVar 6))) (tVar 1) [1]) [6])))))
abbrev Wt_Lpieces (K : PySem.W.Frag) (vs : List V) (H : Hp) (Q : VK) : Prop := t_Lpieces K { nx := fun _ H' => Q .non H', rt := Q } (start nm_Lpieces vs) H
theorem ln_Lpieces {K : PySem.W.Frag} (vs : List V) (H : Hp) (Q : VK) (E : XK) (h : sp_Lpieces K vs H Q E) : vs.length = pr_Lpieces.length := by
  obtain ⟨_, _, rfl, _⟩ := h
  rfl
theorem rd_Lpieces {K : PySem.W.Frag} (F : KF K) (vs : List V) (H : Hp) (Q : VK) (E : XK) (h : sp_Lpieces K vs H Q E) : Wt_Lpieces K vs H Q := by
  obtain ⟨a, ns, rfl, hS, hM, k⟩ := h
  show t_Lpieces K _ [some (.ref a), none, none, none, none, none, none] H
  have P := pf_fn hM.p
  have two := hM.two
  have nl := hM.len
  have hn : ∀ {σ : L2.St} {H1 : Hp}, σ[0]? = some (some (V.ref a)) → Ex H H1 → EvA (tCons (tCB (cLen K) (tCons (tVar 0) tNil)) tNil) σ H1 [.int (ns.length : Int)] := fun s0 e => ea_1 (ev_is (ev_cb (ea_1 (ev_var s0)) (rc_len (ex_l e hS))) (by rw [L_len]))
  have hr : (List.range ns.length).map (fun i => vi i) = L (mkL (fun x => x) ns.length) := by
    unfold mkL L
    rw [List.map_map]
    rfl
  have q0 := el_lcR1 (σ := [some (.ref a), none, none, none, none, none, none]) (H := H) (j := 1) (vs := [1]) (t := tYes) (te := tVar 1) (fun _ => true) (fun i => vi i) (hn rfl (Ex.refl H)) (by omega) (fun _ => rfl) (fun i H1 _ _ => et_yes) (fun i H1 _ _ _ => ev_var rfl)
  rw [given_all, Int.toNat_natCast, hr] at q0
  refine q_asgL q0 (fun m H1 hm e1 h1 => ?_)
  refine q_forR1 (n := (ns.length : Int)) (hn rfl e1) (by omega) (fun t σ' H' => ∃ v1 v3 v4, σ' = [some (.ref a), v1, some (.ref m), v3, v4, none, none] ∧ Ex H H' ∧ H' m = some (.lst (L (mkL (marksM (fn ns) ns.length t) ns.length)))) (fun H2 e2 => ⟨_, _, _, rfl, e1.trans e2, e2 _ _ h1⟩) ?_ ?_
  · rintro t σ' H2 ht ⟨v1, v3, v4, rfl, x2, g⟩
    refine s_forR1 (n := (ns.length : Int)) (hn rfl x2) (by omega) (fun kk σ' H' => ∃ v1 v4, σ' = [some (.ref a), v1, some (.ref m), some (vi t), v4, none, none] ∧ Ex H H' ∧ H' m = some (.lst (L (mkL (sweepM (fn ns) (marksM (fn ns) ns.length t) kk) ns.length)))) (fun H3 e3 => ⟨_, _, rfl, x2.trans e3, e3 _ _ g⟩) ?_ ?_
    · rintro kk σ' H3 hk ⟨w1, w4, rfl, x3, g3⟩
      have hk' : kk < ns.length := by omega
      have hf := P.lt kk hk'
      have ht' := tw_lt two hk'
      generalize hMM : sweepM (fn ns) (marksM (fn ns) ns.length t) kk = M at g3
      have at_ : ∀ {z : Nat}, z < ns.length → atI (L (mkL M ns.length)) (z : Int) = some (vi (M z)) := fun {z} hz => by
        rw [← fn_mkL (M := M) hz]
        exact L_at (by rw [mkL_len]; exact hz)
      have nx : ∀ {w4 : Option V} {H4 : Hp}, Ex H H4 → Ev (tOp (rIxL K) (tVar 0) (tVar 1)) [some (.ref a), some (vi kk), some (.ref m), some (vi t), w4, none, none] H4 (vi (fn ns kk)) := fun e => ev_op (ev_var rfl) (ev_var rfl) (rv_ixL (ex_l e hS) (L_at hk'))
      have tn : ∀ {w4 : Option V} {H4 : Hp}, Ev (tCall (sp_Ltwin K) [] E0 (tCons (tVar 1) tNil)) [some (.ref a), some (vi kk), some (.ref m), some (vi t), w4, none, none] H4 (vi (tw kk)) := ev_call (ea_1 (ev_var rfl)) (spv_Ltwin kk)
      refine q_asg (v := vi (lowM (fn ns) M kk)) (ev_cb (ea_cons (ev_op (ev_var rfl) (ev_var rfl) (rv_ixL (sq_of g3) (at_ hk'))) (ea_2 (ev_op (ev_var rfl) (nx x3) (rv_ixL (sq_of g3) (at_ hf))) (ev_op (ev_var rfl) tn (rv_ixL (sq_of g3) (at_ ht'))))) rc_min3) (fun H4 e4 => ?_)
      have x4 := x3.trans e4
      have g4 := e4 _ _ g3
      have ll : (L (mkL M ns.length)).length = ns.length := by rw [L_len, mkL_len]
      refine q_setL (j := kk) g4 (ev_var rfl) (ev_var rfl) (ev_var rfl) (by rw [ll]; exact hk') (fun H5 e5 => ?_)
      have x5 : Ex H (upd H5 m (.lst ((L (mkL M ns.length)).set kk (vi (lowM (fn ns) M kk))))) := (x4.trans e5).mut hm
      refine q_setL (j := fn ns kk) upd_same (ev_var rfl) (ev_var rfl) (nx x5) (by rw [List.length_set, ll]; exact hf) (fun H6 e6 => ?_)
      refine s_setL (j := tw kk) upd_same (ev_var rfl) (ev_var rfl) tn (by rw [List.length_set, List.length_set, ll]; exact ht') (fun H7 e7 => ?_)
      refine ⟨_, _, rfl, (((x5.trans e6).mut hm).trans e7).mut hm, ?_⟩
      rw [upd_same, L_set, L_set, L_set, mkL_put hk' hf ht', ← hMM]
      rfl
    · rintro σ' H3 ⟨w1, w4, rfl, x3, g3⟩
      rw [Int.toNat_natCast] at g3
      exact ⟨_, _, _, rfl, x3, g3⟩
  · rintro σ' H2 ⟨v1, v3, v4, rfl, x2, g⟩
    rw [Int.toNat_natCast] at g
    have at_ : ∀ {H3 : Hp} {z : Nat}, Ex H2 H3 → z < ns.length → ∀ {σ : L2.St}, σ[2]? = some (some (V.ref m)) → σ[1]? = some (some (vi z)) → Ev (tOp (rIxL K) (tVar 2) (tVar 1)) σ H3 (vi (marksM (fn ns) ns.length ns.length z)) := fun {H3 z} e hz σ s2 s1 => by
      refine ev_op (ev_var s2) (ev_var s1) (rv_ixL (sq_of (e _ _ g)) ?_)
      rw [← fn_mkL (M := marksM (fn ns) ns.length ns.length) hz]
      exact L_at (by rw [mkL_len]; exact hz)
    have q1 := el_lcR1 (σ := [some (.ref a), v1, some (.ref m), v3, v4, none, none]) (H := H2) (j := 1) (vs := [1]) (t := tTest (tOp rEq (tOp (rIxL K) (tVar 2) (tVar 1)) (tVar 1))) (te := tVar 1) (fun i => decide (vi (marksM (fn ns) ns.length ns.length i) = vi i)) (fun i => vi i) (hn rfl x2) (by omega) (fun _ => rfl)
      (fun i H3 e3 hi => et_test (ev_op (at_ e3 (by omega) rfl rfl) (ev_var rfl) (rv_eq rfl))) (fun i H3 _ _ _ => ev_var rfl)
    have f1 : given (ns.length : Int).toNat (fun i => decide (vi (marksM (fn ns) ns.length ns.length i) = vi i)) (fun i => vi i) = L ((List.range ns.length).filter (minB ns.length (Rch (fn ns)))) := by
      unfold given L
      rw [Int.toNat_natCast]
      congr 1
      refine List.filter_congr fun x hx => ?_
      have hx := List.mem_range.mp hx
      rw [vi_eq, Bool.eq_iff_iff, decide_eq_true_iff, minB_iff]
      exact marks_first P two hx
    rw [f1] at q1
    refine q_asgL q1 (fun fp H3 hfp e3 h3 => ?_)
    have x3 := x2.trans e3
    generalize hms : (List.range ns.length).filter (minB ns.length (Rch (fn ns))) = ms at h3
    have mlen : ms.length ≤ ns.length := by
      rw [← hms]
      have := List.length_filter_le (minB ns.length (Rch (fn ns))) (List.range ns.length)
      rw [List.length_range] at this
      exact this
    have hmem : ∀ i, i < ms.length → fn ms i < ns.length ∧ minR ns.length (Rch (fn ns)) (fn ms i) := fun i hi => by
      have z := fn_mem hi
      rw [← hms] at z
      obtain ⟨z1, z2⟩ := List.mem_filter.mp z
      rw [hms] at z1 z2
      exact ⟨List.mem_range.mp z1, minB_iff.mp z2⟩
    have ex : piecesL (fn ns) ns.length ns.length = ms.map (pieceL (fn ns) ns.length) := by rw [piecesL_map, hms]
    refine (ell_lc (σ := [some (.ref a), v1, some (.ref m), v3, v4, some (.ref fp), none]) (xss := piecesL (fn ns) ns.length ns.length) (ms := ms) (ev_var rfl) (sq_of h3) (by rw [ex, List.length_map]) (by omega) (fun _ => rfl) (fun i H4 e4 hi => ?_)) H3 (Ex.refl H3) _ (fun p H4 hp e4 l4 => k p H4 (fresh_back x3 hp) (x3.trans e4) (l4.of x3))
    obtain ⟨c1, c2⟩ := hmem i hi
    have e34 := e3.trans e4
    have q2 := el_lcR1 (σ := [some (.ref a), v1, some (.ref m), v3, v4, some (.ref fp), some (vi (fn ms i))]) (H := H4) (j := 1) (vs := [1]) (t := tTest (tOp rEq (tOp (rIxL K) (tVar 2) (tVar 1)) (tVar 6))) (te := tVar 1) (fun y => decide (vi (marksM (fn ns) ns.length ns.length y) = vi (fn ms i))) (fun y => vi y) (hn rfl (x3.trans e4)) (by omega) (fun _ => rfl)
      (fun y H5 e5 hy => et_test (ev_op (at_ (e34.trans e5) (by omega) rfl rfl) (ev_var rfl) (rv_eq rfl))) (fun y H5 _ _ _ => ev_var rfl)
    have f2 : given (ns.length : Int).toNat (fun y => decide (vi (marksM (fn ns) ns.length ns.length y) = vi (fn ms i))) (fun y => vi y) = L ((piecesL (fn ns) ns.length ns.length).getD i []) := by
      rw [ex, List.getD_eq_getElem?_getD, List.getElem?_map, fn_get hi]
      unfold given L
      rw [Int.toNat_natCast]
      show _ = (pieceL (fn ns) ns.length (fn ms i)).map vi
      unfold pieceL
      congr 1
      refine List.filter_congr fun y hy => ?_
      have hy := List.mem_range.mp hy
      rw [vi_eq, Bool.eq_iff_iff, decide_eq_true_iff, relB_iff]
      exact marks_same P two c1 c2 hy
    rw [f2] at q2
    exact q2
end Hm
namespace Hm
open PySem PySem.Spec PyProof.Rows L2 Evl
section
variable {K : PySem.W.Frag} {σ : L2.St} {H : Hp} {ta tb te : TE} {D : Ends} {tz tu : TS} {E : XK}
theorem ev_lenLL {xss : List (List Nat)} (h : EvLL te σ H xss) : Ev (tCB (cLen K) (tCons te tNil)) σ H (vi xss.length) := fun H1 e Q q => h H1 e _ fun p H2 _ e2 l => by
  obtain ⟨as, h1, h2, _⟩ := l
  refine ⟨p, as.map V.ref, rfl, Or.inl (sq_of h1), ?_⟩
  rw [List.length_map, Paired.length h2]
  exact q H2 e2
theorem rc_lenLL {p : Addr} {xss : List (List Nat)} (h : LL H p xss) : RC (cLen K) [.ref p] H (vi xss.length) := fun H1 e Q q => by
  obtain ⟨as, h1, h2⟩ := h.ex e
  refine ⟨p, as.map V.ref, rfl, Or.inl (sq_of h1), ?_⟩
  rw [List.length_map, Paired.length h2]
  exact q H1 (Ex.refl H1)
theorem ev_edges {x : Addr} {ns : List Nat} (m : MeshAt K H x ns) (h : Ev ta σ H (.ref x)) : Ev (tProp (He.ga K "Mesh") (sp_Meshedges K) [] E ta) σ H (vi (ns.length / 2)) := fun H1 e Q q => h H1 e _ fun H2 e2 => by
  obtain ⟨dx, l1, l2, l3, a, _⟩ := m.ex (e.trans e2)
  exact ⟨x, dx, _, rfl, a, x, ns, rfl, m.ex (e.trans e2), fun H3 e3 => q H3 (e2.trans e3)⟩
theorem spll_pieces {x : Addr} {ns : List Nat} (m : MeshAt K H x ns) (hM : MP ns) (h : ns.length < 64) : SpLL (sp_Meshpieces K) [.ref x] H (piecesL (fn ns) ns.length ns.length) := fun H1 e Q q E => ⟨x, ns, rfl, m.ex e, hM, h, fun p H' hp ex hl => q p H' hp ex hl⟩
theorem spll_Lpieces {a : Addr} {ns : List Nat} (hS : SqL K H a (L ns)) (hM : MP ns) : SpLL (sp_Lpieces K) [.ref a] H (piecesL (fn ns) ns.length ns.length) := fun H1 e Q q E => ⟨a, ns, rfl, ex_l e hS, hM, fun p H' hp ex hl => q p H' hp ex hl⟩
end
/-- how many handles there are -/
def Hnd (ns : List Nat) (g : Nat) : Prop := (cyc ns true).length + (cyc ns false).length + 2 * g = 2 * (piecesL (fn ns) ns.length ns.length).length + ns.length / 2
theorem hnd_ex {ns : List Nat} (hM : MP ns) : ∃ g, Hnd ns g := by
  have two := hM.two
  obtain ⟨g, h⟩ := euler_mesh hM.p (e := ns.length / 2) (by omega)
  refine ⟨g, ?_⟩
  unfold Hnd
  rw [piecesL_len]
  exact h
def sp_Meshcounts (K : PySem.W.Frag) : Sp := fun vs H Q _ => ∃ (x : Addr) (ns : List Nat), vs = [.ref x] ∧ MeshAt K H x ns ∧ MP ns ∧ ns.length < 64 ∧ ∀ T H' g, Hnd ns g → H T = none → Ex H H' →
  H' T = some (.tup [vi (cyc ns true).length, vi (cyc ns false).length, vi (ns.length / 2), vi (piecesL (fn ns) ns.length ns.length).length, vi g]) → Q (.ref T) H'
abbrev nm_Meshcounts : List Str := ["self", "faces", "corners", "pieces", "edges", "handles"]
abbrev pr_Meshcounts : List Str := ["self"]
def t_Meshcounts (K : PySem.W.Frag) : TS :=
  (tSeq (tAsg (tCB (cLen K) (tCons (tMeth (He.ga K "Mesh") "faces" (sp_Meshfaces K) [] E0 (tVar 0) tNil) tNil)) (gName 1))
  (tSeq (tAsg (tCB (cLen K) (tCons (tMeth (He.ga K "Mesh") "corners" (sp_Meshcorners K) [] E0 (tVar 0) tNil) tNil)) (gName 2))
  (tSeq (tAsg (tCB (cLen K) (tCons (tMeth (He.ga K "Mesh") "pieces" (sp_Meshpieces K) [] E0 (tVar 0) tNil) tNil)) (gName 3))
  (tSeq (tAsg (tProp (He.ga K "Mesh") (sp_Meshedges K) [] E0 (tVar 0)) (gName 4))
  (tSeq (tAsg (tOp zSub (tVar 3) (tOp zDiv (tOp zAdd (tOp zSub (tVar 2) (tVar 4)) (tVar 1)) (tC (.int 2)))) (gName 5))
  (tRet (tTup (tCons (tVar 1) (tCons (tVar 2) (tCons (tVar 4) (tCons (tVar 3) (tCons (tVar 5) tNil))))))))))))
abbrev Wt_Meshcounts (K : PySem.W.Frag) (vs : List V) (H : Hp) (Q : VK) : Prop := t_Meshcounts K { nx := fun _ H' => Q .non H', rt := Q } (start nm_Meshcounts vs) H
theorem ln_Meshcounts {K : PySem.W.Frag} (vs : List V) (H : Hp) (Q : VK) (E : XK) (h : sp_Meshcounts K vs H Q E) : vs.length = pr_Meshcounts.length := by
  obtain ⟨_, _, rfl, _⟩ := h
  rfl
theorem rd_Meshcounts {K : PySem.W.Frag} (F : KF K) (vs : List V) (H : Hp) (Q : VK) (E : XK) (h : sp_Meshcounts K vs H Q E) : Wt_Meshcounts K vs H Q := by
  obtain ⟨x, ns, rfl, hm, hM, h64, k⟩ := h
  show t_Meshcounts K _ [some (.ref x), none, none, none, none, none] H
  obtain ⟨g, hg⟩ := hnd_ex hM
  refine q_asg (ev_lenLL (ell_mm hm (ev_var rfl) (by decide +kernel) ea_nil (spll_faces hm hM))) (fun H1 e1 => ?_)
  have m1 := hm.ex e1
  refine q_asg (ev_lenLL (ell_mm m1 (ev_var rfl) (by decide +kernel) ea_nil (spll_corners m1 hM))) (fun H2 e2 => ?_)
  have m2 := m1.ex e2
  refine q_asg (ev_lenLL (ell_mm m2 (ev_var rfl) (by decide +kernel) ea_nil (spll_pieces m2 hM h64))) (fun H3 e3 => ?_)
  have m3 := m2.ex e3
  refine q_asg (ev_edges m3 (ev_var rfl)) (fun H4 e4 => ?_)
  have hl1 := cycs_len (stp ns true) ns.length ns.length
  have hl2 := cycs_len (stp ns false) ns.length ns.length
  refine q_asg (v := vi g) (ev_is (ev_op (ev_var rfl) (ev_op (ev_op (ev_op (ev_var rfl) (ev_var rfl) rv_I0) (ev_var rfl) rv_I0) ev_c (rv_I ⟨by decide, by decide⟩)) rv_I0) ?_) (fun H5 e5 => ?_)
  · dsimp only
    unfold Hnd at hg
    rw [Int.fdiv_eq_ediv_of_nonneg _ (by decide)]
    congr 1
    omega
  · have ex := (((e1.trans e2).trans e3).trans e4).trans e5
    exact s_retU (eu_tup (ea_cons (ev_var rfl) (ea_cons (ev_var rfl) (ea_cons (ev_var rfl) (ea_2 (ev_var rfl) (ev_var rfl))))) (by show 5 ≤ 100000; decide)) (fun T H6 hT e6 h6 => k T H6 g hg (fresh_back ex hT) (ex.trans e6) h6)
theorem LA.get {H : Hp} : ∀ {as : List Addr} {xss : List (List Nat)} {i : Nat} {a : Addr}, LA H as xss → as[i]? = some a → ∃ xs, xss[i]? = some xs ∧ H a = some (.lst (L xs))
  | _, _, 0, _, .cons r _, h => ⟨_, rfl, by rw [← Option.some.inj h]; exact r⟩
  | _, _, i + 1, a, .cons _ t, h => LA.get (i := i) t h
theorem in_cycs {f : Nat → Nat} {N : Nat} (P : Pf f N) {a : Nat} (ha : a < N) : ∃ xs ∈ cycs f N N, a ∈ xs := by
  obtain ⟨s, hs, hmin⟩ := least (P := fun y => y ∈ rnd f N a) ⟨a, rnd_self P ha⟩
  have hs' := rnd_lt P ha hs
  refine ⟨rnd f N s, ?_, rnd_symm P ha hs⟩
  unfold cycs
  refine List.mem_map.mpr ⟨s, List.mem_filter.mpr ⟨List.mem_range.mpr hs', isMin_iff.mpr fun y hy => hmin y (rnd_trans P ha hs hy)⟩, rfl⟩
def sp_Ltogether (K : PySem.W.Frag) : Sp := fun vs H Q _ => ∃ (p : Addr) (a b N : Nat) (f : Nat → Nat), vs = [.ref p, vi a, vi b] ∧ LL H p (cycs f N N) ∧ Pf f N ∧ a < N ∧ b < N ∧ ∀ H', Ex H H' → Q (.bl (decide (b ∈ rnd f N a))) H'
abbrev nm_Ltogether : List Str := ["_law_lists", "_law_first", "_law_second", "_law_members"]
abbrev pr_Ltogether : List Str := ["_law_lists", "_law_first", "_law_second"]
def t_Ltogether (K : PySem.W.Frag) : TS :=
  (tSeq (tFor (iList K (tVar 0)) (gName 3) (tIfS (tTest (tOp (rIn K false) (tVar 1) (tVar 3))) (tRet (tOp (rIn K false) (tVar 2) (tVar 3))) tNext))
  (tRet (tC (.bl false))))
abbrev Wt_Ltogether (K : PySem.W.Frag) (vs : List V) (H : Hp) (Q : VK) : Prop := t_Ltogether K { nx := fun _ H' => Q .non H', rt := Q } (start nm_Ltogether vs) H
theorem ln_Ltogether {K : PySem.W.Frag} (vs : List V) (H : Hp) (Q : VK) (E : XK) (h : sp_Ltogether K vs H Q E) : vs.length = pr_Ltogether.length := by
  obtain ⟨_, _, _, _, _, rfl, _⟩ := h
  rfl
theorem rd_Ltogether {K : PySem.W.Frag} (F : KF K) (vs : List V) (H : Hp) (Q : VK) (E : XK) (h : sp_Ltogether K vs H Q E) : Wt_Ltogether K vs H Q := by
  obtain ⟨p, a, b, N, f, rfl, hl, P, ha, hb, k⟩ := h
  show t_Ltogether K _ [some (.ref p), some (vi a), some (vi b), none] H
  obtain ⟨as, h1, h2⟩ := id hl
  have al : as.length = (cycs f N N).length := Paired.length h2
  refine q_forLn (ev_var rfl) (sq_of h1) (fun i σ' H' => ∃ v3, σ' = [some (.ref p), some (vi a), some (vi b), v3] ∧ Ex H H' ∧ ∀ j xs, j < i → (cycs f N N)[j]? = some xs → a ∉ xs) (fun H1 e1 => ⟨_, rfl, e1, fun j _ hj => absurd hj (Nat.not_lt_zero _)⟩) ?_ ?_ ?_
  · rintro i σ' H' _ ⟨_, _, ex, _⟩
    exact sq_of (ex _ _ h1)
  · rintro i y σ' H' hy ⟨v3, rfl, ex, no⟩
    rw [List.getElem?_map] at hy
    obtain ⟨c, hc, rfl⟩ : ∃ c, as[i]? = some c ∧ V.ref c = y := by
      cases q : as[i]? with
      | none => rw [q] at hy; cases hy
      | some c => rw [q] at hy; exact ⟨c, rfl, Option.some.inj hy⟩
    obtain ⟨xs, hx, hH⟩ := LA.get h2 hc
    have hH' := ex _ _ hH
    refine s_when (et_test (ev_op (ev_var rfl) (ev_var rfl) (rv_isL (sq_of hH') rfl (flat_L xs)))) (fun hb1 H1 e1 => ?_) (fun hb1 H1 e1 => ⟨_, rfl, ex.trans e1, fun j ys hj hys => ?_⟩)
    · rw [inV_L] at hb1
      have hin := of_decide_eq_true hb1
      refine s_ret (ev_is (w := .bl (decide (b ∈ rnd f N a))) (ev_op (ev_var rfl) (ev_var rfl) (rv_isL (sq_of (e1 _ _ hH')) rfl (flat_L xs))) ?_) (fun H2 e2 => k H2 ((ex.trans e1).trans e2))
      rw [inV_L]
      have hm := List.mem_of_getElem? hx
      unfold cycs at hm
      obtain ⟨s, hs, rfl⟩ := List.mem_map.mp hm
      have hsN := List.mem_range.mp (List.mem_filter.mp hs).1
      have e : (b ∈ rnd f N s) ↔ (b ∈ rnd f N a) := ⟨fun z => rnd_trans P ha (rnd_symm P hsN hin) z, fun z => rnd_trans P hsN hin z⟩
      congr 1
      exact decide_eq_decide.mpr e
    · by_cases q : j = i
      · subst q
        rw [hx] at hys
        rw [← Option.some.inj hys]
        intro z
        rw [inV_L, decide_eq_true z] at hb1
        cases hb1
      · exact no j ys (by omega) hys
  · rintro σ' H' ⟨v3, rfl, ex, no⟩
    rw [List.length_map, al] at no
    obtain ⟨xs, hm, hin⟩ := in_cycs P ha
    obtain ⟨j, hj, e⟩ := List.mem_iff_getElem.mp hm
    exact absurd hin (no j xs hj (by rw [List.getElem?_eq_getElem hj, e]))
end Hm
namespace Hm
open PySem PySem.Spec PyProof.Rows L2 Evl
section
variable {K : PySem.W.Frag} {σ : L2.St} {H : Hp} {ta tb te : TE} {D : Ends} {tz tu : TS} {E : XK} {sp : Sp} {tp : TA} {vs : List V} {i : Nat}
theorem s_for2T {t1 t2 : TE} {j : Nat} {a b : V} (h1 : EvU t1 σ H [a, b]) (h2 : EvU t2 σ H [b, a]) (I : L2.St → Prop) (hI : I σ)
    (body : ∀ T u v σ' H' (D' : Ends), I σ' → Ex H H' → H' T = some (.tup [u, v]) → (u = a ∧ v = b ∨ u = b ∧ v = a) → D'.rt = D.rt → (∀ H2, Ex H' H2 → D'.nx (σ'.set j (some (.ref T))) H2) → tu D' (σ'.set j (some (.ref T))) H')
    (hset : ∀ σ' T, I σ' → I (σ'.set j (some (.ref T)))) (k : ∀ σ' H', I σ' → Ex H H' → D.nx σ' H') : tFor (iList K (tLst (tCons t1 (tCons t2 tNil)))) (gName j) tu D σ H :=
  h1 H (Ex.refl H) _ fun p1 H1 hp1 e1 g1 => h2 H1 e1 _ fun p2 H2 hp2 e2 g2 => ⟨by show 2 ≤ sizeLine; decide, fun pl hpl => ⟨pl, rfl, ⟨_, sq_of upd_same⟩, by
    have x2 := e1.trans e2
    have xl : Ex H2 (upd H2 pl (.lst [.ref p1, .ref p2])) := Ex.new hpl
    refine for_list (xs := [V.ref p1, V.ref p2]) (fun i σ' H' => I σ' ∧ Ex (upd H2 pl (.lst [.ref p1, .ref p2])) H') ⟨hI, Ex.refl _⟩ (fun i σ' H' _ q => sq_of (q.2 _ _ upd_same)) (fun i y σ' H' hy q => ?_) (fun σ' H' q => k σ' H' q.1 ((x2.trans xl).trans q.2))
    obtain ⟨q1, q2⟩ := q
    have x3 := (x2.trans xl).trans q2
    match i, hy with
    | 0, hy =>
      obtain rfl := Option.some.inj hy
      exact body p1 a b σ' H' _ q1 x3 (q2 _ _ (xl _ _ (e2 _ _ g1))) (.inl ⟨rfl, rfl⟩) rfl (fun H4 e4 => ⟨hset _ _ q1, q2.trans e4⟩)
    | 1, hy =>
      obtain rfl := Option.some.inj hy
      exact body p2 b a σ' H' _ q1 x3 (q2 _ _ (xl _ _ g2)) (.inr ⟨rfl, rfl⟩) rfl (fun H4 e4 => ⟨hset _ _ q1, q2.trans e4⟩)
    | n + 2, hy => cases hy⟩⟩
theorem q_asgCand {c : Int} {t2 : TE} (hp : EvA tp σ H vs) (k : ∀ H1, Ex H H1 → sp vs H1 (fun v H2 => rEq v (.int c) H2 (fun z H3 => ∃ b, z = .bl b ∧ (if b = true then t2 σ H3 (fun w H4 => tz D (σ.set i (some w)) H4) else tz D (σ.set i (some (.bl false))) H3))) E) :
    tSeq (tAsg (tAndV (tOp rEq (tCall sp [] E tp) (tC (.int c))) t2) (gName i)) tz D σ H := c_call (Q := fun v H2 => rEq v (.int c) H2 (fun z H3 => ∃ b, z = .bl b ∧ (if b = true then t2 σ H3 (fun w H4 => tz D (σ.set i (some w)) H4) else tz D (σ.set i (some (.bl false))) H3))) hp k
theorem q_methM {x : Addr} {ns : List Nat} {m : Str} (mm : MeshAt K H x ns) (h : Ev ta σ H (.ref x)) (hm : (decide (m = "_nexts") || decide (m = "_prevs") || decide (m = "_turns")) = false) (k : ∀ H1, Ex H H1 → sp [.ref x] H1 (fun v H2 => tz D (σ.set i (some v)) H2) E) :
    tSeq (tAsg (tMeth (He.ga K "Mesh") m sp [] E ta tNil) (gName i)) tz D σ H := h H (Ex.refl H) _ fun H1 e1 => by
  obtain ⟨dx, l1, l2, l3, a, _⟩ := mm.ex e1
  exact ⟨x, dx, _, rfl, a, noM _ _ _ hm, k H1 e1⟩
theorem eu_sl {tl th : TO} {a : Addr} {xs : List V} {lo hi : Option Int} (h : Ev te σ H (.ref a)) (h1 : EvO tl σ H lo) (h2 : EvO th σ H hi) (hs : H a = some (.tup xs)) (nf : ¬ (HT.sIx xs.length 0 lo = 0 ∧ HT.sIx xs.length xs.length hi = xs.length)) : EvU (tSl (rSlT K) te tl th) σ H (cutV xs lo hi) := fun H1 e _ q =>
  h H1 e _ fun H2 e2 => h1 H2 (e.trans e2) _ fun H3 e3 => h2 H3 ((e.trans e2).trans e3) _ fun H4 e4 => ⟨a, xs, rfl, st_of ((((e.trans e2).trans e3).trans e4) _ _ hs), nf, fun p hp => q p _ (fresh_back ((e2.trans e3).trans e4) hp) (((e2.trans e3).trans e4).trans (Ex.new hp)) upd_same⟩
theorem ev_neLL1 {a : Addr} {xss yss : List (List Nat)} (ha : EvLL ta σ H xss) (hb : ∀ H1, Ex H H1 → Ev tb σ H1 (.ref a)) (h : LL H a yss) : Ev (tOp (rNeD K) ta tb) σ H (.bl (!decide (xss = yss))) := fun H1 e Q q =>
  ha H1 e _ fun p H2 hp e2 h2 => hb H2 (e.trans e2) H2 (Ex.refl H2) _ fun H3 e3 => rv_neNN (h2.ll.ex e3) (h.ex ((e.trans e2).trans e3)) H3 (Ex.refl H3) Q fun H4 e4 => q H4 ((e2.trans e3).trans e4)
end
def dT (ns : List Nat) : PyData := .tuple (ns.map fun n : Nat => PyData.int (n : Int))
theorem shaped_dT (ns : List Nat) : SeqAt.shaped (dT ns) = true := by
  obtain ⟨h1, h2⟩ := lay_ints ns
  unfold SeqAt.shaped dT
  have e1 : PyData.canLay0 (.tuple (ns.map fun n : Nat => PyData.int (n : Int))) = true := by simp [PyData.canLay0, h1]
  have e2 : PyData.depth (.tuple (ns.map fun n : Nat => PyData.int (n : Int))) ≤ 64 := by simp [PyData.depth, h2]
  rw [e1, decide_eq_true e2]
  rfl
theorem eqv_dT (ns : List Nat) : PyData.eqv (dT ns) (dT ns) = true := by
  unfold dT
  simp only [PyData.eqv]
  rw [eqv_ints, decide_eq_true rfl]
theorem rv_neT {K : PySem.W.Frag} {H : Hp} {a b : Addr} {ns : List Nat} (h1 : H a = some (.tup (L ns))) (h2 : H b = some (.tup (L ns))) : RV (rNeD K) (.ref a) (.ref b) H (.bl (!true)) := by
  rw [← eqv_dT ns]
  exact rv_neD' (Dp.tup (st_of h1) (dpAll_L ns)) (Dp.tup (st_of h2) (dpAll_L ns)) (shaped_dT ns) (shaped_dT ns)
end Hm
namespace K12
open PySem PySem.Spec PyProof.Rows L2 Evl Hm
def sp_Lpairs (K : PySem.W.Frag) : Sp := fun vs H Q _ => ∃ (x pf pc t : Addr) (ns : List Nat) (Hb : Hp), vs = [.ref x, .ref pf, .ref pc, .ref t] ∧ Ex Hb H ∧ Hb t = none ∧ MeshAt K Hb x ns ∧ MP ns ∧ 1 ≤ ns.length ∧ LL Hb pf (cyc ns true) ∧ LL Hb pc (cyc ns false) ∧ Tp (H t) ∧ ∀ H', Q (.bl true) H'
abbrev nm_Lpairs : List Str := ["_law_mesh", "_law_faces", "_law_corners", "_law_tape_here", "_law_turn", "_law_first", "_law_second", "_law_pair"]
abbrev pr_Lpairs : List Str := ["_law_mesh", "_law_faces", "_law_corners", "_law_tape_here"]
def t_Lpairs (K : PySem.W.Frag) : TS :=
  (tSeq (tFor (iRng1 (tCons (tC (.int 4)) tNil)) (gName 4) (tSeq (tAsg (tCall (sp_Lpick K) [] E0 (tCons (tVar 3) (tCons (tCB (rOwnLen (He.ga K "Mesh") (sp_Meshlen K) E0) (tCons (tVar 0) tNil)) tNil))) (gName 5))
      (tSeq (tAsg (tCall (sp_Lpick K) [] E0 (tCons (tVar 3) (tCons (tCB (rOwnLen (He.ga K "Mesh") (sp_Meshlen K) E0) (tCons (tVar 0) tNil)) tNil))) (gName 6))
      (tSeq (tIfS (tTest (tOp rEq (tCall (sp_Lpick K) [] E0 (tCons (tVar 3) (tCons (tC (.int 3)) tNil))) (tC (.int 1)))) (tAsg (tVar 5) (gName 6)) tNext)
      (tFor (iList K (tLst (tCons (tTup (tCons (tVar 5) (tCons (tVar 6) tNil))) (tCons (tTup (tCons (tVar 6) (tCons (tVar 5) tNil))) tNil)))) (gName 7) (tSeq (tIfS (tTest (tOp rNe (tMeth (He.ga K "Mesh") "is_one_face" (sp_Meshisoneface K) [] E0 (tVar 0) (tCons (tOp (rIxT K) (tVar 7) (tC (.int 0))) (tCons (tOp (rIxT K) (tVar 7) (tC (.int 1))) tNil))) (tCall (sp_Ltogether K) [] E0 (tCons (tVar 1) (tCons (tVar 5) (tCons (tVar 6) tNil)))))) (tRet (tC (.bl false))) tNext)
        (tIfS (tTest (tOp rNe (tMeth (He.ga K "Mesh") "is_one_corner" (sp_Meshisonecorner K) [] E0 (tVar 0) (tCons (tOp (rIxT K) (tVar 7) (tC (.int 0))) (tCons (tOp (rIxT K) (tVar 7) (tC (.int 1))) tNil))) (tCall (sp_Ltogether K) [] E0 (tCons (tVar 2) (tCons (tVar 5) (tCons (tVar 6) tNil)))))) (tRet (tC (.bl false))) tNext)))))))
  (tRet (tC (.bl true))))
abbrev Wt_Lpairs (K : PySem.W.Frag) (vs : List V) (H : Hp) (Q : VK) : Prop := t_Lpairs K { nx := fun _ H' => Q .non H', rt := Q } (start nm_Lpairs vs) H
theorem ln_Lpairs {K : PySem.W.Frag} (vs : List V) (H : Hp) (Q : VK) (E : XK) (h : sp_Lpairs K vs H Q E) : vs.length = pr_Lpairs.length := by
  obtain ⟨_, _, _, _, _, _, rfl, _⟩ := h
  rfl
theorem rnd_sy {ns : List Nat} (hM : MP ns) {b : Bool} {u v : Nat} (hu : u < ns.length) (hv : v < ns.length) : decide (v ∈ rnd (stp ns b) ns.length u) = decide (u ∈ rnd (stp ns b) ns.length v) :=
  decide_eq_decide.mpr ⟨fun z => rnd_symm (pf_stp hM.p hM.two b) hu z, fun z => rnd_symm (pf_stp hM.p hM.two b) hv z⟩
theorem rd_Lpairs {K : PySem.W.Frag} (F : KF K) (vs : List V) (H : Hp) (Q : VK) (E : XK) (h : sp_Lpairs K vs H Q E) : Wt_Lpairs K vs H Q := by
  obtain ⟨x, pf, pc, t, ns, Hb, rfl, xb, ht, hm, hM, h1, lf, lc, hT, k⟩ := h
  show t_Lpairs K _ [some (.ref x), some (.ref pf), some (.ref pc), some (.ref t), none, none, none, none] H
  have nl := hM.len
  have keep : ∀ {H1 H2 H3 : Hp}, Ex Hb H1 → Ex H1 H2 → ExO t H2 H3 → Ex Hb H3 := fun a b c z o hz => c z o (ne_of_none hz ht) (b _ _ (a z o hz))
  refine q_forR1 (n := 4) (ea_1 ev_c) (by omega) (fun i σ' H' => ∃ v4 v5 v6 v7, σ' = [some (.ref x), some (.ref pf), some (.ref pc), some (.ref t), v4, v5, v6, v7] ∧ Ex Hb H' ∧ Tp (H' t)) (fun H1 e1 => ⟨_, _, _, _, rfl, xb.trans e1, tp_ex hT e1⟩) ?_ ?_
  · rintro i σ' H1 hi ⟨v4, v5, v6, v7, rfl, x1, t1⟩
    have lenN : ∀ {σ : L2.St} {H2 : Hp}, σ[0]? = some (some (V.ref x)) → Ex Hb H2 → Ev (tCB (rOwnLen (He.ga K "Mesh") (sp_Meshlen K) E0) (tCons (tVar 0) tNil)) σ H2 (.int (ns.length : Int)) := fun s0 e => ev_cb (ea_1 (ev_var s0)) (rc_ownLen (hm.ex e) nl)
    refine q_asgC (ea_2 (ev_var rfl) (lenN rfl x1)) (fun H2 e2 => ⟨t, _, rfl, tp_ex t1 e2, by omega, by omega, fun a H3 a0 a1 t3 o3 => ?_⟩)
    obtain ⟨a, rfl⟩ : ∃ n : Nat, a = (n : Int) := ⟨a.toNat, by omega⟩
    have x3 := keep x1 e2 o3
    refine q_asgC (ea_2 (ev_var rfl) (lenN rfl x3)) (fun H4 e4 => ⟨t, _, rfl, tp_ex t3 e4, by omega, by omega, fun b H5 b0 b1 t5 o5 => ?_⟩)
    obtain ⟨b, rfl⟩ : ∃ n : Nat, b = (n : Int) := ⟨b.toNat, by omega⟩
    have x5 := keep x3 e4 o5
    have ha : a < ns.length := by omega
    have inner : ∀ (b : Nat) (H' : Hp) (w7 : Option V), b < ns.length → Ex Hb H' → Tp (H' t) →
        tFor (iList K (tLst (tCons (tTup (tCons (tVar 5) (tCons (tVar 6) tNil))) (tCons (tTup (tCons (tVar 6) (tCons (tVar 5) tNil))) tNil)))) (gName 7) (tSeq (tIfS (tTest (tOp rNe (tMeth (He.ga K "Mesh") "is_one_face" (sp_Meshisoneface K) [] E0 (tVar 0) (tCons (tOp (rIxT K) (tVar 7) (tC (.int 0))) (tCons (tOp (rIxT K) (tVar 7) (tC (.int 1))) tNil))) (tCall (sp_Ltogether K) [] E0 (tCons (tVar 1) (tCons (tVar 5) (tCons (tVar 6) tNil)))))) (tRet (tC (.bl false))) tNext)
        (tIfS (tTest (tOp rNe (tMeth (He.ga K "Mesh") "is_one_corner" (sp_Meshisonecorner K) [] E0 (tVar 0) (tCons (tOp (rIxT K) (tVar 7) (tC (.int 0))) (tCons (tOp (rIxT K) (tVar 7) (tC (.int 1))) tNil))) (tCall (sp_Ltogether K) [] E0 (tCons (tVar 2) (tCons (tVar 5) (tCons (tVar 6) tNil)))))) (tRet (tC (.bl false))) tNext))
        { nx := fun σ' H' => ∃ v4 v5 v6 v7, σ' = [some (.ref x), some (.ref pf), some (.ref pc), some (.ref t), v4, v5, v6, v7] ∧ Ex Hb H' ∧ Tp (H' t), rt := Q, bk := tRet (tC (.bl true)) { nx := fun _ H' => Q .non H', rt := Q }, ct := fun σ' H' => ∃ v4 v5 v6 v7, σ' = [some (.ref x), some (.ref pf), some (.ref pc), some (.ref t), v4, v5, v6, v7] ∧ Ex Hb H' ∧ Tp (H' t) }
        [some (.ref x), some (.ref pf), some (.ref pc), some (.ref t), some (vi i), some (vi a), some (vi b), w7] H' := by
      intro b H' w7 hb xb' tb'
      refine s_for2T (a := vi a) (b := vi b) (eu_tup (ea_2 (ev_var rfl) (ev_var rfl)) (by show 2 ≤ 100000; decide)) (eu_tup (ea_2 (ev_var rfl) (ev_var rfl)) (by show 2 ≤ 100000; decide)) (fun σ' => ∃ w, σ' = [some (.ref x), some (.ref pf), some (.ref pc), some (.ref t), some (vi i), some (vi a), some (vi b), w]) ⟨_, rfl⟩ ?_ ?_ ?_
      · rintro T u v σ' H6 D' ⟨w, rfl⟩ e6 hT6 huv hrt hk
        obtain ⟨u', v', rfl, rfl, hu', hv', hsame⟩ : ∃ u' v' : Nat, u = vi u' ∧ v = vi v' ∧ u' < ns.length ∧ v' < ns.length ∧ ∀ bb, decide (v' ∈ rnd (stp ns bb) ns.length u') = decide (b ∈ rnd (stp ns bb) ns.length a) := by
          rcases huv with ⟨rfl, rfl⟩ | ⟨rfl, rfl⟩
          · exact ⟨a, b, rfl, rfl, ha, hb, fun _ => rfl⟩
          · exact ⟨b, a, rfl, rfl, hb, ha, fun bb => rnd_sy hM hb ha⟩
        have x6 := xb'.trans e6
        have m6 := hm.ex x6
        refine q_when (et_test (ev_op (ev_mm m6 (ev_var rfl) (by decide +kernel) (ea_2 (ev_ixT rfl hT6 rfl) (ev_ixT rfl hT6 rfl)) (fun H7 e7 Q2 q2 E2 => ⟨x, ns, u', v', rfl, m6.ex e7, hM, hu', hv', q2⟩)) (ev_call (ea_cons (ev_var rfl) (ea_2 (ev_var rfl) (ev_var rfl))) (fun H7 e7 Q2 q2 E2 => ⟨pf, a, b, ns.length, stp ns true, rfl, (lf.ex x6).ex e7, pf_stp hM.p hM.two true, ha, hb, q2⟩)) (rv_ne rfl))) (fun hb1 => ?_) (fun _ H7 e7 => ?_)
        · rw [hsame true, decide_eq_true rfl] at hb1
          cases hb1
        have m7 := m6.ex e7
        refine s_when (et_test (ev_op (ev_mm m7 (ev_var rfl) (by decide +kernel) (ea_2 (ev_ixT rfl (e7 _ _ hT6) rfl) (ev_ixT rfl (e7 _ _ hT6) rfl)) (fun H8 e8 Q2 q2 E2 => ⟨x, ns, u', v', rfl, m7.ex e8, hM, hu', hv', q2⟩)) (ev_call (ea_cons (ev_var rfl) (ea_2 (ev_var rfl) (ev_var rfl))) (fun H8 e8 Q2 q2 E2 => ⟨pc, a, b, ns.length, stp ns false, rfl, ((lc.ex x6).ex e7).ex e8, pf_stp hM.p hM.two false, ha, hb, q2⟩)) (rv_ne rfl))) (fun hb1 => ?_) (fun _ H8 e8 => hk H8 (e7.trans e8))
        rw [hsame false, decide_eq_true rfl] at hb1
        cases hb1
      · rintro σ' T ⟨w, rfl⟩
        exact ⟨_, rfl⟩
      · rintro σ' H6 ⟨w, rfl⟩ e6
        exact ⟨_, _, _, _, rfl, xb'.trans e6, tp_ex tb' e6⟩
    refine q_ifEqC (ea_2 (ev_var rfl) ev_c) (fun H6 e6 => ⟨t, 3, rfl, tp_ex t5 e6, by decide, by decide, fun d H7 d0 d1 t7 o7 => ⟨rfl, ?_⟩⟩)
    have x7 := keep x5 e6 o7
    split
    · exact s_asg (v := vi a) (ev_var rfl) (fun H8 e8 => inner a H8 v7 ha (x7.trans e8) (tp_ex t7 e8))
    · exact inner b H7 v7 (by omega) x7 t7
  · rintro σ' H1 ⟨v4, v5, v6, v7, rfl, x1, t1⟩
    exact s_ret ev_c (fun H2 _ => k H2)
end K12
namespace K12
open PySem PySem.Spec PyProof.Rows L2 Evl Hm
def t_lawB (K : PySem.W.Frag) : TS :=
  (tSeq (tAsg (tMake (He.ga K "Mesh") (sp_Meshinit K) [] E0 (tCons (tVar 4) tNil)) (gName 5))
  (tSeq (tAsg (tCall (sp_Lrounds K) [] E0 (tCons (tVar 4) (tCons (tC (.bl true)) tNil))) (gName 6))
  (tSeq (tAsg (tCall (sp_Lrounds K) [] E0 (tCons (tVar 4) (tCons (tC (.bl false)) tNil))) (gName 7))
  (tSeq (tAsg (tCall (sp_Lpieces K) [] E0 (tCons (tVar 4) tNil)) (gName 8))
  (tSeq (tAsg (tMeth (He.ga K "Mesh") "counts" (sp_Meshcounts K) [] E0 (tVar 5) tNil) (gName 9))
  (tSeq (tIfS (tOr (tNot (tB (tCB (rIsi K) (tCons (tVar 9) (tCons (tC (.ty "tuple")) tNil))))) (tOr (tTest (tOp rNe (tCB (cLen K) (tCons (tVar 9) tNil)) (tC (.int 5)))) (tTest (tOp rNe (tProp (He.ga K "Mesh") (sp_Meshedges K) [] E0 (tVar 5)) (tVar 2))))) (tRet (tC (.bl false))) tNext)
  (tSeq (tIfS (tOr (tTest (tOp (rNeD K) (tSl (rSlT K) (tVar 9) tNoPart (tPart (tC (.int 4)))) (tTup (tCons (tCB (cLen K) (tCons (tVar 6) tNil)) (tCons (tCB (cLen K) (tCons (tVar 7) tNil)) (tCons (tVar 2) (tCons (tCB (cLen K) (tCons (tVar 8) tNil)) tNil))))))) (tTest (tOp zLt (tOp (rIxT K) (tVar 9) (tC (.int 4))) (tC (.int 0))))) (tRet (tC (.bl false))) tNext)
  (tSeq (tIfS (tTest (tOp rNe (tOp zAdd (tOp zSub (tCB (cLen K) (tCons (tVar 7) tNil)) (tVar 2)) (tCB (cLen K) (tCons (tVar 6) tNil))) (tOp zSub (tOp zMul (tC (.int 2)) (tCB (cLen K) (tCons (tVar 8) tNil))) (tOp zMul (tC (.int 2)) (tOp (rIxT K) (tVar 9) (tC (.int 4))))))) (tRet (tC (.bl false))) tNext)
  (tSeq (tAsg (tMeth (He.ga K "Mesh") "pieces" (sp_Meshpieces K) [] E0 (tVar 5) tNil) (gName 10))
  (tSeq (tIfS (tOr (tNot (tB (tCB (rIsi K) (tCons (tVar 10) (tCons (tC (.ty "list")) tNil))))) (tTest (tOp (rNeD K) (tVar 10) (tVar 8)))) (tRet (tC (.bl false))) tNext)
  (tSeq (tFor (iList K (tVar 10)) (gName 11) (tDrop (tBM K "list" rAppend (tVar 11) (tCons (tC (.int 99)) tNil))))
  (tSeq (tIfS (tTest (tOp (rNeD K) (tMeth (He.ga K "Mesh") "pieces" (sp_Meshpieces K) [] E0 (tVar 5) tNil) (tVar 8))) (tRet (tC (.bl false))) tNext)
  (tRet (tOrV (tOp rEq (tVar 2) (tC (.int 0))) (tCall (sp_Lpairs K) [] E0 (tCons (tVar 5) (tCons (tVar 6) (tCons (tVar 7) (tCons (tCall (sp_Ltape K) [] E0 (tCons (tVar 0) (tCons (tC (.int 2)) tNil))) tNil)))))))))))))))))))
def t_lawC (K : PySem.W.Frag) : TS :=
  (tSeq (tAsg (tMeth (He.ga K "Mesh") "pieces" (sp_Meshpieces K) [] E0 (tVar 5) tNil) (gName 10))
  (tSeq (tIfS (tOr (tNot (tB (tCB (rIsi K) (tCons (tVar 10) (tCons (tC (.ty "list")) tNil))))) (tTest (tOp (rNeD K) (tVar 10) (tVar 8)))) (tRet (tC (.bl false))) tNext)
  (tSeq (tFor (iList K (tVar 10)) (gName 11) (tDrop (tBM K "list" rAppend (tVar 11) (tCons (tC (.int 99)) tNil))))
  (tSeq (tIfS (tTest (tOp (rNeD K) (tMeth (He.ga K "Mesh") "pieces" (sp_Meshpieces K) [] E0 (tVar 5) tNil) (tVar 8))) (tRet (tC (.bl false))) tNext)
  (tRet (tOrV (tOp rEq (tVar 2) (tC (.int 0))) (tCall (sp_Lpairs K) [] E0 (tCons (tVar 5) (tCons (tVar 6) (tCons (tVar 7) (tCons (tCall (sp_Ltape K) [] E0 (tCons (tVar 0) (tCons (tC (.int 2)) tNil))) tNil)))))))))))
theorem s_retOr {σ : L2.St} {H : Hp} {ta tb : TE} {D : Ends} {c : Bool} (h : Ev ta σ H (.bl c)) (h1 : c = true → ∀ H1, Ex H H1 → D.rt (.bl true) H1) (h2 : c = false → ∀ H1, Ex H H1 → tb σ H1 D.rt) : tRet (tOrV ta tb) D σ H := h H (Ex.refl H) _ fun H1 e1 => ⟨c, rfl, by
  cases c with
  | true => exact h1 rfl H1 e1
  | false => exact h2 rfl H1 e1⟩
/-- the inner lists get one more -/
theorem lawC {K : PySem.W.Frag} {Q : VK} {w1 w3 w9 : Option V} {a r x pf pc pp : Addr} {zs : List Int} {ms : List Nat} {e : Nat} {H : Hp} (hS : SqL K H a (zs.map V.int)) (hm : MeshAt K H x ms) (hM : MP ms) (h64 : ms.length < 64) (hN : ms.length = 2 * e)
    (lf : LL H pf (cyc ms true)) (lc : LL H pc (cyc ms false)) (lp : LL H pp (piecesL (fn ms) ms.length ms.length)) (k : ∀ H', Q (.bl true) H') :
    t_lawC K { nx := fun _ H' => Q .non H', rt := Q } [some (.ref a), w1, some (.int (e : Int)), w3, some (.ref r), some (.ref x), some (.ref pf), some (.ref pc), some (.ref pp), w9, none, none, none] H := by
  refine q_asgLL (ell_mm hm (ev_var rfl) (by decide +kernel) ea_nil (spll_pieces hm hM h64)) (fun fp H1 hfp e1 l1 => ?_)
  have lp1 := lp.ex e1
  obtain ⟨as, f1, f2, f3⟩ := l1
  refine q_when (b := !true || !decide (piecesL (fn ms) ms.length ms.length = piecesL (fn ms) ms.length ms.length)) (et_or (et_not (et_B (ev_cb (ea_2 (ev_var rfl) ev_c) (rc_isL f1)))) (fun _ => et_test (ev_op (ev_var rfl) (ev_var rfl) (rv_neNN ⟨as, f1, f2⟩ lp1)))) (fun hb => ?_) (fun _ H2 e2 => ?_)
  · simp at hb
  have al : as.length = (piecesL (fn ms) ms.length ms.length).length := Paired.length f2
  have small : ∀ c ∈ as, ∃ ys : List V, H2 c = some (.lst ys) ∧ ys.length ≤ 64 := fun c hc => by
    obtain ⟨xs, hx, q⟩ := LA.items f2 c hc
    refine ⟨_, e2 _ _ q, ?_⟩
    rw [L_len]
    unfold piecesL at hx
    obtain ⟨s, _, rfl⟩ := List.mem_map.mp hx
    have := List.length_filter_le (relB (Rch (fn ms)) s) (List.range ms.length)
    rw [List.length_range] at this
    unfold pieceL
    omega
  have pl : (piecesL (fn ms) ms.length ms.length).length ≤ ms.length := by
    unfold piecesL
    rw [List.length_map]
    have := List.length_filter_le (minB ms.length (Rch (fn ms))) (List.range ms.length)
    rw [List.length_range] at this
    exact this
  refine q_forLn (ev_var rfl) (sq_of (e2 _ _ f1)) (fun i σ' H' => ∃ w11, σ' = [some (.ref a), w1, some (.int (e : Int)), w3, some (.ref r), some (.ref x), some (.ref pf), some (.ref pc), some (.ref pp), w9, some (.ref fp), w11, none] ∧ Ex H H' ∧ H' fp = some (.lst (as.map V.ref)) ∧ ∀ c ∈ as, ∃ ys : List V, H' c = some (.lst ys) ∧ ys.length ≤ 64 + i) ?_ ?_ ?_ ?_
  · intro H3 e3
    refine ⟨_, rfl, e1.trans (e2.trans e3), e3 _ _ (e2 _ _ f1), fun c hc => ?_⟩
    obtain ⟨ys, q1, q2⟩ := small c hc
    exact ⟨ys, e3 _ _ q1, q2⟩
  · rintro i σ' H' _ ⟨_, _, _, q, _⟩
    exact sq_of q
  · rintro i y σ' H' hy ⟨w11, rfl, ex, q, inn⟩
    have hi := (List.getElem?_eq_some_iff.mp hy).1
    rw [List.length_map] at hi
    rw [List.getElem?_map, List.getElem?_eq_getElem hi] at hy
    obtain rfl : V.ref as[i] = y := Option.some.inj hy
    have hc := List.getElem_mem hi
    obtain ⟨ys, q1, q2⟩ := inn _ hc
    refine s_app q1 (ev_var rfl) ev_c (by omega) (fun H4 e4 => ?_)
    have hne : fp ≠ as[i] := (f3 _ hc).2.symm
    refine ⟨_, rfl, (ex.trans e4).mut (f3 _ hc).1, by rw [upd_ne hne]; exact e4 _ _ q, fun c hc' => ?_⟩
    by_cases z : c = as[i]
    · rw [z, upd_same]
      exact ⟨_, rfl, by rw [List.length_append]; show ys.length + 1 ≤ _; omega⟩
    · obtain ⟨zs, z1, z2⟩ := inn c hc'
      exact ⟨zs, by rw [upd_ne z]; exact e4 _ _ z1, by omega⟩
  · rintro σ' H' ⟨w11, rfl, ex, _, _⟩
    have m' := hm.ex ex
    have lp' := lp.ex ex
    refine q_when (b := !decide (piecesL (fn ms) ms.length ms.length = piecesL (fn ms) ms.length ms.length)) (et_test (ev_neLL1 (ell_mm m' (ev_var rfl) (by decide +kernel) ea_nil (spll_pieces m' hM h64)) (fun H4 e4 => ev_var rfl) lp')) (fun hb => ?_) (fun _ H4 e4 => ?_)
    · simp at hb
    have x4 := ex.trans e4
    have hev : Ev (tOp rEq (tVar 2) (tC (.int 0))) [some (.ref a), w1, some (.int (e : Int)), w3, some (.ref r), some (.ref x), some (.ref pf), some (.ref pc), some (.ref pp), w9, some (.ref fp), w11, none] H4 (.bl (decide (V.int (e : Int) = V.int 0))) := ev_op (ev_var rfl) ev_c (rv_eq rfl)
    refine s_retOr hev (fun hz H5 e5 => k H5) (fun hz0 H5 e5 => ?_)
    have he : e ≠ 0 := fun z => by
      have := of_decide_eq_false hz0
      exact this (by rw [z]; rfl)
    have x5 := x4.trans e5
    refine ⟨_, rfl, _, rfl, _, rfl, ?_⟩
    refine c_call (ea_2 (ev_var rfl) ev_c) (fun H6 e6 => ⟨a, zs, 2, rfl, ex_l (x5.trans e6) hS, by decide, by decide, fun t H7 ht tp e7 => ?_⟩)
    exact ⟨x, pf, pc, t, ms, H6, rfl, e7, ht, hm.ex (x5.trans e6), hM, by omega, lf.ex (x5.trans e6), lc.ex (x5.trans e6), tp, fun H8 => k H8⟩
theorem lawB {K : PySem.W.Frag} (F : KF K) {Q : VK} {w1 w3 : Option V} {a r : Addr} {zs : List Int} {ms : List Nat} {e : Nat} {H : Hp} (hS : SqL K H a (zs.map V.int)) (hr : H r = some (.lst (L ms))) (hM : MP ms) (hN : ms.length = 2 * e) (he : e ≤ 30) (k : ∀ H', Q (.bl true) H') :
    t_lawB K { nx := fun _ H' => Q .non H', rt := Q } [some (.ref a), w1, some (.int (e : Int)), w3, some (.ref r), none, none, none, none, none, none, none, none] H := by
  have h64 : ms.length < 64 := by omega
  refine q_mesh (ev_var rfl) (sq_of hr) hM (fun x H1 hx m1 e1 => ?_)
  have m1 := m1.at
  refine q_asgLL (ell_call (ea_2 (ev_var rfl) ev_c) (spll_Lrounds (sq_of (e1 _ _ hr)) hM)) (fun pf H2 hpf e2 l2 => ?_)
  have x2 := e1.trans e2
  refine q_asgLL (ell_call (ea_2 (ev_var rfl) ev_c) (spll_Lrounds (sq_of (x2 _ _ hr)) hM)) (fun pc H3 hpc e3 l3 => ?_)
  have x3 := x2.trans e3
  refine q_asgLL (ell_call (ea_1 (ev_var rfl)) (spll_Lpieces (sq_of (x3 _ _ hr)) hM)) (fun pp H4 hpp e4 l4 => ?_)
  have x4 := x3.trans e4
  have m4 := m1.ex ((e2.trans e3).trans e4)
  have lf := l2.ll.ex (e3.trans e4)
  have lc := l3.ll.ex e4
  have lp := l4.ll
  refine q_methM m4 (ev_var rfl) (by decide +kernel) (fun H5 e5 => ⟨x, ms, rfl, m4.ex e5, hM, h64, fun T H6 g hg hT e6 h6 => ?_⟩)
  have e56 := e5.trans e6
  have lf6 := lf.ex e56
  have lc6 := lc.ex e56
  have lp6 := lp.ex e56
  have m6 := m4.ex e56
  have ehalf : ms.length / 2 = e := by omega
  rw [ehalf] at h6
  refine q_when (b := !true || (!decide (V.int 5 = V.int 5) || !decide (vi (ms.length / 2) = V.int (e : Int)))) (et_or (et_not (et_B (ev_cb (ea_2 (ev_var rfl) ev_c) (rc_isT h6)))) (fun _ => et_or (et_test (ev_op (ev_cb (ea_1 (ev_var rfl)) (rc_lenT h6)) ev_c (rv_ne rfl))) (fun _ => et_test (ev_op (ev_edges m6 (ev_var rfl)) (ev_var rfl) (rv_ne rfl))))) (fun hb => ?_) (fun _ H7 e7 => ?_)
  · rw [ehalf] at hb
    simp at hb
  have T7 := e7 _ _ h6
  have lf7 := lf6.ex e7
  have lc7 := lc6.ex e7
  have lp7 := lp6.ex e7
  have sl := eu_sl (K := K) (te := tVar 9) (tl := tNoPart) (th := tPart (tC (.int 4))) (σ := [some (.ref a), w1, some (.int (e : Int)), w3, some (.ref r), some (.ref x), some (.ref pf), some (.ref pc), some (.ref pp), some (.ref T), none, none, none]) (H := H7) (lo := none) (hi := some ((4 : Nat) : Int)) (ev_var rfl) eo_none (eo_some ev_c) T7 (by show ¬ (HT.sIx 5 0 none = 0 ∧ HT.sIx 5 5 (some ((4 : Nat) : Int)) = 5); decide)
  rw [cut_to (by show 4 ≤ 5; decide)] at sl
  have tu := eu_tup (σ := [some (.ref a), w1, some (.int (e : Int)), w3, some (.ref r), some (.ref x), some (.ref pf), some (.ref pc), some (.ref pp), some (.ref T), none, none, none]) (ea_cons (ev_cb (ea_1 (ev_var (i := 6) rfl)) (rc_lenLL (K := K) lf7)) (ea_cons (ev_cb (ea_1 (ev_var (i := 7) rfl)) (rc_lenLL (K := K) lc7)) (ea_2 (ev_var (i := 2) (v := .int (e : Int)) rfl) (ev_cb (ea_1 (ev_var (i := 8) rfl)) (rc_lenLL (K := K) lp7))))) (by show 4 ≤ 100000; decide)
  have eg : Ev (tOp (rIxT K) (tVar 9) (tC (.int 4))) [some (.ref a), w1, some (.int (e : Int)), w3, some (.ref r), some (.ref x), some (.ref pf), some (.ref pc), some (.ref pp), some (.ref T), none, none, none] H7 (vi g) := ev_ixT rfl T7 rfl
  refine q_when (b := !true || decide ((g : Int) < 0)) (et_or (et_test (ev_opUU sl tu (fun p q H8 h8 h9 _ => rv_neT (ns := [(cyc ms true).length, (cyc ms false).length, e, (piecesL (fn ms) ms.length ms.length).length]) h8 h9))) (fun _ => et_test (ev_op eg ev_c rv_I0))) (fun hb => ?_) (fun _ H8 e8 => ?_)
  · simp at hb
    omega
  have T8 := e8 _ _ T7
  unfold Hnd at hg
  refine q_when (et_test (ev_op (ev_op (ev_op (ev_cb (ea_1 (ev_var rfl)) (rc_lenLL (lc7.ex e8))) (ev_var rfl) rv_I0) (ev_cb (ea_1 (ev_var rfl)) (rc_lenLL (lf7.ex e8))) rv_I0) (ev_op (ev_op ev_c (ev_cb (ea_1 (ev_var rfl)) (rc_lenLL (lp7.ex e8))) (rv_I (Or.inl ⟨by decide, by decide⟩))) (ev_op ev_c (ev_ixT rfl T8 rfl) (rv_I (Or.inl ⟨by decide, by decide⟩))) rv_I0) (rv_ne rfl))) (fun hb => ?_) (fun _ H9 e9 => ?_)
  · exfalso
    have : ((cyc ms false).length : Int) - (e : Int) + ((cyc ms true).length : Int) = 2 * ((piecesL (fn ms) ms.length ms.length).length : Int) - 2 * (g : Int) := by omega
    rw [Bool.not_eq_true', decide_eq_false_iff_not] at hb
    exact hb (congrArg V.int this)
  have x9 := (e56.trans e7).trans (e8.trans e9)
  exact lawC (ex_l (x4.trans x9) hS) (m4.ex x9) hM h64 hN (lf.ex x9) (lc.ex x9) (lp.ex x9) k
def sp_law (K : PySem.W.Frag) : Sp := fun vs H Q _ => ∃ (a : Addr) (zs : List Int), vs = [.ref a] ∧ SqL K H a (zs.map V.int) ∧ ∀ H', Q (.bl true) H'
abbrev nm_law : List Str := ["_law_script", "_law_tape_here", "_law_edges", "_law_doubled", "_law_nexts_here", "_law_mesh", "_law_faces", "_law_corners", "_law_pieces_here", "_law_counts", "_law_found", "_law_members", "_law_half"]
abbrev pr_law : List Str := ["_law_script"]
def t_law (K : PySem.W.Frag) : TS :=
  (tSeq (tAsg (tCall (sp_Ltape K) [] E0 (tCons (tVar 0) (tCons (tC (.int 0)) tNil))) (gName 1))
  (tSeq (tAsg (tCall (sp_Lsize K) [] E0 (tCons (tVar 1) tNil)) (gName 2))
  (tSeq (tAsg (tAndV (tOp rEq (tCall (sp_Lpick K) [] E0 (tCons (tVar 1) (tCons (tC (.int 4)) tNil))) (tC (.int 1))) (tOp zLt (tVar 2) (tC (.int 15)))) (gName 3))
  (tSeq (tAsg (tCall (sp_Lnexts K) [] E0 (tCons (tCall (sp_Ltape K) [] E0 (tCons (tVar 0) (tCons (tC (.int 1)) tNil))) (tCons (tVar 2) tNil))) (gName 4))
  (tSeq (tIfS (tB (tVar 3)) (tSeq (tAsg (tOp rCat (tVar 4) (tLc (iList K (tVar 4)) (gName 12) tYes (tOp zAdd (tVar 12) (tOp zMul (tC (.int 2)) (tVar 2))) [12])) (gName 4))
      (tAsg (tOp zMul (tC (.int 2)) (tVar 2)) (gName 2))) tNext)
  (tSeq (tAsg (tMake (He.ga K "Mesh") (sp_Meshinit K) [] E0 (tCons (tVar 4) tNil)) (gName 5))
  (tSeq (tAsg (tCall (sp_Lrounds K) [] E0 (tCons (tVar 4) (tCons (tC (.bl true)) tNil))) (gName 6))
  (tSeq (tAsg (tCall (sp_Lrounds K) [] E0 (tCons (tVar 4) (tCons (tC (.bl false)) tNil))) (gName 7))
  (tSeq (tAsg (tCall (sp_Lpieces K) [] E0 (tCons (tVar 4) tNil)) (gName 8))
  (tSeq (tAsg (tMeth (He.ga K "Mesh") "counts" (sp_Meshcounts K) [] E0 (tVar 5) tNil) (gName 9))
  (tSeq (tIfS (tOr (tNot (tB (tCB (rIsi K) (tCons (tVar 9) (tCons (tC (.ty "tuple")) tNil))))) (tOr (tTest (tOp rNe (tCB (cLen K) (tCons (tVar 9) tNil)) (tC (.int 5)))) (tTest (tOp rNe (tProp (He.ga K "Mesh") (sp_Meshedges K) [] E0 (tVar 5)) (tVar 2))))) (tRet (tC (.bl false))) tNext)
  (tSeq (tIfS (tOr (tTest (tOp (rNeD K) (tSl (rSlT K) (tVar 9) tNoPart (tPart (tC (.int 4)))) (tTup (tCons (tCB (cLen K) (tCons (tVar 6) tNil)) (tCons (tCB (cLen K) (tCons (tVar 7) tNil)) (tCons (tVar 2) (tCons (tCB (cLen K) (tCons (tVar 8) tNil)) tNil))))))) (tTest (tOp zLt (tOp (rIxT K) (tVar 9) (tC (.int 4))) (tC (.int 0))))) (tRet (tC (.bl false))) tNext)
  (tSeq (tIfS (tTest (tOp rNe (tOp zAdd (tOp zSub (tCB (cLen K) (tCons (tVar 7) tNil)) (tVar 2)) (tCB (cLen K) (tCons (tVar 6) tNil))) (tOp zSub (tOp zMul (tC (.int 2)) (tCB (cLen K) (tCons (tVar 8) tNil))) (tOp zMul (tC (.int 2)) (tOp (rIxT K) (tVar 9) (tC (.int 4))))))) (tRet (tC (.bl false))) tNext)
  (tSeq (tAsg (tMeth (He.ga K "Mesh") "pieces" (sp_Meshpieces K) [] E0 (tVar 5) tNil) (gName 10))
  (tSeq (tIfS (tOr (tNot (tB (tCB (rIsi K) (tCons (tVar 10) (tCons (tC (.ty "list")) tNil))))) (tTest (tOp (rNeD K) (tVar 10) (tVar 8)))) (tRet (tC (.bl false))) tNext)
  (tSeq (tFor (iList K (tVar 10)) (gName 11) (tDrop (tBM K "list" rAppend (tVar 11) (tCons (tC (.int 99)) tNil))))
  (tSeq (tIfS (tTest (tOp (rNeD K) (tMeth (He.ga K "Mesh") "pieces" (sp_Meshpieces K) [] E0 (tVar 5) tNil) (tVar 8))) (tRet (tC (.bl false))) tNext)
  (tRet (tOrV (tOp rEq (tVar 2) (tC (.int 0))) (tCall (sp_Lpairs K) [] E0 (tCons (tVar 5) (tCons (tVar 6) (tCons (tVar 7) (tCons (tCall (sp_Ltape K) [] E0 (tCons (tVar 0) (tCons (tC (.int 2)) tNil))) tNil))))))))))))))))))))))))
abbrev Wt_law (K : PySem.W.Frag) (vs : List V) (H : Hp) (Q : VK) : Prop := t_law K { nx := fun _ H' => Q .non H', rt := Q } (start nm_law vs) H
theorem ln_law {K : PySem.W.Frag} (vs : List V) (H : Hp) (Q : VK) (E : XK) (h : sp_law K vs H Q E) : vs.length = pr_law.length := by
  obtain ⟨_, _, rfl, _⟩ := h
  rfl
theorem rd_law {K : PySem.W.Frag} (F : KF K) (vs : List V) (H : Hp) (Q : VK) (E : XK) (h : sp_law K vs H Q E) : Wt_law K vs H Q := by
  obtain ⟨a, zs, rfl, hS, k⟩ := h
  show t_law K _ [some (.ref a), none, none, none, none, none, none, none, none, none, none, none, none] H
  refine q_asgC (ea_2 (ev_var rfl) ev_c) (fun H1 e1 => ?_)
  refine ⟨a, zs, 0, rfl, ex_l e1 hS, by decide, by decide, fun t H2 ht tp e2 => ?_⟩
  have x2 := e1.trans e2
  have ht0 : H t = none := fresh_back e1 ht
  refine q_asgC (ea_1 (ev_var rfl)) (fun H3 e3 => ⟨t, rfl, tp_ex tp e3, fun e H4 he t4 o4 => ?_⟩)
  have x4 : Ex H H4 := fun b o hb => o4 b o (ne_of_none hb ht0) (e3 _ _ (x2 b o hb))
  have go : ∀ (dd : Bool) (H6 : Hp), (dd = true → e < 15) → Ex H H6 → (tSeq (tAsg (tCall (sp_Lnexts K) [] E0 (tCons (tCall (sp_Ltape K) [] E0 (tCons (tVar 0) (tCons (tC (.int 1)) tNil))) (tCons (tVar 2) tNil))) (gName 4))
  (tSeq (tIfS (tB (tVar 3)) (tSeq (tAsg (tOp rCat (tVar 4) (tLc (iList K (tVar 4)) (gName 12) tYes (tOp zAdd (tVar 12) (tOp zMul (tC (.int 2)) (tVar 2))) [12])) (gName 4))
      (tAsg (tOp zMul (tC (.int 2)) (tVar 2)) (gName 2))) tNext) (t_lawB K))) { nx := fun _ H' => Q .non H', rt := Q } [some (.ref a), some (.ref t), some (.int (e : Int)), some (.bl dd), none, none, none, none, none, none, none, none, none] H6 := by
    intro dd H6 hdd x6
    refine q_nexts (e := e) (zs := zs) rfl (ex_l x6 hS) (by decide) (by decide) rfl (by omega) (fun p ns H8 hp x8 h8 P8 l8 => ?_)
    refine q_when (et_B (ev_var (v := .bl dd) rfl)) (fun hb H9 e9 => ?_) (fun hb H9 e9 => lawB F (ex_l ((x6.trans x8).trans e9) hS) (e9 _ _ h8) ⟨P8, by omega, by omega⟩ l8 he k)
    have h15 := hdd hb
    have p9 := e9 _ _ h8
    have q := el_lcL (K := K) (σ := [some (.ref a), some (.ref t), some (.int (e : Int)), some (.bl dd), some (.ref p), none, none, none, none, none, none, none, none]) (H := H9) (j := 12) (vs := [12]) (tl := tVar 4) (t := tYes) (te := tOp zAdd (tVar 12) (tOp zMul (tC (.int 2)) (tVar 2))) (fun _ => true) (fun i => vi (fn ns i + ns.length)) (ev_var rfl) (sq_of p9) (by rw [L_len]; omega) (fun _ => rfl) (fun i y H1 _ _ => et_yes) (fun i y H12 e12 hy _ => by
      obtain ⟨hi, rfl⟩ := L_item hy
      refine ev_is (ev_op (ev_var rfl) (ev_op ev_c (ev_var rfl) (rv_I (Or.inl ⟨by decide, by decide⟩))) rv_I0) ?_
      show V.int ((fn ns i : Int) + 2 * (e : Int)) = V.int ((fn ns i + ns.length : Nat) : Int)
      congr 1
      omega)
    rw [given_all, L_len] at q
    have el : (List.range ns.length).map (fun i => vi (fn ns i + ns.length)) = L (ns.map (· + ns.length)) := by
      refine List.ext_getElem? fun j => ?_
      by_cases hj : j < ns.length
      · rw [List.getElem?_map, List.getElem?_range hj]
        unfold L
        rw [List.getElem?_map, List.getElem?_map, fn_get hj]
        rfl
      · rw [List.getElem?_eq_none (by rw [List.length_map, List.length_range]; omega), List.getElem?_eq_none (by rw [L_len, List.length_map]; omega)]
    rw [el] at q
    refine q_asgL (el_catV (ev_var rfl) p9 q (by rw [L_len, L_len, List.length_map]; omega)) (fun w H12 hw e12 h12 => ?_)
    rw [← L_app] at h12
    refine s_asg (v := .int ((2 * e : Nat) : Int)) (ev_is (ev_op ev_c (ev_var rfl) (rv_I (Or.inl ⟨by decide, by decide⟩))) (by show V.int (2 * (e : Int)) = V.int ((2 * e : Nat) : Int); exact congrArg V.int (by omega))) (fun H13 e13 => ?_)
    exact lawB F (ex_l ((((x6.trans x8).trans e9).trans e12).trans e13) hS) (e13 _ _ h12) ⟨isP_double P8, by rw [List.length_append, List.length_map]; omega, by rw [List.length_append, List.length_map]; omega⟩ (by rw [List.length_append, List.length_map]; omega) (by omega) k
  refine q_asgCand (ea_2 (ev_var rfl) ev_c) (fun H5 e5 => ⟨t, 4, rfl, tp_ex t4 e5, by decide, by decide, fun d H6 d0 d1 t6 o6 => ⟨rfl, _, rfl, ?_⟩⟩)
  have x6 : Ex H H6 := fun b o hb => o6 b o (ne_of_none hb ht0) (e5 _ _ (x4 b o hb))
  split
  · refine (ev_op (ev_var rfl) ev_c rv_I0 : Ev (tOp zLt (tVar 2) (tC (.int 15))) _ H6 (.bl (decide ((e : Int) < 15)))) H6 (Ex.refl H6) _ (fun H7 e7 => ?_)
    exact go _ H7 (fun z => by have := of_decide_eq_true z; omega) (x6.trans e7)
  · exact go false H6 (fun z => (nomatch z)) x6
end K12
namespace K12
open PySem PySem.Spec PyProof.Rows L2 Evl Hm
def fileS : Str := PySem.Challenge.pw_halfmeshes_k12_counts_and_pieces.main.file
def topS (i : Nat) : Stmt := PySem.Challenge.pw_halfmeshes_k12_counts_and_pieces.main.body.getD i (.Pass ⟨0, 0, 0, 0⟩)
abbrev s_NotAMeshinit : Stmt := inClass (topS 3) 0
abbrev s_Meshinit : Stmt := inClass (topS 5) 0
theorem sc_Meshinit : FnScope nm_Meshinit pr_Meshinit (defScope s_Meshinit) := ⟨rfl, rfl, rfl, by decide +kernel, rfl, by decide +kernel, by decide +kernel⟩
abbrev s_Meshlen : Stmt := inClass (topS 5) 2
theorem sc_Meshlen : FnScope nm_Meshlen pr_Meshlen (defScope s_Meshlen) := ⟨rfl, rfl, rfl, by decide +kernel, rfl, by decide +kernel, by decide +kernel⟩
abbrev s_Meshedges : Stmt := inClass (topS 5) 4
theorem sc_Meshedges : FnScope nm_Meshedges pr_Meshedges (defScope s_Meshedges) := ⟨rfl, rfl, rfl, by decide +kernel, rfl, by decide +kernel, by decide +kernel⟩
abbrev s_Meshfaces : Stmt := inClass (topS 5) 10
theorem sc_Meshfaces : FnScope nm_Meshfaces pr_Meshfaces (defScope s_Meshfaces) := ⟨rfl, rfl, rfl, by decide +kernel, rfl, by decide +kernel, by decide +kernel⟩
abbrev s_Meshcorners : Stmt := inClass (topS 5) 11
theorem sc_Meshcorners : FnScope nm_Meshcorners pr_Meshcorners (defScope s_Meshcorners) := ⟨rfl, rfl, rfl, by decide +kernel, rfl, by decide +kernel, by decide +kernel⟩
abbrev s_Meshpieces : Stmt := inClass (topS 5) 12
theorem sc_Meshpieces : FnScope nm_Meshpieces pr_Meshpieces (defScope s_Meshpieces) := ⟨rfl, rfl, rfl, by decide +kernel, rfl, by decide +kernel, by decide +kernel⟩
abbrev s_Meshpiece : Stmt := inClass (topS 5) 13
theorem sc_Meshpiece : FnScope nm_Meshpiece pr_Meshpiece (defScope s_Meshpiece) := ⟨rfl, rfl, rfl, by decide +kernel, rfl, by decide +kernel, by decide +kernel⟩
abbrev s_Meshcounts : Stmt := inClass (topS 5) 14
theorem sc_Meshcounts : FnScope nm_Meshcounts pr_Meshcounts (defScope s_Meshcounts) := ⟨rfl, rfl, rfl, by decide +kernel, rfl, by decide +kernel, by decide +kernel⟩
abbrev s_Meshisoneface : Stmt := inClass (topS 5) 15
theorem sc_Meshisoneface : FnScope nm_Meshisoneface pr_Meshisoneface (defScope s_Meshisoneface) := ⟨rfl, rfl, rfl, by decide +kernel, rfl, by decide +kernel, by decide +kernel⟩
abbrev s_Meshisonecorner : Stmt := inClass (topS 5) 16
theorem sc_Meshisonecorner : FnScope nm_Meshisonecorner pr_Meshisonecorner (defScope s_Meshisonecorner) := ⟨rfl, rfl, rfl, by decide +kernel, rfl, by decide +kernel, by decide +kernel⟩
abbrev s_isinteger : Stmt := topS 6
theorem sc_isinteger : FnScope nm_isinteger pr_isinteger (defScope s_isinteger) := ⟨rfl, rfl, rfl, by decide +kernel, rfl, by decide +kernel, by decide +kernel⟩
abbrev s_arehalves : Stmt := topS 7
theorem sc_arehalves : FnScope nm_arehalves pr_arehalves (defScope s_arehalves) := ⟨rfl, rfl, rfl, by decide +kernel, rfl, by decide +kernel, by decide +kernel⟩
abbrev s_areallhalves : Stmt := topS 8
theorem sc_areallhalves : FnScope nm_areallhalves pr_areallhalves (defScope s_areallhalves) := ⟨rfl, rfl, rfl, by decide +kernel, rfl, by decide +kernel, by decide +kernel⟩
abbrev s_inverse : Stmt := topS 9
theorem sc_inverse : FnScope nm_inverse pr_inverse (defScope s_inverse) := ⟨rfl, rfl, rfl, by decide +kernel, rfl, by decide +kernel, by decide +kernel⟩
abbrev s_rounds : Stmt := topS 10
theorem sc_rounds : FnScope nm_rounds pr_rounds (defScope s_rounds) := ⟨rfl, rfl, rfl, by decide +kernel, rfl, by decide +kernel, by decide +kernel⟩
abbrev s_isoneround : Stmt := topS 11
theorem sc_isoneround : FnScope nm_isoneround pr_isoneround (defScope s_isoneround) := ⟨rfl, rfl, rfl, by decide +kernel, rfl, by decide +kernel, by decide +kernel⟩
abbrev s_Ltape : Stmt := topS 13
theorem sc_Ltape : FnScope nm_Ltape pr_Ltape (defScope s_Ltape) := ⟨rfl, rfl, rfl, by decide +kernel, rfl, by decide +kernel, by decide +kernel⟩
abbrev s_Lpick : Stmt := topS 14
theorem sc_Lpick : FnScope nm_Lpick pr_Lpick (defScope s_Lpick) := ⟨rfl, rfl, rfl, by decide +kernel, rfl, by decide +kernel, by decide +kernel⟩
abbrev s_Lnexts : Stmt := topS 15
theorem sc_Lnexts : FnScope nm_Lnexts pr_Lnexts (defScope s_Lnexts) := ⟨rfl, rfl, rfl, by decide +kernel, rfl, by decide +kernel, by decide +kernel⟩
abbrev s_Lsize : Stmt := topS 16
theorem sc_Lsize : FnScope nm_Lsize pr_Lsize (defScope s_Lsize) := ⟨rfl, rfl, rfl, by decide +kernel, rfl, by decide +kernel, by decide +kernel⟩
abbrev s_Ltwin : Stmt := topS 17
theorem sc_Ltwin : FnScope nm_Ltwin pr_Ltwin (defScope s_Ltwin) := ⟨rfl, rfl, rfl, by decide +kernel, rfl, by decide +kernel, by decide +kernel⟩
abbrev s_Lturned : Stmt := topS 18
theorem sc_Lturned : FnScope nm_Lturned pr_Lturned (defScope s_Lturned) := ⟨rfl, rfl, rfl, by decide +kernel, rfl, by decide +kernel, by decide +kernel⟩
abbrev s_Lround : Stmt := topS 19
theorem sc_Lround : FnScope nm_Lround pr_Lround (defScope s_Lround) := ⟨rfl, rfl, rfl, by decide +kernel, rfl, by decide +kernel, by decide +kernel⟩
abbrev s_Lrounds : Stmt := topS 20
theorem sc_Lrounds : FnScope nm_Lrounds pr_Lrounds (defScope s_Lrounds) := ⟨rfl, rfl, rfl, by decide +kernel, rfl, by decide +kernel, by decide +kernel⟩
abbrev s_Lpieces : Stmt := topS 21
theorem sc_Lpieces : FnScope nm_Lpieces pr_Lpieces (defScope s_Lpieces) := ⟨rfl, rfl, rfl, by decide +kernel, rfl, by decide +kernel, by decide +kernel⟩
abbrev s_Ltogether : Stmt := topS 22
theorem sc_Ltogether : FnScope nm_Ltogether pr_Ltogether (defScope s_Ltogether) := ⟨rfl, rfl, rfl, by decide +kernel, rfl, by decide +kernel, by decide +kernel⟩
abbrev s_Lpairs : Stmt := topS 23
theorem sc_Lpairs : FnScope nm_Lpairs pr_Lpairs (defScope s_Lpairs) := ⟨rfl, rfl, rfl, by decide +kernel, rfl, by decide +kernel, by decide +kernel⟩
abbrev s_law : Stmt := topS 24
theorem sc_law : FnScope nm_law pr_law (defScope s_law) := ⟨rfl, rfl, rfl, by decide +kernel, rfl, by decide +kernel, by decide +kernel⟩
def cl_NotAMesh : CloD := ⟨"NotAMesh", "NotAMesh.__init__", defArgs s_NotAMeshinit, defBody s_NotAMeshinit, defScope s_NotAMeshinit⟩
def pg_edges : PgD := ⟨"Mesh", "edges", "Mesh.edges", defArgs s_Meshedges, defBody s_Meshedges, defScope s_Meshedges⟩
structure PF (P : Program) : Prop where
  file : P.main.file = fileS
  top : (P.main.scope.names.lookup ("super" : Str)).isSome = false
structure Tx (P : Program) (K : PySem.W.Frag) (mg : Str → Option Value) where
  n_len : mg "len" = none
  n_abs : mg "abs" = none
  n_int : mg "int" = none
  n_list : mg "list" = none
  n_sorted : mg "sorted" = none
  n_all : mg "all" = none
  n_isinstance : mg "isinstance" = none
  n_min : mg "min" = none
  n_range : mg "range" = none
  n_bool : mg "bool" = none
  n_enumerate : mg "enumerate" = none
  n_tuple : mg "tuple" = none
  n_super : mg "super" = none
  n_set : mg "set" = none
  n_property : mg "property" = none
  m_NotAMesh : mg "NotAMesh" = some (.ref (He.ga K "NotAMesh"))
  m_Mesh : mg "Mesh" = some (.ref (He.ga K "Mesh"))
  cl_Mesh : Cls K (He.ga K "Mesh")
  na_nexts : NoAttr K (He.ga K "Mesh") "_nexts"
  na_prevs : NoAttr K (He.ga K "Mesh") "_prevs"
  na_turns : NoAttr K (He.ga K "Mesh") "_turns"
  mk_Mesh : Mk K (He.ga K "Mesh") (He.ma K (He.ga K "Mesh") "__init__")
  fd_NotAMeshinit : FuncData
  u_NotAMesh : SupX P K cl_NotAMesh fd_NotAMeshinit
  b_NotAMeshinit : Binds K fd_NotAMeshinit pr_NotAMeshinit []
  fd_Meshinit : FuncData
  F_Meshinit : FunD K "__init__" "Mesh.__init__" (defArgs s_Meshinit) (defBody s_Meshinit) (defScope s_Meshinit) [] [] (He.ma K (He.ga K "Mesh") "__init__") fd_Meshinit
  b_Meshinit : Binds K fd_Meshinit pr_Meshinit []
  me_Meshlen : Meth K (He.ga K "Mesh") "__len__" (He.ma K (He.ga K "Mesh") "__len__")
  fd_Meshlen : FuncData
  F_Meshlen : FunD K "__len__" "Mesh.__len__" (defArgs s_Meshlen) (defBody s_Meshlen) (defScope s_Meshlen) [] [] (He.ma K (He.ga K "Mesh") "__len__") fd_Meshlen
  b_Meshlen : Binds K fd_Meshlen pr_Meshlen []
  pr_edges : PropOf K (He.ga K "Mesh") "edges" (pA K pg_edges) (gA K pg_edges)
  fd_Meshedges : FuncData
  F_Meshedges : FunD K "edges" "Mesh.edges" (defArgs s_Meshedges) (defBody s_Meshedges) (defScope s_Meshedges) [] [] (gA K pg_edges) fd_Meshedges
  b_Meshedges : Binds K fd_Meshedges pr_Meshedges []
  me_Meshfaces : Meth K (He.ga K "Mesh") "faces" (He.ma K (He.ga K "Mesh") "faces")
  fd_Meshfaces : FuncData
  F_Meshfaces : FunD K "faces" "Mesh.faces" (defArgs s_Meshfaces) (defBody s_Meshfaces) (defScope s_Meshfaces) [] [] (He.ma K (He.ga K "Mesh") "faces") fd_Meshfaces
  b_Meshfaces : Binds K fd_Meshfaces pr_Meshfaces []
  me_Meshcorners : Meth K (He.ga K "Mesh") "corners" (He.ma K (He.ga K "Mesh") "corners")
  fd_Meshcorners : FuncData
  F_Meshcorners : FunD K "corners" "Mesh.corners" (defArgs s_Meshcorners) (defBody s_Meshcorners) (defScope s_Meshcorners) [] [] (He.ma K (He.ga K "Mesh") "corners") fd_Meshcorners
  b_Meshcorners : Binds K fd_Meshcorners pr_Meshcorners []
  me_Meshpieces : Meth K (He.ga K "Mesh") "pieces" (He.ma K (He.ga K "Mesh") "pieces")
  fd_Meshpieces : FuncData
  F_Meshpieces : FunD K "pieces" "Mesh.pieces" (defArgs s_Meshpieces) (defBody s_Meshpieces) (defScope s_Meshpieces) [] [] (He.ma K (He.ga K "Mesh") "pieces") fd_Meshpieces
  b_Meshpieces : Binds K fd_Meshpieces pr_Meshpieces []
  me_Meshpiece : Meth K (He.ga K "Mesh") "_piece" (He.ma K (He.ga K "Mesh") "_piece")
  fd_Meshpiece : FuncData
  F_Meshpiece : FunD K "_piece" "Mesh._piece" (defArgs s_Meshpiece) (defBody s_Meshpiece) (defScope s_Meshpiece) [] [] (He.ma K (He.ga K "Mesh") "_piece") fd_Meshpiece
  b_Meshpiece : Binds K fd_Meshpiece pr_Meshpiece []
  me_Meshcounts : Meth K (He.ga K "Mesh") "counts" (He.ma K (He.ga K "Mesh") "counts")
  fd_Meshcounts : FuncData
  F_Meshcounts : FunD K "counts" "Mesh.counts" (defArgs s_Meshcounts) (defBody s_Meshcounts) (defScope s_Meshcounts) [] [] (He.ma K (He.ga K "Mesh") "counts") fd_Meshcounts
  b_Meshcounts : Binds K fd_Meshcounts pr_Meshcounts []
  me_Meshisoneface : Meth K (He.ga K "Mesh") "is_one_face" (He.ma K (He.ga K "Mesh") "is_one_face")
  fd_Meshisoneface : FuncData
  F_Meshisoneface : FunD K "is_one_face" "Mesh.is_one_face" (defArgs s_Meshisoneface) (defBody s_Meshisoneface) (defScope s_Meshisoneface) [] [] (He.ma K (He.ga K "Mesh") "is_one_face") fd_Meshisoneface
  b_Meshisoneface : Binds K fd_Meshisoneface pr_Meshisoneface []
  me_Meshisonecorner : Meth K (He.ga K "Mesh") "is_one_corner" (He.ma K (He.ga K "Mesh") "is_one_corner")
  fd_Meshisonecorner : FuncData
  F_Meshisonecorner : FunD K "is_one_corner" "Mesh.is_one_corner" (defArgs s_Meshisonecorner) (defBody s_Meshisonecorner) (defScope s_Meshisonecorner) [] [] (He.ma K (He.ga K "Mesh") "is_one_corner") fd_Meshisonecorner
  b_Meshisonecorner : Binds K fd_Meshisonecorner pr_Meshisonecorner []
  m_isinteger : mg "_is_integer" = some (.ref (He.ga K "_is_integer"))
  fd_isinteger : FuncData
  F_isinteger : FunD K "_is_integer" "_is_integer" (defArgs s_isinteger) (defBody s_isinteger) (defScope s_isinteger) [] [] (He.ga K "_is_integer") fd_isinteger
  b_isinteger : Binds K fd_isinteger pr_isinteger []
  m_arehalves : mg "are_halves" = some (.ref (He.ga K "are_halves"))
  fd_arehalves : FuncData
  F_arehalves : FunD K "are_halves" "are_halves" (defArgs s_arehalves) (defBody s_arehalves) (defScope s_arehalves) [] [] (He.ga K "are_halves") fd_arehalves
  b_arehalves : Binds K fd_arehalves pr_arehalves []
  m_areallhalves : mg "_are_all_halves" = some (.ref (He.ga K "_are_all_halves"))
  fd_areallhalves : FuncData
  F_areallhalves : FunD K "_are_all_halves" "_are_all_halves" (defArgs s_areallhalves) (defBody s_areallhalves) (defScope s_areallhalves) [] [] (He.ga K "_are_all_halves") fd_areallhalves
  b_areallhalves : Binds K fd_areallhalves pr_areallhalves []
  m_inverse : mg "_inverse" = some (.ref (He.ga K "_inverse"))
  fd_inverse : FuncData
  F_inverse : FunD K "_inverse" "_inverse" (defArgs s_inverse) (defBody s_inverse) (defScope s_inverse) [] [] (He.ga K "_inverse") fd_inverse
  b_inverse : Binds K fd_inverse pr_inverse []
  m_rounds : mg "_rounds" = some (.ref (He.ga K "_rounds"))
  fd_rounds : FuncData
  F_rounds : FunD K "_rounds" "_rounds" (defArgs s_rounds) (defBody s_rounds) (defScope s_rounds) [] [] (He.ga K "_rounds") fd_rounds
  b_rounds : Binds K fd_rounds pr_rounds []
  m_isoneround : mg "_is_one_round" = some (.ref (He.ga K "_is_one_round"))
  fd_isoneround : FuncData
  F_isoneround : FunD K "_is_one_round" "_is_one_round" (defArgs s_isoneround) (defBody s_isoneround) (defScope s_isoneround) [] [] (He.ga K "_is_one_round") fd_isoneround
  b_isoneround : Binds K fd_isoneround pr_isoneround []
  m_Ltape : mg "_law_tape" = some (.ref (He.ga K "_law_tape"))
  fd_Ltape : FuncData
  F_Ltape : FunD K "_law_tape" "_law_tape" (defArgs s_Ltape) (defBody s_Ltape) (defScope s_Ltape) [] [] (He.ga K "_law_tape") fd_Ltape
  b_Ltape : Binds K fd_Ltape pr_Ltape []
  m_Lpick : mg "_law_pick" = some (.ref (He.ga K "_law_pick"))
  fd_Lpick : FuncData
  F_Lpick : FunD K "_law_pick" "_law_pick" (defArgs s_Lpick) (defBody s_Lpick) (defScope s_Lpick) [] [] (He.ga K "_law_pick") fd_Lpick
  b_Lpick : Binds K fd_Lpick pr_Lpick []
  m_Lnexts : mg "_law_nexts" = some (.ref (He.ga K "_law_nexts"))
  fd_Lnexts : FuncData
  F_Lnexts : FunD K "_law_nexts" "_law_nexts" (defArgs s_Lnexts) (defBody s_Lnexts) (defScope s_Lnexts) [] [] (He.ga K "_law_nexts") fd_Lnexts
  b_Lnexts : Binds K fd_Lnexts pr_Lnexts []
  m_Lsize : mg "_law_size" = some (.ref (He.ga K "_law_size"))
  fd_Lsize : FuncData
  F_Lsize : FunD K "_law_size" "_law_size" (defArgs s_Lsize) (defBody s_Lsize) (defScope s_Lsize) [] [] (He.ga K "_law_size") fd_Lsize
  b_Lsize : Binds K fd_Lsize pr_Lsize []
  m_Ltwin : mg "_law_twin" = some (.ref (He.ga K "_law_twin"))
  fd_Ltwin : FuncData
  F_Ltwin : FunD K "_law_twin" "_law_twin" (defArgs s_Ltwin) (defBody s_Ltwin) (defScope s_Ltwin) [] [] (He.ga K "_law_twin") fd_Ltwin
  b_Ltwin : Binds K fd_Ltwin pr_Ltwin []
  m_Lturned : mg "_law_turned" = some (.ref (He.ga K "_law_turned"))
  fd_Lturned : FuncData
  F_Lturned : FunD K "_law_turned" "_law_turned" (defArgs s_Lturned) (defBody s_Lturned) (defScope s_Lturned) [] [] (He.ga K "_law_turned") fd_Lturned
  b_Lturned : Binds K fd_Lturned pr_Lturned []
  m_Lround : mg "_law_round" = some (.ref (He.ga K "_law_round"))
  fd_Lround : FuncData
  F_Lround : FunD K "_law_round" "_law_round" (defArgs s_Lround) (defBody s_Lround) (defScope s_Lround) [] [] (He.ga K "_law_round") fd_Lround
  b_Lround : Binds K fd_Lround pr_Lround []
  m_Lrounds : mg "_law_rounds" = some (.ref (He.ga K "_law_rounds"))
  fd_Lrounds : FuncData
  F_Lrounds : FunD K "_law_rounds" "_law_rounds" (defArgs s_Lrounds) (defBody s_Lrounds) (defScope s_Lrounds) [] [] (He.ga K "_law_rounds") fd_Lrounds
  b_Lrounds : Binds K fd_Lrounds pr_Lrounds []
  m_Lpieces : mg "_law_pieces" = some (.ref (He.ga K "_law_pieces"))
  fd_Lpieces : FuncData
  F_Lpieces : FunD K "_law_pieces" "_law_pieces" (defArgs s_Lpieces) (defBody s_Lpieces) (defScope s_Lpieces) [] [] (He.ga K "_law_pieces") fd_Lpieces
  b_Lpieces : Binds K fd_Lpieces pr_Lpieces []
  m_Ltogether : mg "_law_together" = some (.ref (He.ga K "_law_together"))
  fd_Ltogether : FuncData
  F_Ltogether : FunD K "_law_together" "_law_together" (defArgs s_Ltogether) (defBody s_Ltogether) (defScope s_Ltogether) [] [] (He.ga K "_law_together") fd_Ltogether
  b_Ltogether : Binds K fd_Ltogether pr_Ltogether []
  m_Lpairs : mg "_law_pairs" = some (.ref (He.ga K "_law_pairs"))
  fd_Lpairs : FuncData
  F_Lpairs : FunD K "_law_pairs" "_law_pairs" (defArgs s_Lpairs) (defBody s_Lpairs) (defScope s_Lpairs) [] [] (He.ga K "_law_pairs") fd_Lpairs
  b_Lpairs : Binds K fd_Lpairs pr_Lpairs []
  fd_law : FuncData
  F_law : FunD K "law" "law" (defArgs s_law) (defBody s_law) (defScope s_law) [] [] (He.ga K "law") fd_law
  b_law : Binds K fd_law pr_law []
theorem Tx.kf {P : Program} {K : PySem.W.Frag} {mg : Str → Option Value} (T : Tx P K mg) : Hm.KF K := ⟨T.cl_Mesh, T.na_nexts, T.na_prevs, T.na_turns⟩

def fn : List He.DefD := [⟨("Mesh", some "__init__"), "__init__", "Mesh.__init__", defArgs s_Meshinit, defBody s_Meshinit, defScope s_Meshinit, [], []⟩,
  ⟨("Mesh", some "__len__"), "__len__", "Mesh.__len__", defArgs s_Meshlen, defBody s_Meshlen, defScope s_Meshlen, [], []⟩,
  ⟨("Mesh", some "faces"), "faces", "Mesh.faces", defArgs s_Meshfaces, defBody s_Meshfaces, defScope s_Meshfaces, [], []⟩,
  ⟨("Mesh", some "corners"), "corners", "Mesh.corners", defArgs s_Meshcorners, defBody s_Meshcorners, defScope s_Meshcorners, [], []⟩,
  ⟨("Mesh", some "pieces"), "pieces", "Mesh.pieces", defArgs s_Meshpieces, defBody s_Meshpieces, defScope s_Meshpieces, [], []⟩,
  ⟨("Mesh", some "_piece"), "_piece", "Mesh._piece", defArgs s_Meshpiece, defBody s_Meshpiece, defScope s_Meshpiece, [], []⟩,
  ⟨("Mesh", some "counts"), "counts", "Mesh.counts", defArgs s_Meshcounts, defBody s_Meshcounts, defScope s_Meshcounts, [], []⟩,
  ⟨("Mesh", some "is_one_face"), "is_one_face", "Mesh.is_one_face", defArgs s_Meshisoneface, defBody s_Meshisoneface, defScope s_Meshisoneface, [], []⟩,
  ⟨("Mesh", some "is_one_corner"), "is_one_corner", "Mesh.is_one_corner", defArgs s_Meshisonecorner, defBody s_Meshisonecorner, defScope s_Meshisonecorner, [], []⟩,
  ⟨("_is_integer", none), "_is_integer", "_is_integer", defArgs s_isinteger, defBody s_isinteger, defScope s_isinteger, [], []⟩,
  ⟨("are_halves", none), "are_halves", "are_halves", defArgs s_arehalves, defBody s_arehalves, defScope s_arehalves, [], []⟩,
  ⟨("_are_all_halves", none), "_are_all_halves", "_are_all_halves", defArgs s_areallhalves, defBody s_areallhalves, defScope s_areallhalves, [], []⟩,
  ⟨("_inverse", none), "_inverse", "_inverse", defArgs s_inverse, defBody s_inverse, defScope s_inverse, [], []⟩,
  ⟨("_rounds", none), "_rounds", "_rounds", defArgs s_rounds, defBody s_rounds, defScope s_rounds, [], []⟩,
  ⟨("_is_one_round", none), "_is_one_round", "_is_one_round", defArgs s_isoneround, defBody s_isoneround, defScope s_isoneround, [], []⟩,
  ⟨("_law_tape", none), "_law_tape", "_law_tape", defArgs s_Ltape, defBody s_Ltape, defScope s_Ltape, [], []⟩,
  ⟨("_law_pick", none), "_law_pick", "_law_pick", defArgs s_Lpick, defBody s_Lpick, defScope s_Lpick, [], []⟩,
  ⟨("_law_nexts", none), "_law_nexts", "_law_nexts", defArgs s_Lnexts, defBody s_Lnexts, defScope s_Lnexts, [], []⟩,
  ⟨("_law_size", none), "_law_size", "_law_size", defArgs s_Lsize, defBody s_Lsize, defScope s_Lsize, [], []⟩,
  ⟨("_law_twin", none), "_law_twin", "_law_twin", defArgs s_Ltwin, defBody s_Ltwin, defScope s_Ltwin, [], []⟩,
  ⟨("_law_turned", none), "_law_turned", "_law_turned", defArgs s_Lturned, defBody s_Lturned, defScope s_Lturned, [], []⟩,
  ⟨("_law_round", none), "_law_round", "_law_round", defArgs s_Lround, defBody s_Lround, defScope s_Lround, [], []⟩,
  ⟨("_law_rounds", none), "_law_rounds", "_law_rounds", defArgs s_Lrounds, defBody s_Lrounds, defScope s_Lrounds, [], []⟩,
  ⟨("_law_pieces", none), "_law_pieces", "_law_pieces", defArgs s_Lpieces, defBody s_Lpieces, defScope s_Lpieces, [], []⟩,
  ⟨("_law_together", none), "_law_together", "_law_together", defArgs s_Ltogether, defBody s_Ltogether, defScope s_Ltogether, [], []⟩,
  ⟨("_law_pairs", none), "_law_pairs", "_law_pairs", defArgs s_Lpairs, defBody s_Lpairs, defScope s_Lpairs, [], []⟩,
  ⟨("law", none), "law", "law", defArgs s_law, defBody s_law, defScope s_law, [], []⟩]
def fa : List He.Fa := [.free "len", .free "abs", .free "int", .free "list", .free "sorted", .free "all", .free "isinstance", .free "min", .free "range", .free "bool", .free "enumerate", .free "tuple", .free "super", .free "set", .free "property", .glo "NotAMesh", .glo "Mesh", .cls "Mesh", .noat "Mesh" "_nexts", .noat "Mesh" "_prevs", .noat "Mesh" "_turns", .mkr "Mesh", .meth "Mesh" "__len__", .meth "Mesh" "faces", .meth "Mesh" "corners", .meth "Mesh" "pieces", .meth "Mesh" "_piece", .meth "Mesh" "counts", .meth "Mesh" "is_one_face", .meth "Mesh" "is_one_corner", .glo "_is_integer", .glo "are_halves", .glo "_are_all_halves", .glo "_inverse", .glo "_rounds", .glo "_is_one_round", .glo "_law_tape", .glo "_law_pick", .glo "_law_nexts", .glo "_law_size", .glo "_law_twin", .glo "_law_turned", .glo "_law_round", .glo "_law_rounds", .glo "_law_pieces", .glo "_law_together", .glo "_law_pairs", .glo "law"]
def fx : List Fx := [.sup "NotAMesh"]
def cl : List CloD := [cl_NotAMesh]
def pg : List PgD := [pg_edges]
theorem tx_of {P : Program} {K : PySem.W.Frag} {h : Heap} {mg : Str → Option Value} (hP : PF P) (X : K.In h) (G : h.Ns mainGlobals mg) (cp : SaysP fa fn fx cl pg fileS K) : Nonempty (Tx P K mg) := by
  have c := cp.s
  have cd := c.d
  obtain ⟨fd_NotAMeshinit, u_NotAMesh⟩ := sup_of (P := P) (d := cl_NotAMesh) (c.clo 0 rfl) (by rw [hP.file]; exact c.fact 0 (f := .sup "NotAMesh") rfl) hP.top
  have b_NotAMeshinit : Binds K fd_NotAMeshinit pr_NotAMeshinit [] := by
    obtain ⟨cl, kV, doc, pm, an, cdv, ct, e⟩ := u_NotAMesh.fx
    rw [e]
    exact Binds.all fun us hl => match us, hl with | [_], _ => rfl
  obtain ⟨fd_Meshinit, F_Meshinit⟩ := cd.def_ 0 rfl
  have b_Meshinit : Binds K fd_Meshinit pr_Meshinit [] := F_Meshinit.bindsN fun _ _ _ _ _ _ us hl => match us, hl with | [_, _], _ => rfl
  obtain ⟨fd_Meshlen, F_Meshlen⟩ := cd.def_ 1 rfl
  have b_Meshlen : Binds K fd_Meshlen pr_Meshlen [] := F_Meshlen.bindsN fun _ _ _ _ _ _ us hl => match us, hl with | [_], _ => rfl
  obtain ⟨pr_edges, fd_Meshedges, F_Meshedges⟩ := pg_of (d := pg_edges) (cp.prop 0 rfl).1 (cp.prop 0 (d := pg_edges) rfl).2
  have b_Meshedges : Binds K fd_Meshedges pr_Meshedges [] := FunD.bindsN F_Meshedges fun _ _ _ _ _ _ us hl => match us, hl with | [_], _ => rfl
  obtain ⟨fd_Meshfaces, F_Meshfaces⟩ := cd.def_ 2 rfl
  have b_Meshfaces : Binds K fd_Meshfaces pr_Meshfaces [] := F_Meshfaces.bindsN fun _ _ _ _ _ _ us hl => match us, hl with | [_], _ => rfl
  obtain ⟨fd_Meshcorners, F_Meshcorners⟩ := cd.def_ 3 rfl
  have b_Meshcorners : Binds K fd_Meshcorners pr_Meshcorners [] := F_Meshcorners.bindsN fun _ _ _ _ _ _ us hl => match us, hl with | [_], _ => rfl
  obtain ⟨fd_Meshpieces, F_Meshpieces⟩ := cd.def_ 4 rfl
  have b_Meshpieces : Binds K fd_Meshpieces pr_Meshpieces [] := F_Meshpieces.bindsN fun _ _ _ _ _ _ us hl => match us, hl with | [_], _ => rfl
  obtain ⟨fd_Meshpiece, F_Meshpiece⟩ := cd.def_ 5 rfl
  have b_Meshpiece : Binds K fd_Meshpiece pr_Meshpiece [] := F_Meshpiece.bindsN fun _ _ _ _ _ _ us hl => match us, hl with | [_, _], _ => rfl
  obtain ⟨fd_Meshcounts, F_Meshcounts⟩ := cd.def_ 6 rfl
  have b_Meshcounts : Binds K fd_Meshcounts pr_Meshcounts [] := F_Meshcounts.bindsN fun _ _ _ _ _ _ us hl => match us, hl with | [_], _ => rfl
  obtain ⟨fd_Meshisoneface, F_Meshisoneface⟩ := cd.def_ 7 rfl
  have b_Meshisoneface : Binds K fd_Meshisoneface pr_Meshisoneface [] := F_Meshisoneface.bindsN fun _ _ _ _ _ _ us hl => match us, hl with | [_, _, _], _ => rfl
  obtain ⟨fd_Meshisonecorner, F_Meshisonecorner⟩ := cd.def_ 8 rfl
  have b_Meshisonecorner : Binds K fd_Meshisonecorner pr_Meshisonecorner [] := F_Meshisonecorner.bindsN fun _ _ _ _ _ _ us hl => match us, hl with | [_, _, _], _ => rfl
  obtain ⟨fd_isinteger, F_isinteger⟩ := cd.def_ 9 rfl
  have b_isinteger : Binds K fd_isinteger pr_isinteger [] := F_isinteger.bindsN fun _ _ _ _ _ _ us hl => match us, hl with | [_], _ => rfl
  obtain ⟨fd_arehalves, F_arehalves⟩ := cd.def_ 10 rfl
  have b_arehalves : Binds K fd_arehalves pr_arehalves [] := F_arehalves.bindsN fun _ _ _ _ _ _ us hl => match us, hl with | [_, _], _ => rfl
  obtain ⟨fd_areallhalves, F_areallhalves⟩ := cd.def_ 11 rfl
  have b_areallhalves : Binds K fd_areallhalves pr_areallhalves [] := F_areallhalves.bindsN fun _ _ _ _ _ _ us hl => match us, hl with | [_], _ => rfl
  obtain ⟨fd_inverse, F_inverse⟩ := cd.def_ 12 rfl
  have b_inverse : Binds K fd_inverse pr_inverse [] := F_inverse.bindsN fun _ _ _ _ _ _ us hl => match us, hl with | [_], _ => rfl
  obtain ⟨fd_rounds, F_rounds⟩ := cd.def_ 13 rfl
  have b_rounds : Binds K fd_rounds pr_rounds [] := F_rounds.bindsN fun _ _ _ _ _ _ us hl => match us, hl with | [_], _ => rfl
  obtain ⟨fd_isoneround, F_isoneround⟩ := cd.def_ 14 rfl
  have b_isoneround : Binds K fd_isoneround pr_isoneround [] := F_isoneround.bindsN fun _ _ _ _ _ _ us hl => match us, hl with | [_, _, _], _ => rfl
  obtain ⟨fd_Ltape, F_Ltape⟩ := cd.def_ 15 rfl
  have b_Ltape : Binds K fd_Ltape pr_Ltape [] := F_Ltape.bindsN fun _ _ _ _ _ _ us hl => match us, hl with | [_, _], _ => rfl
  obtain ⟨fd_Lpick, F_Lpick⟩ := cd.def_ 16 rfl
  have b_Lpick : Binds K fd_Lpick pr_Lpick [] := F_Lpick.bindsN fun _ _ _ _ _ _ us hl => match us, hl with | [_, _], _ => rfl
  obtain ⟨fd_Lnexts, F_Lnexts⟩ := cd.def_ 17 rfl
  have b_Lnexts : Binds K fd_Lnexts pr_Lnexts [] := F_Lnexts.bindsN fun _ _ _ _ _ _ us hl => match us, hl with | [_, _], _ => rfl
  obtain ⟨fd_Lsize, F_Lsize⟩ := cd.def_ 18 rfl
  have b_Lsize : Binds K fd_Lsize pr_Lsize [] := F_Lsize.bindsN fun _ _ _ _ _ _ us hl => match us, hl with | [_], _ => rfl
  obtain ⟨fd_Ltwin, F_Ltwin⟩ := cd.def_ 19 rfl
  have b_Ltwin : Binds K fd_Ltwin pr_Ltwin [] := F_Ltwin.bindsN fun _ _ _ _ _ _ us hl => match us, hl with | [_], _ => rfl
  obtain ⟨fd_Lturned, F_Lturned⟩ := cd.def_ 20 rfl
  have b_Lturned : Binds K fd_Lturned pr_Lturned [] := F_Lturned.bindsN fun _ _ _ _ _ _ us hl => match us, hl with | [_, _], _ => rfl
  obtain ⟨fd_Lround, F_Lround⟩ := cd.def_ 21 rfl
  have b_Lround : Binds K fd_Lround pr_Lround [] := F_Lround.bindsN fun _ _ _ _ _ _ us hl => match us, hl with | [_, _, _], _ => rfl
  obtain ⟨fd_Lrounds, F_Lrounds⟩ := cd.def_ 22 rfl
  have b_Lrounds : Binds K fd_Lrounds pr_Lrounds [] := F_Lrounds.bindsN fun _ _ _ _ _ _ us hl => match us, hl with | [_, _], _ => rfl
  obtain ⟨fd_Lpieces, F_Lpieces⟩ := cd.def_ 23 rfl
  have b_Lpieces : Binds K fd_Lpieces pr_Lpieces [] := F_Lpieces.bindsN fun _ _ _ _ _ _ us hl => match us, hl with | [_], _ => rfl
  obtain ⟨fd_Ltogether, F_Ltogether⟩ := cd.def_ 24 rfl
  have b_Ltogether : Binds K fd_Ltogether pr_Ltogether [] := F_Ltogether.bindsN fun _ _ _ _ _ _ us hl => match us, hl with | [_, _, _], _ => rfl
  obtain ⟨fd_Lpairs, F_Lpairs⟩ := cd.def_ 25 rfl
  have b_Lpairs : Binds K fd_Lpairs pr_Lpairs [] := F_Lpairs.bindsN fun _ _ _ _ _ _ us hl => match us, hl with | [_, _, _, _], _ => rfl
  obtain ⟨fd_law, F_law⟩ := cd.def_ 26 rfl
  have b_law : Binds K fd_law pr_law [] := F_law.bindsN fun _ _ _ _ _ _ us hl => match us, hl with | [_], _ => rfl
  exact ⟨⟨He.free_ok X G (cd.fact 0 (f := .free "len") rfl),
    He.free_ok X G (cd.fact 1 (f := .free "abs") rfl),
    He.free_ok X G (cd.fact 2 (f := .free "int") rfl),
    He.free_ok X G (cd.fact 3 (f := .free "list") rfl),
    He.free_ok X G (cd.fact 4 (f := .free "sorted") rfl),
    He.free_ok X G (cd.fact 5 (f := .free "all") rfl),
    He.free_ok X G (cd.fact 6 (f := .free "isinstance") rfl),
    He.free_ok X G (cd.fact 7 (f := .free "min") rfl),
    He.free_ok X G (cd.fact 8 (f := .free "range") rfl),
    He.free_ok X G (cd.fact 9 (f := .free "bool") rfl),
    He.free_ok X G (cd.fact 10 (f := .free "enumerate") rfl),
    He.free_ok X G (cd.fact 11 (f := .free "tuple") rfl),
    He.free_ok X G (cd.fact 12 (f := .free "super") rfl),
    He.free_ok X G (cd.fact 13 (f := .free "set") rfl),
    He.free_ok X G (cd.fact 14 (f := .free "property") rfl),
    He.glo_ok X G (cd.fact 15 (f := .glo "NotAMesh") rfl),
    He.glo_ok X G (cd.fact 16 (f := .glo "Mesh") rfl),
    He.cls_ok (cd.fact 17 (f := .cls "Mesh") rfl),
    He.noat_ok (cd.fact 18 (f := .noat "Mesh" "_nexts") rfl),
    He.noat_ok (cd.fact 19 (f := .noat "Mesh" "_prevs") rfl),
    He.noat_ok (cd.fact 20 (f := .noat "Mesh" "_turns") rfl),
    He.mkr_ok (cd.fact 21 (f := .mkr "Mesh") rfl),
    fd_NotAMeshinit,
    u_NotAMesh,
    b_NotAMeshinit,
    fd_Meshinit,
    F_Meshinit,
    b_Meshinit,
    He.meth_ok (cd.fact 22 (f := .meth "Mesh" "__len__") rfl),
    fd_Meshlen,
    F_Meshlen,
    b_Meshlen,
    pr_edges,
    fd_Meshedges,
    F_Meshedges,
    b_Meshedges,
    He.meth_ok (cd.fact 23 (f := .meth "Mesh" "faces") rfl),
    fd_Meshfaces,
    F_Meshfaces,
    b_Meshfaces,
    He.meth_ok (cd.fact 24 (f := .meth "Mesh" "corners") rfl),
    fd_Meshcorners,
    F_Meshcorners,
    b_Meshcorners,
    He.meth_ok (cd.fact 25 (f := .meth "Mesh" "pieces") rfl),
    fd_Meshpieces,
    F_Meshpieces,
    b_Meshpieces,
    He.meth_ok (cd.fact 26 (f := .meth "Mesh" "_piece") rfl),
    fd_Meshpiece,
    F_Meshpiece,
    b_Meshpiece,
    He.meth_ok (cd.fact 27 (f := .meth "Mesh" "counts") rfl),
    fd_Meshcounts,
    F_Meshcounts,
    b_Meshcounts,
    He.meth_ok (cd.fact 28 (f := .meth "Mesh" "is_one_face") rfl),
    fd_Meshisoneface,
    F_Meshisoneface,
    b_Meshisoneface,
    He.meth_ok (cd.fact 29 (f := .meth "Mesh" "is_one_corner") rfl),
    fd_Meshisonecorner,
    F_Meshisonecorner,
    b_Meshisonecorner,
    He.glo_ok X G (cd.fact 30 (f := .glo "_is_integer") rfl),
    fd_isinteger,
    F_isinteger,
    b_isinteger,
    He.glo_ok X G (cd.fact 31 (f := .glo "are_halves") rfl),
    fd_arehalves,
    F_arehalves,
    b_arehalves,
    He.glo_ok X G (cd.fact 32 (f := .glo "_are_all_halves") rfl),
    fd_areallhalves,
    F_areallhalves,
    b_areallhalves,
    He.glo_ok X G (cd.fact 33 (f := .glo "_inverse") rfl),
    fd_inverse,
    F_inverse,
    b_inverse,
    He.glo_ok X G (cd.fact 34 (f := .glo "_rounds") rfl),
    fd_rounds,
    F_rounds,
    b_rounds,
    He.glo_ok X G (cd.fact 35 (f := .glo "_is_one_round") rfl),
    fd_isoneround,
    F_isoneround,
    b_isoneround,
    He.glo_ok X G (cd.fact 36 (f := .glo "_law_tape") rfl),
    fd_Ltape,
    F_Ltape,
    b_Ltape,
    He.glo_ok X G (cd.fact 37 (f := .glo "_law_pick") rfl),
    fd_Lpick,
    F_Lpick,
    b_Lpick,
    He.glo_ok X G (cd.fact 38 (f := .glo "_law_nexts") rfl),
    fd_Lnexts,
    F_Lnexts,
    b_Lnexts,
    He.glo_ok X G (cd.fact 39 (f := .glo "_law_size") rfl),
    fd_Lsize,
    F_Lsize,
    b_Lsize,
    He.glo_ok X G (cd.fact 40 (f := .glo "_law_twin") rfl),
    fd_Ltwin,
    F_Ltwin,
    b_Ltwin,
    He.glo_ok X G (cd.fact 41 (f := .glo "_law_turned") rfl),
    fd_Lturned,
    F_Lturned,
    b_Lturned,
    He.glo_ok X G (cd.fact 42 (f := .glo "_law_round") rfl),
    fd_Lround,
    F_Lround,
    b_Lround,
    He.glo_ok X G (cd.fact 43 (f := .glo "_law_rounds") rfl),
    fd_Lrounds,
    F_Lrounds,
    b_Lrounds,
    He.glo_ok X G (cd.fact 44 (f := .glo "_law_pieces") rfl),
    fd_Lpieces,
    F_Lpieces,
    b_Lpieces,
    He.glo_ok X G (cd.fact 45 (f := .glo "_law_together") rfl),
    fd_Ltogether,
    F_Ltogether,
    b_Ltogether,
    He.glo_ok X G (cd.fact 46 (f := .glo "_law_pairs") rfl),
    fd_Lpairs,
    F_Lpairs,
    b_Lpairs,
    fd_law,
    F_law,
    b_law⟩⟩
abbrev RR : PySem.W.OpenRow := PySem.W.OpenLaw.row PySem.Challenge.rw_halfmeshes_k12_counts_and_pieces
abbrev hk : PySem.W.Hook := hookP 6 fa fn fx cl pg fileS
def ob (s : PySem.W.SharedT) : AlP := obsPG 6 fa fn fx cl pg fileS (HandSHeadRun.getT s)
theorem ob_hk (s : PySem.W.SharedT) : ob s = hk.obs s.abs := obsPG_eq (HandSHeadRun.getT_eq s)
def lse : List Str := (["_wall", "MeshError", "NotAMesh", "Mesh", "_is_integer", "are_halves", "_are_all_halves", "_inverse", "_rounds", "_is_one_round", "_law_tape", "_law_pick", "_law_nexts", "_law_size", "_law_twin", "_law_turned", "_law_round", "_law_rounds", "_law_pieces", "_law_together"] : List Str) ++ (["_law_pairs"] : List Str)
theorem top_run (w : World) : HandSHeadRun.RunEq RR (PySem.W.view RR.prog [24]) hk ob 9000 lse w := by
  intro os
  kernel_rfl
theorem ok_NotAMeshinit {P : Program} {w : World} {K : PySem.W.Frag} {mg : Str → Option Value} {base : Heap} (T : Tx P K mg) : FnOk P w K mg base (L2.CX P w) 1 (iA K "NotAMesh") T.fd_NotAMeshinit pr_NotAMeshinit (sp_NotAMeshinit K) :=
  sup_fn (N := ["self", "__class__"]) (k := 0) T.u_NotAMesh.F (NdefX.nscope_by (by decide +kernel)) rfl rfl (by decide) rfl ln_NotAMeshinit (fun F A outer s H vs Q E hq hsc hr h => by
    obtain ⟨x, rfl, hx, q⟩ := h
    exact ⟨x, _, _, rfl, hx, pa_cons pe_str pa_nil, pss_nil, ⟨by show 1 ≤ 1000; decide, hx, q⟩⟩) (fun _ => rfl) (fun _ => rfl) (fun _ => ⟨_, rfl⟩)
theorem ok_isinteger {P : Program} {w : World} {K : PySem.W.Frag} {mg : Str → Option Value} {base : Heap} (T : Tx P K mg) : FnOk P w K mg base (L2.CX P w) 1 (He.ga K "_is_integer") T.fd_isinteger pr_isinteger (sp_isinteger K) := by
  refine T.F_isinteger.ok sc_isinteger ln_isinteger (fun cdv A outer s H vs Q E hr h => ⟨t_isinteger K, PSs.nox ?_, rd_isinteger T.kf vs H Q E h⟩)
  exact (pss_one (ps_ret (pe_and (pe_callB call_isi (by rfl) T.n_isinstance (by decide +kernel) (pa_cons (pv 0) (pa_cons (pe_bltn (v := .ty "int") rfl T.n_int (by decide +kernel) rfl) pa_nil))) (pe_one (pe_not (pe_callB call_isi (by rfl) T.n_isinstance (by decide +kernel) (pa_cons (pv 0) (pa_cons (pe_bltn (v := .ty "bool") rfl T.n_bool (by decide +kernel) rfl) pa_nil))))))))
theorem ok_arehalves {P : Program} {w : World} {K : PySem.W.Frag} {mg : Str → Option Value} {base : Heap} (T : Tx P K mg) : FnOk P w K mg base (L2.CX P w) 2 (He.ga K "are_halves") T.fd_arehalves pr_arehalves (sp_arehalves K) := by
  have G_isinteger := ok_isinteger (P := P) (w := w) (base := base) T
  refine T.F_arehalves.ok sc_arehalves ln_arehalves (fun cdv A outer s H vs Q E hr h => ⟨t_arehalves K, PSs.nox ?_, rd_arehalves T.kf vs H Q E h⟩)
  exact (pss_cons (ps_if (pt_not (pt_val (pe_callB (cr_all rfl) (by rfl) T.n_all (by decide +kernel) (pa_cons (pe_lc (own := [("number", 2)]) (g := gName 2) (tt := tYes) rfl sc_arehalves.nd (pi_list (pv 0)) (blkOk_by (own := [("number", 2)]) (N := nm_arehalves) (sc := defScope s_arehalves) (by decide +kernel)) (fun _ _ _ _ _ => pg_name (i := 2) sc_arehalves.nd rfl (by first | exact Or.inl rfl | exact Or.inr rfl)) (fun _ _ _ _ _ => pts_nil) (fun _ _ _ _ _ => (pe_and (pe_call G_isinteger (hr.mono (by decide)) rfl T.m_isinteger T.F_isinteger.kp T.b_isinteger .nil passL (pa_cons (pv 2) pa_nil)) (pe_one (pe_chain op_le op_lt pe_int (pv 2) (pv 1)))))) pa_nil)))) (pss_one (ps_ret pe_bl)) pss_nil)
      (pss_one (ps_ret (pe_cmpR op_eq (PSetI.pe_lenI rfl (by rfl) T.n_len (by rfl) T.n_set (pv 0)) (pe_callB call_len_seq (by rfl) T.n_len PySem.boot_len (pa_cons (pv 0) pa_nil)) (nomark _)))))
theorem ok_areallhalves {P : Program} {w : World} {K : PySem.W.Frag} {mg : Str → Option Value} {base : Heap} (T : Tx P K mg) : FnOk P w K mg base (L2.CX P w) 3 (He.ga K "_are_all_halves") T.fd_areallhalves pr_areallhalves (sp_areallhalves K) := by
  have G_arehalves := ok_arehalves (P := P) (w := w) (base := base) T
  refine T.F_areallhalves.ok sc_areallhalves ln_areallhalves (fun cdv A outer s H vs Q E hr h => ⟨t_areallhalves K, PSs.nox ?_, rd_areallhalves T.kf vs H Q E h⟩)
  exact (pss_one (ps_ret (pe_and (pe_cmpR op_eq (pe_op op_modN (pe_callB call_len_seq (by rfl) T.n_len PySem.boot_len (pa_cons (pv 0) pa_nil)) pe_int) pe_int (nomark _)) (pe_one (pe_call G_arehalves (hr.mono (by decide)) rfl T.m_arehalves T.F_arehalves.kp T.b_arehalves .nil passL (pa_cons (pv 0) (pa_cons (pe_callB call_len_seq (by rfl) T.n_len PySem.boot_len (pa_cons (pv 0) pa_nil)) pa_nil)))))))
theorem ok_inverse {P : Program} {w : World} {K : PySem.W.Frag} {mg : Str → Option Value} {base : Heap} (T : Tx P K mg) : FnOk P w K mg base (L2.CX P w) 1 (He.ga K "_inverse") T.fd_inverse pr_inverse (sp_inverse K) := by
  refine T.F_inverse.ok sc_inverse ln_inverse (fun cdv A outer s H vs Q E hr h => ⟨t_inverse K, PSs.nox ?_, rd_inverse T.kf vs H Q E h⟩)
  exact (pss_cons (ps_set (i := 1) sc_inverse.nd rfl (Or.inl rfl) (pe_op op_rep (pe_lst (pa_cons pe_int pa_nil)) (pe_callB call_len_seq (by rfl) T.n_len PySem.boot_len (pa_cons (pv 0) pa_nil))))
      (pss_cons (ps_for PassesOwn.never rfl (pi_enum (by rfl) T.n_enumerate (pa_cons (pv 0) pa_nil)) (pg_tup (by rfl) (pgs_cons (pg_name (i := 2) sc_inverse.nd rfl (Or.inl rfl)) (pgs_cons (pg_name (i := 3) sc_inverse.nd rfl (Or.inl rfl)) pgs_nil))) (pss_one (ps_asg (pv 2) (pg_sub (pv 1) (pv 3) set_list))))
      (pss_one (ps_ret (pv 1)))))
theorem ok_Meshinit {P : Program} {w : World} {K : PySem.W.Frag} {mg : Str → Option Value} {base : Heap} (T : Tx P K mg) : FnOk P w K mg base (L2.CX P w) 4 (He.ma K (He.ga K "Mesh") "__init__") T.fd_Meshinit pr_Meshinit (sp_Meshinit K) := by
  have G_NotAMeshinit := ok_NotAMeshinit (P := P) (w := w) (base := base) T
  have G_areallhalves := ok_areallhalves (P := P) (w := w) (base := base) T
  have G_inverse := ok_inverse (P := P) (w := w) (base := base) T
  refine T.F_Meshinit.ok sc_Meshinit ln_Meshinit (fun cdv A outer s H vs Q E hr h => ⟨t_Meshinit K E, ?_, rd_Meshinit T.kf vs H Q E h⟩)
  exact (pss_cons (ps_set (i := 2) sc_Meshinit.nd rfl (Or.inl rfl) (pe_callTy call_list_of (by rfl) T.n_list (by decide +kernel) (pa_cons (pv 1) pa_nil)))
      (pss_cons (ps_if (pt_not (pt_val (pe_call G_areallhalves (hr.mono (by decide)) rfl T.m_areallhalves T.F_areallhalves.kp T.b_areallhalves .nil passL (pa_cons (pv 2) pa_nil)))) (pss_one (ps_raise rfl (takes_of rfl rfl rfl rfl) (pmk_sup0 T.u_NotAMesh.F.oex T.u_NotAMesh.iC T.u_NotAMesh.tI G_NotAMeshinit (hr.mono (by decide)) T.b_NotAMeshinit passL rfl T.m_NotAMesh))) pss_nil)
      (pss_cons (ps_fld (pv 0) (pv 2) rfl)
      (pss_cons (ps_fld (pv 0) (pe_call G_inverse (hr.mono (by decide)) rfl T.m_inverse T.F_inverse.kp T.b_inverse .nil passL (pa_cons (pv 2) pa_nil)) rfl)
      (pss_one (ps_fld (pv 0) (pe_lc (own := [("half", 3)]) (g := gName 3) (tt := tYes) rfl sc_Meshinit.nd (pi_list (pe_fld (pv 0) rfl)) (blkOk_by (own := [("half", 3)]) (N := nm_Meshinit) (sc := defScope s_Meshinit) (by decide +kernel)) (fun _ _ _ _ _ => pg_name (i := 3) sc_Meshinit.nd rfl (by first | exact Or.inl rfl | exact Or.inr rfl)) (fun _ _ _ _ _ => pts_nil) (fun _ _ _ _ _ => (pe_op op_xor (pv 3) pe_int))) rfl))))))
theorem ok_Meshlen {P : Program} {w : World} {K : PySem.W.Frag} {mg : Str → Option Value} {base : Heap} (T : Tx P K mg) : FnOk P w K mg base (L2.CX P w) 1 (He.ma K (He.ga K "Mesh") "__len__") T.fd_Meshlen pr_Meshlen (sp_Meshlen K) := by
  refine T.F_Meshlen.ok sc_Meshlen ln_Meshlen (fun cdv A outer s H vs Q E hr h => ⟨t_Meshlen K, PSs.nox ?_, rd_Meshlen T.kf vs H Q E h⟩)
  exact (pss_one (ps_ret (pe_callB call_len_seq (by rfl) T.n_len PySem.boot_len (pa_cons (pe_fld (pv 0) rfl) pa_nil))))
theorem ok_Meshedges {P : Program} {w : World} {K : PySem.W.Frag} {mg : Str → Option Value} {base : Heap} (T : Tx P K mg) : FnOk P w K mg base (L2.CX P w) 1 (gA K pg_edges) T.fd_Meshedges pr_Meshedges (sp_Meshedges K) := by
  refine T.F_Meshedges.ok sc_Meshedges ln_Meshedges (fun cdv A outer s H vs Q E hr h => ⟨t_Meshedges K, PSs.nox ?_, rd_Meshedges T.kf vs H Q E h⟩)
  exact (pss_one (ps_ret (pe_op op_fdivN (pe_callB call_len_seq (by rfl) T.n_len PySem.boot_len (pa_cons (pe_fld (pv 0) rfl) pa_nil)) pe_int)))
theorem ok_rounds {P : Program} {w : World} {K : PySem.W.Frag} {mg : Str → Option Value} {base : Heap} (T : Tx P K mg) : FnOk P w K mg base (L2.CX P w) 1 (He.ga K "_rounds") T.fd_rounds pr_rounds (sp_rounds K) := by
  refine T.F_rounds.ok sc_rounds ln_rounds (fun cdv A outer s H vs Q E hr h => ⟨t_rounds K, PSs.nox ?_, rd_rounds T.kf vs H Q E h⟩)
  exact (pss_cons (ps_set (i := 1) sc_rounds.nd rfl (Or.inl rfl) (pe_lst pa_nil))
      (pss_cons (ps_set (i := 2) sc_rounds.nd rfl (Or.inl rfl) (pe_op op_rep (pe_lst (pa_cons pe_bl pa_nil)) (pe_callB call_len_seq (by rfl) T.n_len PySem.boot_len (pa_cons (pv 0) pa_nil))))
      (pss_cons (ps_for PassesOwn.never rfl (pi_range1 (by rfl) T.n_range (pa_cons (pe_callB call_len_seq (by rfl) T.n_len PySem.boot_len (pa_cons (pv 0) pa_nil)) pa_nil)) (pg_name (i := 3) sc_rounds.nd rfl (Or.inl rfl)) (pss_one (ps_if (pt_not (pt_val (pe_ix ix_list (pv 2) (pv 3) (fun _ _ => rfl)))) (pss_cons (ps_set (i := 4) sc_rounds.nd rfl (Or.inl rfl) (pe_lst pa_nil))
      (pss_cons (ps_set (i := 5) sc_rounds.nd rfl (Or.inl rfl) (pv 3))
      (pss_cons (ps_while PassesOwn.never (pt_not (pt_val (pe_ix ix_list (pv 2) (pv 5) (fun _ _ => rfl)))) (pss_cons (ps_asg pe_bl (pg_sub (pv 2) (pv 5) set_list))
      (pss_cons (ps_expr (pe_bm PySem.F.plainAttrs_list PySem.F.slot_list_append PySem.F.type_list_append mt_append (pv 4) (pa_cons (pv 5) pa_nil)))
      (pss_one (ps_set (i := 5) sc_rounds.nd rfl (Or.inl rfl) (pe_ix ix_list (pv 0) (pv 5) (fun _ _ => rfl)))))))
      (pss_one (ps_expr (pe_bm PySem.F.plainAttrs_list PySem.F.slot_list_append PySem.F.type_list_append mt_append (pv 1) (pa_cons (pv 4) pa_nil))))))) pss_nil)))
      (pss_one (ps_ret (pv 1))))))
theorem ok_Meshfaces {P : Program} {w : World} {K : PySem.W.Frag} {mg : Str → Option Value} {base : Heap} (T : Tx P K mg) : FnOk P w K mg base (L2.CX P w) 2 (He.ma K (He.ga K "Mesh") "faces") T.fd_Meshfaces pr_Meshfaces (sp_Meshfaces K) := by
  have G_rounds := ok_rounds (P := P) (w := w) (base := base) T
  refine T.F_Meshfaces.ok sc_Meshfaces ln_Meshfaces (fun cdv A outer s H vs Q E hr h => ⟨t_Meshfaces K, PSs.nox ?_, rd_Meshfaces T.kf vs H Q E h⟩)
  exact (pss_one (ps_ret (pe_call G_rounds (hr.mono (by decide)) rfl T.m_rounds T.F_rounds.kp T.b_rounds .nil passL (pa_cons (pe_fld (pv 0) rfl) pa_nil))))
theorem ok_Meshcorners {P : Program} {w : World} {K : PySem.W.Frag} {mg : Str → Option Value} {base : Heap} (T : Tx P K mg) : FnOk P w K mg base (L2.CX P w) 2 (He.ma K (He.ga K "Mesh") "corners") T.fd_Meshcorners pr_Meshcorners (sp_Meshcorners K) := by
  have G_rounds := ok_rounds (P := P) (w := w) (base := base) T
  refine T.F_Meshcorners.ok sc_Meshcorners ln_Meshcorners (fun cdv A outer s H vs Q E hr h => ⟨t_Meshcorners K, PSs.nox ?_, rd_Meshcorners T.kf vs H Q E h⟩)
  exact (pss_one (ps_ret (pe_call G_rounds (hr.mono (by decide)) rfl T.m_rounds T.F_rounds.kp T.b_rounds .nil passL (pa_cons (pe_fld (pv 0) rfl) pa_nil))))
theorem ok_Meshpiece {P : Program} {w : World} {K : PySem.W.Frag} {mg : Str → Option Value} {base : Heap} (T : Tx P K mg) : FnOk P w K mg base (L2.CX P w) 1 (He.ma K (He.ga K "Mesh") "_piece") T.fd_Meshpiece pr_Meshpiece (sp_Meshpiece K) := by
  refine T.F_Meshpiece.ok sc_Meshpiece ln_Meshpiece (fun cdv A outer s H vs Q E hr h => ⟨t_Meshpiece K, PSs.nox ?_, rd_Meshpiece T.kf vs H Q E h⟩)
  exact (pss_cons (ps_set (i := 2) sc_Meshpiece.nd rfl (Or.inl rfl) pe_dnewK)
      (pss_cons (ps_set (i := 3) sc_Meshpiece.nd rfl (Or.inl rfl) (pe_lst (pa_cons (pv 1) pa_nil)))
      (pss_cons (ps_while PassesOwn.never (pt_truL (pv 3)) (pss_cons (ps_set (i := 4) sc_Meshpiece.nd rfl (Or.inl rfl) (pe_bm0 PySem.F.plainAttrs_list PySem.F.slot_list_pop PySem.F.type_list_pop mt_pop (pv 3)))
      (pss_one (ps_if (pt_cmp (pc_dnotin (hu1 hr) (pv 4) (pv 2)) rfl) (pss_cons (ps_dput (hu1 hr) (pv 2) (pv 4) pe_bl rfl)
      (pss_cons (ps_expr (pe_bm PySem.F.plainAttrs_list PySem.F.slot_list_append PySem.F.type_list_append mt_append (pv 3) (pa_cons (pe_ix ix_list (pe_fld (pv 0) rfl) (pv 4) (fun _ _ => rfl)) pa_nil)))
      (pss_one (ps_expr (pe_bm PySem.F.plainAttrs_list PySem.F.slot_list_append PySem.F.type_list_append mt_append (pv 3) (pa_cons (pe_op op_xor (pv 4) pe_int) pa_nil)))))) pss_nil))))
      (pss_one (ps_ret (pe_callB (call_sortedDI rfl) (by rfl) T.n_sorted (by decide +kernel) (pa_cons (pv 2) pa_nil)))))))
theorem ok_Meshpieces {P : Program} {w : World} {K : PySem.W.Frag} {mg : Str → Option Value} {base : Heap} (T : Tx P K mg) : FnOk P w K mg base (L2.CX P w) 2 (He.ma K (He.ga K "Mesh") "pieces") T.fd_Meshpieces pr_Meshpieces (sp_Meshpieces K) := by
  have G_Meshpiece := ok_Meshpiece (P := P) (w := w) (base := base) T
  refine T.F_Meshpieces.ok sc_Meshpieces ln_Meshpieces (fun cdv A outer s H vs Q E hr h => ⟨t_Meshpieces K, PSs.nox ?_, rd_Meshpieces T.kf vs H Q E h⟩)
  exact (pss_cons (ps_set (i := 1) sc_Meshpieces.nd rfl (Or.inl rfl) (pe_lst pa_nil))
      (pss_cons (ps_set (i := 2) sc_Meshpieces.nd rfl (Or.inl rfl) pe_dnewK)
      (pss_cons (ps_for PassesOwn.never rfl (pi_range1 (by rfl) T.n_range (pa_cons (pe_callB call_len_seq (by rfl) T.n_len PySem.boot_len (pa_cons (pe_fld (pv 0) rfl) pa_nil)) pa_nil)) (pg_name (i := 3) sc_Meshpieces.nd rfl (Or.inl rfl)) (pss_one (ps_if (pt_cmp (pc_dnotin (hu1 hr) (pv 3) (pv 2)) rfl) (pss_cons (ps_set (i := 4) sc_Meshpieces.nd rfl (Or.inl rfl) (pe_meth (pv 0) T.cl_Mesh T.me_Meshpiece G_Meshpiece (hr.mono (by decide)) T.b_Meshpiece .nil passL (pa_cons (pv 3) pa_nil)))
      (pss_cons (ps_expr (pe_bm PySem.F.plainAttrs_dict PySem.F.slot_dict_update PySem.F.type_dict_update mt_update (pv 2) (pa_cons (pe_dc (own := [("member", 5)]) (g := gName 5) (tt := tYes) rfl sc_Meshpieces.nd (pi_list (pv 4)) (blkOk_by (own := [("member", 5)]) (N := nm_Meshpieces) (sc := defScope s_Meshpieces) (by decide +kernel)) (fun _ _ _ _ _ => pg_name (i := 5) sc_Meshpieces.nd rfl (by first | exact Or.inl rfl | exact Or.inr rfl)) (fun _ _ _ _ _ => pts_nil) (fun _ _ _ _ _ => (pv 5)) (fun _ _ _ _ _ => pe_bl)) pa_nil)))
      (pss_one (ps_expr (pe_bm PySem.F.plainAttrs_list PySem.F.slot_list_append PySem.F.type_list_append mt_append (pv 1) (pa_cons (pv 4) pa_nil)))))) pss_nil)))
      (pss_one (ps_ret (pv 1))))))
theorem ok_Meshcounts {P : Program} {w : World} {K : PySem.W.Frag} {mg : Str → Option Value} {base : Heap} (T : Tx P K mg) : FnOk P w K mg base (L2.CX P w) 3 (He.ma K (He.ga K "Mesh") "counts") T.fd_Meshcounts pr_Meshcounts (sp_Meshcounts K) := by
  have G_Meshcorners := ok_Meshcorners (P := P) (w := w) (base := base) T
  have G_Meshedges := ok_Meshedges (P := P) (w := w) (base := base) T
  have G_Meshfaces := ok_Meshfaces (P := P) (w := w) (base := base) T
  have G_Meshpieces := ok_Meshpieces (P := P) (w := w) (base := base) T
  refine T.F_Meshcounts.ok sc_Meshcounts ln_Meshcounts (fun cdv A outer s H vs Q E hr h => ⟨t_Meshcounts K, PSs.nox ?_, rd_Meshcounts T.kf vs H Q E h⟩)
  exact (pss_cons (ps_set (i := 1) sc_Meshcounts.nd rfl (Or.inl rfl) (pe_callB call_len_seq (by rfl) T.n_len PySem.boot_len (pa_cons (pe_meth0 (pv 0) T.cl_Mesh T.me_Meshfaces G_Meshfaces (hr.mono (by decide)) T.b_Meshfaces .nil passL) pa_nil)))
      (pss_cons (ps_set (i := 2) sc_Meshcounts.nd rfl (Or.inl rfl) (pe_callB call_len_seq (by rfl) T.n_len PySem.boot_len (pa_cons (pe_meth0 (pv 0) T.cl_Mesh T.me_Meshcorners G_Meshcorners (hr.mono (by decide)) T.b_Meshcorners .nil passL) pa_nil)))
      (pss_cons (ps_set (i := 3) sc_Meshcounts.nd rfl (Or.inl rfl) (pe_callB call_len_seq (by rfl) T.n_len PySem.boot_len (pa_cons (pe_meth0 (pv 0) T.cl_Mesh T.me_Meshpieces G_Meshpieces (hr.mono (by decide)) T.b_Meshpieces .nil passL) pa_nil)))
      (pss_cons (ps_set (i := 4) sc_Meshcounts.nd rfl (Or.inl rfl) (pe_prop (E := E0) (pv 0) T.cl_Mesh T.pr_edges G_Meshedges (hr.mono (by decide)) T.b_Meshedges .nil passL rfl))
      (pss_cons (ps_set (i := 5) sc_Meshcounts.nd rfl (Or.inl rfl) (pe_op op_sub (pv 3) (pe_op op_fdivN (pe_op op_add (pe_op op_sub (pv 2) (pv 4)) (pv 1)) pe_int)))
      (pss_one (ps_ret (pe_tup (pa_cons (pv 1) (pa_cons (pv 2) (pa_cons (pv 4) (pa_cons (pv 3) (pa_cons (pv 5) pa_nil)))))))))))))
theorem ok_isoneround {P : Program} {w : World} {K : PySem.W.Frag} {mg : Str → Option Value} {base : Heap} (T : Tx P K mg) : FnOk P w K mg base (L2.CX P w) 1 (He.ga K "_is_one_round") T.fd_isoneround pr_isoneround (sp_isoneround K) := by
  refine T.F_isoneround.ok sc_isoneround ln_isoneround (fun cdv A outer s H vs Q E hr h => ⟨t_isoneround K, PSs.nox ?_, rd_isoneround T.kf vs H Q E h⟩)
  exact (pss_cons (ps_set (i := 3) sc_isoneround.nd rfl (Or.inl rfl) (pe_ix ix_list (pv 0) (pv 1) (fun _ _ => rfl)))
      (pss_cons (ps_while PassesOwn.never (PW.pt (pw_and (pt_cmpR op_ne (pv 3) (pv 1) (nomark _)) (pw_and1 (pt_cmpR op_ne (pv 3) (pv 2) (nomark _))))) (pss_one (ps_set (i := 3) sc_isoneround.nd rfl (Or.inl rfl) (pe_ix ix_list (pv 0) (pv 3) (fun _ _ => rfl)))))
      (pss_one (ps_ret (pe_cmpR op_eq (pv 3) (pv 2) (nomark _))))))
theorem ok_Meshisoneface {P : Program} {w : World} {K : PySem.W.Frag} {mg : Str → Option Value} {base : Heap} (T : Tx P K mg) : FnOk P w K mg base (L2.CX P w) 2 (He.ma K (He.ga K "Mesh") "is_one_face") T.fd_Meshisoneface pr_Meshisoneface (sp_Meshisoneface K) := by
  have G_isoneround := ok_isoneround (P := P) (w := w) (base := base) T
  refine T.F_Meshisoneface.ok sc_Meshisoneface ln_Meshisoneface (fun cdv A outer s H vs Q E hr h => ⟨t_Meshisoneface K, PSs.nox ?_, rd_Meshisoneface T.kf vs H Q E h⟩)
  exact (pss_one (ps_ret (pe_call G_isoneround (hr.mono (by decide)) rfl T.m_isoneround T.F_isoneround.kp T.b_isoneround .nil passL (pa_cons (pe_fld (pv 0) rfl) (pa_cons (pv 1) (pa_cons (pv 2) pa_nil))))))
theorem ok_Meshisonecorner {P : Program} {w : World} {K : PySem.W.Frag} {mg : Str → Option Value} {base : Heap} (T : Tx P K mg) : FnOk P w K mg base (L2.CX P w) 2 (He.ma K (He.ga K "Mesh") "is_one_corner") T.fd_Meshisonecorner pr_Meshisonecorner (sp_Meshisonecorner K) := by
  have G_isoneround := ok_isoneround (P := P) (w := w) (base := base) T
  refine T.F_Meshisonecorner.ok sc_Meshisonecorner ln_Meshisonecorner (fun cdv A outer s H vs Q E hr h => ⟨t_Meshisonecorner K, PSs.nox ?_, rd_Meshisonecorner T.kf vs H Q E h⟩)
  exact (pss_one (ps_ret (pe_call G_isoneround (hr.mono (by decide)) rfl T.m_isoneround T.F_isoneround.kp T.b_isoneround .nil passL (pa_cons (pe_fld (pv 0) rfl) (pa_cons (pv 1) (pa_cons (pv 2) pa_nil))))))
theorem ok_Ltape {P : Program} {w : World} {K : PySem.W.Frag} {mg : Str → Option Value} {base : Heap} (T : Tx P K mg) : FnOk P w K mg base (L2.CX P w) 1 (He.ga K "_law_tape") T.fd_Ltape pr_Ltape (sp_Ltape K) := by
  refine T.F_Ltape.ok sc_Ltape ln_Ltape (fun cdv A outer s H vs Q E hr h => ⟨t_Ltape K, PSs.nox ?_, rd_Ltape T.kf vs H Q E h⟩)
  exact (pss_cons (ps_set (i := 2) sc_Ltape.nd rfl (Or.inl rfl) pe_int)
      (pss_cons (ps_if (pt_cmpR (op_neD hr.units) (pv 0) (pe_lst pa_nil) (nomark _)) (pss_one (ps_set (i := 2) sc_Ltape.nd rfl (Or.inl rfl) (pe_ix ix_list (pv 0) (pe_op op_modN (pe_callTy call_int1 (by rfl) T.n_int (by decide +kernel) (pa_cons (pv 1) pa_nil)) (pe_callB call_len_seq (by rfl) T.n_len PySem.boot_len (pa_cons (pv 0) pa_nil))) (fun _ _ => rfl)))) pss_nil)
      (pss_one (ps_ret (pe_lst (pa_cons (pe_callB call_abs (by rfl) T.n_abs (by decide +kernel) (pa_cons (pv 2) pa_nil)) (pa_cons (pe_op op_add (pe_op op_mul pe_int (pv 1)) pe_int) pa_nil)))))))
theorem ok_Lpick {P : Program} {w : World} {K : PySem.W.Frag} {mg : Str → Option Value} {base : Heap} (T : Tx P K mg) : FnOk P w K mg base (L2.CX P w) 1 (He.ga K "_law_pick") T.fd_Lpick pr_Lpick (sp_Lpick K) := by
  refine T.F_Lpick.ok sc_Lpick ln_Lpick (fun cdv A outer s H vs Q E hr h => ⟨t_Lpick K, PSs.nox ?_, rd_Lpick T.kf vs H Q E h⟩)
  exact (pss_cons (ps_if (pt_cmpR op_ge (pe_ix ix_list (pv 0) pe_int (fun _ _ => rfl)) (pe_op op_pow pe_int pe_int) (nomark _)) (pss_cons (ps_set (i := 2) sc_Lpick.nd rfl (Or.inl rfl) (pe_op op_modN (pe_callTy call_int1 (by rfl) T.n_int (by decide +kernel) (pa_cons (pe_ix ix_list (pv 0) pe_int (fun _ _ => rfl)) pa_nil)) (pv 1)))
      (pss_cons (ps_asg (pe_op op_fdivN (pe_ix ix_list (pv 0) pe_int (fun _ _ => rfl)) (pv 1)) (pg_sub (pv 0) pe_int set_list))
      (pss_one (ps_ret (pv 2))))) pss_nil)
      (pss_cons (ps_asg (pe_op op_modN (pe_callTy call_int1 (by rfl) T.n_int (by decide +kernel) (pa_cons (pe_op op_add (pe_op op_add (pe_op op_mul (pe_ix ix_list (pv 0) pe_int (fun _ _ => rfl)) pe_int) (pe_op op_mul (pe_ix ix_list (pv 0) pe_int (fun _ _ => rfl)) pe_int)) pe_int) pa_nil)) pe_int) (pg_sub (pv 0) pe_int set_list))
      (pss_cons (ps_set (i := 3) sc_Lpick.nd rfl (Or.inl rfl) (pe_op op_modN (pe_callTy call_int1 (by rfl) T.n_int (by decide +kernel) (pa_cons (pe_op op_add (pe_op op_add (pe_op op_mul (pe_ix ix_list (pv 0) pe_int (fun _ _ => rfl)) (pe_ix ix_list (pv 0) pe_int (fun _ _ => rfl))) (pe_op op_mul (pe_ix ix_list (pv 0) pe_int (fun _ _ => rfl)) pe_int)) pe_int) pa_nil)) pe_int))
      (pss_one (ps_ret (pe_op op_modN (pe_callTy call_int1 (by rfl) T.n_int (by decide +kernel) (pa_cons (pe_op op_fdivN (pv 3) pe_int) pa_nil)) (pv 1)))))))
theorem ok_Lnexts {P : Program} {w : World} {K : PySem.W.Frag} {mg : Str → Option Value} {base : Heap} (T : Tx P K mg) : FnOk P w K mg base (L2.CX P w) 2 (He.ga K "_law_nexts") T.fd_Lnexts pr_Lnexts (sp_Lnexts K) := by
  have G_Lpick := ok_Lpick (P := P) (w := w) (base := base) T
  refine T.F_Lnexts.ok sc_Lnexts ln_Lnexts (fun cdv A outer s H vs Q E hr h => ⟨t_Lnexts K, PSs.nox ?_, rd_Lnexts T.kf vs H Q E h⟩)
  exact (pss_cons (ps_setLc (i := 3) (own := [("_law_k", 2)]) (g := gName 2) (tt := tYes) rfl sc_Lnexts.nd rfl rfl (sw_true rfl rfl rfl (by decide +kernel)) (pi_range1 (by rfl) T.n_range (pa_cons (pe_op op_mul pe_int (pv 1)) pa_nil)) (blkOk_by (own := [("_law_k", 2)]) (N := nm_Lnexts) (sc := defScope s_Lnexts) (by decide +kernel)) (fun _ _ _ _ _ => pg_name (i := 2) sc_Lnexts.nd rfl (by first | exact Or.inl rfl | exact Or.inr rfl)) (fun _ _ _ _ _ => pts_nil) (fun _ _ _ _ _ => (pv 2)))
      (pss_cons (ps_set (i := 4) sc_Lnexts.nd rfl (Or.inl rfl) (pe_lst pa_nil))
      (pss_cons (ps_for PassesOwn.never rfl (pi_range1 (by rfl) T.n_range (pa_cons (pe_op op_mul pe_int (pv 1)) pa_nil)) (pg_name (i := 2) sc_Lnexts.nd rfl (Or.inl rfl)) (pss_cons (ps_set (i := 5) sc_Lnexts.nd rfl (Or.inl rfl) (pe_call G_Lpick (hr.mono (by decide)) rfl T.m_Lpick T.F_Lpick.kp T.b_Lpick .nil passL (pa_cons (pv 0) (pa_cons (pe_callB call_len_seq (by rfl) T.n_len PySem.boot_len (pa_cons (pv 3) pa_nil)) pa_nil))))
      (pss_cons (ps_expr (pe_bm PySem.F.plainAttrs_list PySem.F.slot_list_append PySem.F.type_list_append mt_append (pv 4) (pa_cons (pe_ix ix_list (pv 3) (pv 5) (fun _ _ => rfl)) pa_nil)))
      (pss_one (ps_set (i := 3) sc_Lnexts.nd rfl (Or.inl rfl) (pe_op op_cat (pe_slice sl_list (pv 3) po_none (po_some (pv 5))) (pe_slice sl_list (pv 3) (po_some (pe_op op_add (pv 5) pe_int)) po_none)))))))
      (pss_one (ps_ret (pv 4))))))
theorem ok_Lsize {P : Program} {w : World} {K : PySem.W.Frag} {mg : Str → Option Value} {base : Heap} (T : Tx P K mg) : FnOk P w K mg base (L2.CX P w) 2 (He.ga K "_law_size") T.fd_Lsize pr_Lsize (sp_Lsize K) := by
  have G_Lpick := ok_Lpick (P := P) (w := w) (base := base) T
  refine T.F_Lsize.ok sc_Lsize ln_Lsize (fun cdv A outer s H vs Q E hr h => ⟨t_Lsize K, PSs.nox ?_, rd_Lsize T.kf vs H Q E h⟩)
  exact (pss_cons (ps_set (i := 1) sc_Lsize.nd rfl (Or.inl rfl) (pe_call G_Lpick (hr.mono (by decide)) rfl T.m_Lpick T.F_Lpick.kp T.b_Lpick .nil passL (pa_cons (pv 0) (pa_cons pe_int pa_nil))))
      (pss_cons (ps_if (pt_cmpR op_eq (pv 1) pe_int (nomark _)) (pss_one (ps_ret pe_int)) pss_nil)
      (pss_cons (ps_if (pt_cmpR op_lt (pv 1) pe_int (nomark _)) (pss_one (ps_ret (pe_call G_Lpick (hr.mono (by decide)) rfl T.m_Lpick T.F_Lpick.kp T.b_Lpick .nil passL (pa_cons (pv 0) (pa_cons pe_int pa_nil))))) pss_nil)
      (pss_one (ps_ret (pe_call G_Lpick (hr.mono (by decide)) rfl T.m_Lpick T.F_Lpick.kp T.b_Lpick .nil passL (pa_cons (pv 0) (pa_cons pe_int pa_nil))))))))
theorem ok_Ltwin {P : Program} {w : World} {K : PySem.W.Frag} {mg : Str → Option Value} {base : Heap} (T : Tx P K mg) : FnOk P w K mg base (L2.CX P w) 1 (He.ga K "_law_twin") T.fd_Ltwin pr_Ltwin (sp_Ltwin K) := by
  refine T.F_Ltwin.ok sc_Ltwin ln_Ltwin (fun cdv A outer s H vs Q E hr h => ⟨t_Ltwin K, PSs.nox ?_, rd_Ltwin T.kf vs H Q E h⟩)
  exact (pss_one (ps_ret (pe_op op_sub (pe_op op_add (pv 0) pe_int) (pe_op op_mul pe_int (pe_op op_modN (pe_callTy call_int1 (by rfl) T.n_int (by decide +kernel) (pa_cons (pv 0) pa_nil)) pe_int)))))
theorem ok_Lturned {P : Program} {w : World} {K : PySem.W.Frag} {mg : Str → Option Value} {base : Heap} (T : Tx P K mg) : FnOk P w K mg base (L2.CX P w) 2 (He.ga K "_law_turned") T.fd_Lturned pr_Lturned (sp_Lturned K) := by
  have G_Ltwin := ok_Ltwin (P := P) (w := w) (base := base) T
  refine T.F_Lturned.ok sc_Lturned ln_Lturned (fun cdv A outer s H vs Q E hr h => ⟨t_Lturned K, PSs.nox ?_, rd_Lturned T.kf vs H Q E h⟩)
  exact (pss_cons (ps_for PassesOwn.never rfl (pi_range1 (by rfl) T.n_range (pa_cons (pe_callB call_len_seq (by rfl) T.n_len PySem.boot_len (pa_cons (pv 0) pa_nil)) pa_nil)) (pg_name (i := 2) sc_Lturned.nd rfl (Or.inl rfl)) (pss_one (ps_if (pt_cmpR op_eq (pe_ix ix_list (pv 0) (pv 2) (fun _ _ => rfl)) (pv 1) (nomark _)) (pss_one (ps_ret (pe_call G_Ltwin (hr.mono (by decide)) rfl T.m_Ltwin T.F_Ltwin.kp T.b_Ltwin .nil passL (pa_cons (pv 2) pa_nil)))) pss_nil)))
      (pss_one (ps_ret (pe_un un_neg pe_int))))
theorem ok_Lround {P : Program} {w : World} {K : PySem.W.Frag} {mg : Str → Option Value} {base : Heap} (T : Tx P K mg) : FnOk P w K mg base (L2.CX P w) 3 (He.ga K "_law_round") T.fd_Lround pr_Lround (sp_Lround K) := by
  have G_Lturned := ok_Lturned (P := P) (w := w) (base := base) T
  refine T.F_Lround.ok sc_Lround ln_Lround (fun cdv A outer s H vs Q E hr h => ⟨t_Lround K, PSs.nox ?_, rd_Lround T.kf vs H Q E h⟩)
  exact (pss_cons (ps_set (i := 3) sc_Lround.nd rfl (Or.inl rfl) (pe_lst (pa_cons (pv 1) pa_nil)))
      (pss_cons (ps_set (i := 4) sc_Lround.nd rfl (Or.inl rfl) (pe_ifExp (pt_val (pv 2)) (pe_ix ix_list (pv 0) (pv 1) (fun _ _ => rfl)) (pe_call G_Lturned (hr.mono (by decide)) rfl T.m_Lturned T.F_Lturned.kp T.b_Lturned .nil passL (pa_cons (pv 0) (pa_cons (pv 1) pa_nil)))))
      (pss_cons (ps_while PassesOwn.never (PW.pt (pw_and (pt_cmpR op_ne (pv 4) (pv 1) (nomark _)) (pw_and1 (pt_cmpR op_le (pe_callB call_len_seq (by rfl) T.n_len PySem.boot_len (pa_cons (pv 3) pa_nil)) (pe_callB call_len_seq (by rfl) T.n_len PySem.boot_len (pa_cons (pv 0) pa_nil)) (nomark _))))) (pss_cons (ps_expr (pe_bm PySem.F.plainAttrs_list PySem.F.slot_list_append PySem.F.type_list_append mt_append (pv 3) (pa_cons (pv 4) pa_nil)))
      (pss_one (ps_set (i := 4) sc_Lround.nd rfl (Or.inl rfl) (pe_ifExp (pt_val (pv 2)) (pe_ix ix_list (pv 0) (pv 4) (fun _ _ => rfl)) (pe_call G_Lturned (hr.mono (by decide)) rfl T.m_Lturned T.F_Lturned.kp T.b_Lturned .nil passL (pa_cons (pv 0) (pa_cons (pv 4) pa_nil))))))))
      (pss_one (ps_ret (pv 3))))))
theorem ok_Lrounds {P : Program} {w : World} {K : PySem.W.Frag} {mg : Str → Option Value} {base : Heap} (T : Tx P K mg) : FnOk P w K mg base (L2.CX P w) 4 (He.ga K "_law_rounds") T.fd_Lrounds pr_Lrounds (sp_Lrounds K) := by
  have G_Lround := ok_Lround (P := P) (w := w) (base := base) T
  refine T.F_Lrounds.ok sc_Lrounds ln_Lrounds (fun cdv A outer s H vs Q E hr h => ⟨t_Lrounds K, PSs.nox ?_, rd_Lrounds T.kf vs H Q E h⟩)
  exact (pss_cons (ps_set (i := 2) sc_Lrounds.nd rfl (Or.inl rfl) (pe_lst pa_nil))
      (pss_cons (ps_for PassesOwn.never rfl (pi_range1 (by rfl) T.n_range (pa_cons (pe_callB call_len_seq (by rfl) T.n_len PySem.boot_len (pa_cons (pv 0) pa_nil)) pa_nil)) (pg_name (i := 3) sc_Lrounds.nd rfl (Or.inl rfl)) (pss_cons (ps_set (i := 4) sc_Lrounds.nd rfl (Or.inl rfl) (pe_call G_Lround (hr.mono (by decide)) rfl T.m_Lround T.F_Lround.kp T.b_Lround .nil passL (pa_cons (pv 0) (pa_cons (pv 3) (pa_cons (pv 1) pa_nil)))))
      (pss_one (ps_if (pt_cmpR op_eq (pe_callB (cr_min rfl) (by rfl) T.n_min (by decide +kernel) (pa_cons (pv 4) pa_nil)) (pv 3) (nomark _)) (pss_one (ps_expr (pe_bm PySem.F.plainAttrs_list PySem.F.slot_list_append PySem.F.type_list_append mt_append (pv 2) (pa_cons (pv 4) pa_nil)))) pss_nil))))
      (pss_one (ps_ret (pv 2)))))
theorem ok_Lpieces {P : Program} {w : World} {K : PySem.W.Frag} {mg : Str → Option Value} {base : Heap} (T : Tx P K mg) : FnOk P w K mg base (L2.CX P w) 2 (He.ga K "_law_pieces") T.fd_Lpieces pr_Lpieces (sp_Lpieces K) := by
  have G_Ltwin := ok_Ltwin (P := P) (w := w) (base := base) T
  refine T.F_Lpieces.ok sc_Lpieces ln_Lpieces (fun cdv A outer s H vs Q E hr h => ⟨t_Lpieces K, PSs.nox ?_, rd_Lpieces T.kf vs H Q E h⟩)
  exact (pss_cons (ps_set (i := 2) sc_Lpieces.nd rfl (Or.inr rfl) (pe_lc (own := [("_law_k", 1)]) (g := gName 1) (tt := tYes) rfl sc_Lpieces.nd (pi_range1 (by rfl) T.n_range (pa_cons (pe_callB call_len_seq (by rfl) T.n_len PySem.boot_len (pa_cons (pv 0) pa_nil)) pa_nil)) (blkOk_by (own := [("_law_k", 1)]) (N := nm_Lpieces) (sc := defScope s_Lpieces) (by decide +kernel)) (fun _ _ _ _ _ => pg_name (i := 1) sc_Lpieces.nd rfl (by first | exact Or.inl rfl | exact Or.inr rfl)) (fun _ _ _ _ _ => pts_nil) (fun _ _ _ _ _ => (pv 1))))
      (pss_cons (ps_for PassesOwn.never rfl (pi_range1 (by rfl) T.n_range (pa_cons (pe_callB call_len_seq (by rfl) T.n_len PySem.boot_len (pa_cons (pv 0) pa_nil)) pa_nil)) (pg_name (i := 3) sc_Lpieces.nd rfl (Or.inl rfl)) (pss_one (ps_for PassesOwn.never rfl (pi_range1 (by rfl) T.n_range (pa_cons (pe_callB call_len_seq (by rfl) T.n_len PySem.boot_len (pa_cons (pv 0) pa_nil)) pa_nil)) (pg_name (i := 1) sc_Lpieces.nd rfl (Or.inl rfl)) (pss_cons (ps_set (i := 4) sc_Lpieces.nd rfl (Or.inl rfl) (pe_callB (call_min3Nu rfl) (by rfl) T.n_min (by decide +kernel) (pa_cons (pe_ix ix_list (pv 2) (pv 1) (fun _ _ => rfl)) (pa_cons (pe_ix ix_list (pv 2) (pe_ix ix_list (pv 0) (pv 1) (fun _ _ => rfl)) (fun _ _ => rfl)) (pa_cons (pe_ix ix_list (pv 2) (pe_call G_Ltwin (hr.mono (by decide)) rfl T.m_Ltwin T.F_Ltwin.kp T.b_Ltwin .nil passL (pa_cons (pv 1) pa_nil)) (fun _ _ => rfl)) pa_nil)))))
      (pss_cons (ps_asg (pv 4) (pg_sub (pv 2) (pv 1) set_list))
      (pss_cons (ps_asg (pv 4) (pg_sub (pv 2) (pe_ix ix_list (pv 0) (pv 1) (fun _ _ => rfl)) set_list))
      (pss_one (ps_asg (pv 4) (pg_sub (pv 2) (pe_call G_Ltwin (hr.mono (by decide)) rfl T.m_Ltwin T.F_Ltwin.kp T.b_Ltwin .nil passL (pa_cons (pv 1) pa_nil)) set_list)))))))))
      (pss_cons (ps_setLc (i := 5) (own := [("_law_k", 1)]) (g := gName 1) (tt := _) rfl sc_Lpieces.nd rfl rfl (sw_true rfl rfl rfl (by decide +kernel)) (pi_range1 (by rfl) T.n_range (pa_cons (pe_callB call_len_seq (by rfl) T.n_len PySem.boot_len (pa_cons (pv 0) pa_nil)) pa_nil)) (blkOk_by (own := [("_law_k", 1)]) (N := nm_Lpieces) (sc := defScope s_Lpieces) (by decide +kernel)) (fun _ _ _ _ _ => pg_name (i := 1) sc_Lpieces.nd rfl (by first | exact Or.inl rfl | exact Or.inr rfl)) (fun _ _ _ _ _ => pts_one (pt_cmpR op_eq (pe_ix ix_list (pv 2) (pv 1) (fun _ _ => rfl)) (pv 1) (nomark _))) (fun _ _ _ _ _ => (pv 1)))
      (pss_one (ps_ret (pe_lc (own := [("_law_first", 6)]) (g := gName 6) (tt := tYes) rfl sc_Lpieces.nd (pi_list (pv 5)) (blkOk_by (own := [("_law_first", 6)]) (N := nm_Lpieces) (sc := defScope s_Lpieces) (by decide +kernel)) (fun _ _ _ _ _ => pg_name (i := 6) sc_Lpieces.nd rfl (by first | exact Or.inl rfl | exact Or.inr rfl)) (fun _ _ _ _ _ => pts_nil) (fun _ _ _ _ _ => (pe_lc (own := [("_law_k", 1)]) (g := gName 1) (tt := _) rfl sc_Lpieces.nd (pi_range1 (by rfl) T.n_range (pa_cons (pe_callB call_len_seq (by rfl) T.n_len PySem.boot_len (pa_cons (pv 0) pa_nil)) pa_nil)) (blkOk_n (own := [("_law_k", 1)]) (N := nm_Lpieces) (by decide +kernel)) (fun _ _ _ _ _ => pg_name (i := 1) sc_Lpieces.nd rfl (by first | exact Or.inl rfl | exact Or.inr rfl)) (fun _ _ _ _ _ => pts_one (pt_cmpR op_eq (pe_ix ix_list (pv 2) (pv 1) (fun _ _ => rfl)) (pv 6) (nomark _))) (fun _ _ _ _ _ => (pv 1))))))))))
theorem ok_Ltogether {P : Program} {w : World} {K : PySem.W.Frag} {mg : Str → Option Value} {base : Heap} (T : Tx P K mg) : FnOk P w K mg base (L2.CX P w) 1 (He.ga K "_law_together") T.fd_Ltogether pr_Ltogether (sp_Ltogether K) := by
  refine T.F_Ltogether.ok sc_Ltogether ln_Ltogether (fun cdv A outer s H vs Q E hr h => ⟨t_Ltogether K, PSs.nox ?_, rd_Ltogether T.kf vs H Q E h⟩)
  exact (pss_cons (ps_for PassesOwn.never rfl (pi_list (pv 0)) (pg_name (i := 3) sc_Ltogether.nd rfl (Or.inl rfl)) (pss_one (ps_if (pt_cmpR op_in_seq (pv 1) (pv 3) rfl) (pss_one (ps_ret (pe_cmpR op_in_seq (pv 2) (pv 3) rfl))) pss_nil)))
      (pss_one (ps_ret pe_bl)))
theorem ok_Lpairs {P : Program} {w : World} {K : PySem.W.Frag} {mg : Str → Option Value} {base : Heap} (T : Tx P K mg) : FnOk P w K mg base (L2.CX P w) 3 (He.ga K "_law_pairs") T.fd_Lpairs pr_Lpairs (sp_Lpairs K) := by
  have G_Meshlen := ok_Meshlen (P := P) (w := w) (base := base) T
  have G_Meshisonecorner := ok_Meshisonecorner (P := P) (w := w) (base := base) T
  have G_Meshisoneface := ok_Meshisoneface (P := P) (w := w) (base := base) T
  have G_Lpick := ok_Lpick (P := P) (w := w) (base := base) T
  have G_Ltogether := ok_Ltogether (P := P) (w := w) (base := base) T
  refine T.F_Lpairs.ok sc_Lpairs ln_Lpairs (fun cdv A outer s H vs Q E hr h => ⟨t_Lpairs K, PSs.nox ?_, rd_Lpairs T.kf vs H Q E h⟩)
  exact (pss_cons (ps_for PassesOwn.never rfl (pi_range1 (by rfl) T.n_range (pa_cons pe_int pa_nil)) (pg_name (i := 4) sc_Lpairs.nd rfl (Or.inl rfl)) (pss_cons (ps_set (i := 5) sc_Lpairs.nd rfl (Or.inl rfl) (pe_call G_Lpick (hr.mono (by decide)) rfl T.m_Lpick T.F_Lpick.kp T.b_Lpick .nil passL (pa_cons (pv 3) (pa_cons (pe_callB (call_own_len (E := E0) G_Meshlen T.me_Meshlen.1 T.me_Meshlen.2 T.b_Meshlen passL (hr.mono (by decide))) (by rfl) T.n_len PySem.boot_len (pa_cons (pv 0) pa_nil)) pa_nil))))
      (pss_cons (ps_set (i := 6) sc_Lpairs.nd rfl (Or.inl rfl) (pe_call G_Lpick (hr.mono (by decide)) rfl T.m_Lpick T.F_Lpick.kp T.b_Lpick .nil passL (pa_cons (pv 3) (pa_cons (pe_callB (call_own_len (E := E0) G_Meshlen T.me_Meshlen.1 T.me_Meshlen.2 T.b_Meshlen passL (hr.mono (by decide))) (by rfl) T.n_len PySem.boot_len (pa_cons (pv 0) pa_nil)) pa_nil))))
      (pss_cons (ps_if (pt_cmpR op_eq (pe_call G_Lpick (hr.mono (by decide)) rfl T.m_Lpick T.F_Lpick.kp T.b_Lpick .nil passL (pa_cons (pv 3) (pa_cons pe_int pa_nil))) pe_int (nomark _)) (pss_one (ps_set (i := 6) sc_Lpairs.nd rfl (Or.inl rfl) (pv 5))) pss_nil)
      (pss_one (ps_for PassesOwn.never rfl (pi_list (pe_lst (pa_cons (pe_tup (pa_cons (pv 5) (pa_cons (pv 6) pa_nil))) (pa_cons (pe_tup (pa_cons (pv 6) (pa_cons (pv 5) pa_nil))) pa_nil)))) (pg_name (i := 7) sc_Lpairs.nd rfl (Or.inl rfl)) (pss_cons (ps_if (pt_cmpR op_ne (pe_meth (pv 0) T.cl_Mesh T.me_Meshisoneface G_Meshisoneface (hr.mono (by decide)) T.b_Meshisoneface .nil passL (pa_cons (pe_ix ix_tup (pv 7) pe_int (fun _ _ => rfl)) (pa_cons (pe_ix ix_tup (pv 7) pe_int (fun _ _ => rfl)) pa_nil))) (pe_call G_Ltogether (hr.mono (by decide)) rfl T.m_Ltogether T.F_Ltogether.kp T.b_Ltogether .nil passL (pa_cons (pv 1) (pa_cons (pv 5) (pa_cons (pv 6) pa_nil)))) (nomark _)) (pss_one (ps_ret pe_bl)) pss_nil)
      (pss_one (ps_if (pt_cmpR op_ne (pe_meth (pv 0) T.cl_Mesh T.me_Meshisonecorner G_Meshisonecorner (hr.mono (by decide)) T.b_Meshisonecorner .nil passL (pa_cons (pe_ix ix_tup (pv 7) pe_int (fun _ _ => rfl)) (pa_cons (pe_ix ix_tup (pv 7) pe_int (fun _ _ => rfl)) pa_nil))) (pe_call G_Ltogether (hr.mono (by decide)) rfl T.m_Ltogether T.F_Ltogether.kp T.b_Ltogether .nil passL (pa_cons (pv 2) (pa_cons (pv 5) (pa_cons (pv 6) pa_nil)))) (nomark _)) (pss_one (ps_ret pe_bl)) pss_nil)))))))))
      (pss_one (ps_ret pe_bl)))
theorem ok_law {P : Program} {w : World} {K : PySem.W.Frag} {mg : Str → Option Value} {base : Heap} (T : Tx P K mg) : FnOk P w K mg base CX0 6 (He.ga K "law") T.fd_law pr_law (sp_law K) := by
  have G_Meshinit := ok_Meshinit (P := P) (w := w) (base := base) T
  have G_Meshcounts := ok_Meshcounts (P := P) (w := w) (base := base) T
  have G_Meshedges := ok_Meshedges (P := P) (w := w) (base := base) T
  have G_Meshpieces := ok_Meshpieces (P := P) (w := w) (base := base) T
  have G_Lnexts := ok_Lnexts (P := P) (w := w) (base := base) T
  have G_Lpairs := ok_Lpairs (P := P) (w := w) (base := base) T
  have G_Lpick := ok_Lpick (P := P) (w := w) (base := base) T
  have G_Lpieces := ok_Lpieces (P := P) (w := w) (base := base) T
  have G_Lrounds := ok_Lrounds (P := P) (w := w) (base := base) T
  have G_Lsize := ok_Lsize (P := P) (w := w) (base := base) T
  have G_Ltape := ok_Ltape (P := P) (w := w) (base := base) T
  refine T.F_law.ok sc_law ln_law (fun cdv A outer s H vs Q E hr h => ⟨t_law K, PSs.nox ?_, rd_law T.kf vs H Q E h⟩)
  exact (pss_cons (ps_set (i := 1) sc_law.nd rfl (Or.inl rfl) (pe_call G_Ltape (hr.mono (by decide)) rfl T.m_Ltape T.F_Ltape.kp T.b_Ltape .nil passL (pa_cons (pv 0) (pa_cons pe_int pa_nil))))
      (pss_cons (ps_set (i := 2) sc_law.nd rfl (Or.inr rfl) (pe_call G_Lsize (hr.mono (by decide)) rfl T.m_Lsize T.F_Lsize.kp T.b_Lsize .nil passL (pa_cons (pv 1) pa_nil)))
      (pss_cons (ps_set (i := 3) sc_law.nd rfl (Or.inl rfl) (pe_and (pe_cmpR op_eq (pe_call G_Lpick (hr.mono (by decide)) rfl T.m_Lpick T.F_Lpick.kp T.b_Lpick .nil passL (pa_cons (pv 1) (pa_cons pe_int pa_nil))) pe_int (nomark _)) (pe_one (pe_cmpR op_lt (pv 2) pe_int (nomark _)))))
      (pss_cons (ps_set (i := 4) sc_law.nd rfl (Or.inl rfl) (pe_call G_Lnexts (hr.mono (by decide)) rfl T.m_Lnexts T.F_Lnexts.kp T.b_Lnexts .nil passL (pa_cons (pe_call G_Ltape (hr.mono (by decide)) rfl T.m_Ltape T.F_Ltape.kp T.b_Ltape .nil passL (pa_cons (pv 0) (pa_cons pe_int pa_nil))) (pa_cons (pv 2) pa_nil))))
      (pss_cons (ps_if (pt_val (pv 3)) (pss_cons (ps_set (i := 4) sc_law.nd rfl (Or.inl rfl) (pe_op op_cat (pv 4) (pe_lc (own := [("_law_half", 12)]) (g := gName 12) (tt := tYes) rfl sc_law.nd (pi_list (pv 4)) (blkOk_by (own := [("_law_half", 12)]) (N := nm_law) (sc := defScope s_law) (by decide +kernel)) (fun _ _ _ _ _ => pg_name (i := 12) sc_law.nd rfl (by first | exact Or.inl rfl | exact Or.inr rfl)) (fun _ _ _ _ _ => pts_nil) (fun _ _ _ _ _ => (pe_op op_add (pv 12) (pe_op op_mul pe_int (pv 2)))))))
      (pss_one (ps_set (i := 2) sc_law.nd rfl (Or.inr rfl) (pe_op op_mul pe_int (pv 2))))) pss_nil)
      (pss_cons (ps_set (i := 5) sc_law.nd rfl (Or.inl rfl) (pe_make T.mk_Mesh G_Meshinit (hr.mono (by decide)) rfl T.m_Mesh T.b_Meshinit .nil passL (pa_cons (pv 4) pa_nil)))
      (pss_cons (ps_set (i := 6) sc_law.nd rfl (Or.inl rfl) (pe_call G_Lrounds (hr.mono (by decide)) rfl T.m_Lrounds T.F_Lrounds.kp T.b_Lrounds .nil passL (pa_cons (pv 4) (pa_cons pe_bl pa_nil))))
      (pss_cons (ps_set (i := 7) sc_law.nd rfl (Or.inl rfl) (pe_call G_Lrounds (hr.mono (by decide)) rfl T.m_Lrounds T.F_Lrounds.kp T.b_Lrounds .nil passL (pa_cons (pv 4) (pa_cons pe_bl pa_nil))))
      (pss_cons (ps_set (i := 8) sc_law.nd rfl (Or.inl rfl) (pe_call G_Lpieces (hr.mono (by decide)) rfl T.m_Lpieces T.F_Lpieces.kp T.b_Lpieces .nil passL (pa_cons (pv 4) pa_nil)))
      (pss_cons (ps_set (i := 9) sc_law.nd rfl (Or.inl rfl) (pe_meth0 (pv 5) T.cl_Mesh T.me_Meshcounts G_Meshcounts (hr.mono (by decide)) T.b_Meshcounts .nil passL))
      (pss_cons (ps_if (PW.pt (pw_or (pt_not (pt_val (pe_callB call_isi (by rfl) T.n_isinstance (by decide +kernel) (pa_cons (pv 9) (pa_cons (pe_bltn (v := .ty "tuple") rfl T.n_tuple (by decide +kernel) rfl) pa_nil))))) (pw_or (pt_cmpR op_ne (pe_callB call_len_seq (by rfl) T.n_len PySem.boot_len (pa_cons (pv 9) pa_nil)) pe_int (nomark _)) (pw_or1 (pt_cmpR op_ne (pe_prop (E := E0) (pv 5) T.cl_Mesh T.pr_edges G_Meshedges (hr.mono (by decide)) T.b_Meshedges .nil passL rfl) (pv 2) (nomark _)))))) (pss_one (ps_ret pe_bl)) pss_nil)
      (pss_cons (ps_if (PW.pt (pw_or (pt_cmpR (op_neD hr.units) (pe_slice sl_tup (pv 9) po_none (po_some pe_int)) (pe_tup (pa_cons (pe_callB call_len_seq (by rfl) T.n_len PySem.boot_len (pa_cons (pv 6) pa_nil)) (pa_cons (pe_callB call_len_seq (by rfl) T.n_len PySem.boot_len (pa_cons (pv 7) pa_nil)) (pa_cons (pv 2) (pa_cons (pe_callB call_len_seq (by rfl) T.n_len PySem.boot_len (pa_cons (pv 8) pa_nil)) pa_nil))))) (nomark _)) (pw_or1 (pt_cmpR op_lt (pe_ix ix_tup (pv 9) pe_int (fun _ _ => rfl)) pe_int (nomark _))))) (pss_one (ps_ret pe_bl)) pss_nil)
      (pss_cons (ps_if (pt_cmpR op_ne (pe_op op_add (pe_op op_sub (pe_callB call_len_seq (by rfl) T.n_len PySem.boot_len (pa_cons (pv 7) pa_nil)) (pv 2)) (pe_callB call_len_seq (by rfl) T.n_len PySem.boot_len (pa_cons (pv 6) pa_nil))) (pe_op op_sub (pe_op op_mul pe_int (pe_callB call_len_seq (by rfl) T.n_len PySem.boot_len (pa_cons (pv 8) pa_nil))) (pe_op op_mul pe_int (pe_ix ix_tup (pv 9) pe_int (fun _ _ => rfl)))) (nomark _)) (pss_one (ps_ret pe_bl)) pss_nil)
      (pss_cons (ps_set (i := 10) sc_law.nd rfl (Or.inl rfl) (pe_meth0 (pv 5) T.cl_Mesh T.me_Meshpieces G_Meshpieces (hr.mono (by decide)) T.b_Meshpieces .nil passL))
      (pss_cons (ps_if (PW.pt (pw_or (pt_not (pt_val (pe_callB call_isi (by rfl) T.n_isinstance (by decide +kernel) (pa_cons (pv 10) (pa_cons (pe_bltn (v := .ty "list") rfl T.n_list (by decide +kernel) rfl) pa_nil))))) (pw_or1 (pt_cmpR (op_neD hr.units) (pv 10) (pv 8) (nomark _))))) (pss_one (ps_ret pe_bl)) pss_nil)
      (pss_cons (ps_for PassesOwn.never rfl (pi_list (pv 10)) (pg_name (i := 11) sc_law.nd rfl (Or.inl rfl)) (pss_one (ps_expr (pe_bm PySem.F.plainAttrs_list PySem.F.slot_list_append PySem.F.type_list_append mt_append (pv 11) (pa_cons pe_int pa_nil)))))
      (pss_cons (ps_if (pt_cmpR (op_neD hr.units) (pe_meth0 (pv 5) T.cl_Mesh T.me_Meshpieces G_Meshpieces (hr.mono (by decide)) T.b_Meshpieces .nil passL) (pv 8) (nomark _)) (pss_one (ps_ret pe_bl)) pss_nil)
      (pss_one (ps_ret (pe_or (pe_cmpR op_eq (pv 2) pe_int (nomark _)) (pe_one (pe_call G_Lpairs (hr.mono (by decide)) rfl T.m_Lpairs T.F_Lpairs.kp T.b_Lpairs .nil passL (pa_cons (pv 5) (pa_cons (pv 6) (pa_cons (pv 7) (pa_cons (pe_call G_Ltape (hr.mono (by decide)) rfl T.m_Ltape T.F_Ltape.kp T.b_Ltape .nil passL (pa_cons (pv 0) (pa_cons pe_int pa_nil))) pa_nil))))))))))))))))))))))))))
theorem law_ok {P : Program} {w : World} {K : PySem.W.Frag} {h : Heap} {mg : Str → Option Value} {f : Addr} (X : K.In h) (G : h.Ns mainGlobals mg) (hP : PF P) (hf : mg ("law" : Str) = some (.ref f)) (c : SaysP fa fn fx cl pg fileS K) :
    ∃ fd : FuncData, (∀ (s : Shared) (v : Value), BindsTo s fd ⟨[v], []⟩ [("_law_script", v)]) ∧ ∀ base : Heap, K.In base → base.Ns mainGlobals mg → FnOk P w K mg base CX0 6 f fd ["_law_script"] (sp_law K) := by
  obtain ⟨T⟩ := tx_of hP X G c
  have e : f = He.ga K "law" := by
    have q := hf.symm.trans (He.glo_ok X G (c.s.d.fact 47 (f := .glo "law") rfl))
    cases q
    rfl
  subst e
  have b := FunD.bindsA (ps := ["_law_script"]) T.F_law fun _ _ _ _ _ _ us hl => match us, hl with | [_], _ => rfl
  exact ⟨T.fd_law, fun s v => b s [v] rfl, fun base _ _ => ok_law T⟩
end K12
open PySem PySem.W PySem.Calls PyProof.Rows
set_option maxRecDepth 100000 in
set_option maxHeartbeats 0 in
theorem PySem.Challenge.cw_halfmeshes_k12_counts_and_pieces_holds : PySem.Challenge.rw_halfmeshes_k12_counts_and_pieces.Holds := by
  w_on; o_law
  refine HandSHeadRun.head_any (r := OpenLaw.row PySem.Challenge.rw_halfmeshes_k12_counts_and_pieces) (q := view (OpenLaw.row PySem.Challenge.rw_halfmeshes_k12_counts_and_pieces).prog [24]) (H := K12.hk) (ob := K12.ob) (M := 9000) (loose := K12.lse) (d := HandSHeadRun.topDef (OpenLaw.row PySem.Challenge.rw_halfmeshes_k12_counts_and_pieces).prog 24) (kwd := []) K12.ob_hk
    (by kernel_rfl) (fun s => by kernel_rfl) K12.top_run (by kernel_rfl) (by kernel_rfl) (by kernel_rfl) (by rfl) (by first | assumption | decide +kernel) (by decide +kernel) ⟨rfl, rfl, rfl, rfl, rfl, by decide +kernel⟩ ?witness ?theCall
  case witness => w_witness2
  case theCall =>
    refine L2.walk_ofE (l := PySem.Challenge.rw_halfmeshes_k12_counts_and_pieces) (n := 63) (k := 6) (x := "_law_script") (CX := L2.CX0) rfl (by decide) (by kernel_rfl) ⟨rfl, by decide, by decide⟩ ?promise (fun _ _ _ _ z => z)
    intro w mg ad hp says G named
    obtain ⟨K, inK, facts⟩ := says
    have named2 : mg ("law" : PySem.Str) = some (.ref ad) := by
      have e : (HandSHeadRun.topDef (OpenLaw.row PySem.Challenge.rw_halfmeshes_k12_counts_and_pieces).prog 24).name = ("law" : PySem.Str) := by kernel_rfl
      exact e ▸ named
    obtain ⟨fd, binds, keeps⟩ := K12.law_ok (P := (PySem.Challenge.rw_halfmeshes_k12_counts_and_pieces).prog) (w := w) inK G ⟨rfl, by decide +kernel⟩ named2 facts
    exact ⟨K, fd, K12.sp_law K, inK, binds, fun H a zs hl _ hS => ⟨a, zs, rfl, hS, fun _ => rfl⟩, keeps⟩
#print axioms PySem.Challenge.cw_halfmeshes_k12_counts_and_pieces_holds
