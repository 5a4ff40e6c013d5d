import PyProof.Rows.All
import Wide.All
import OpenK.AllK
import Wide.FinOn
import KE.KStateDown
import HandS.ForMost
import HandS.More
import HandS.WordsExc
import HandS.Defaults
import HandS.IsInst
import HandS.Sort
import HandS.SortInts
import HandS.Conv
import HandS.Evl
import HandS.HeadHook1
import HandS.HeadHook2
import HandS.Walk
import HandS.Head0
import HandS.Head1
import HandS.Head2
import HandS.HeadEnd
import PySem.Challenge.RW_halfmeshes_k11_links_and_rounds
set_option Elab.async false
set_option linter.all false
set_option maxRecDepth 100000
set_option maxHeartbeats 0
/-! Mathematics of permutations of the numbers below N, their rounds. Own work of the verifier. -/
namespace Hm

/-- f maps the numbers below N to such, different ones to different ones -/
structure Pf (f : Nat → Nat) (N : Nat) : Prop where
  lt : ∀ x, x < N → f x < N
  inj : ∀ x y, x < N → y < N → f x = f y → x = y

def itr (f : Nat → Nat) : Nat → Nat → Nat
  | 0, x => x
  | k + 1, x => f (itr f k x)

theorem itr_succ' (f : Nat → Nat) (k x : Nat) : itr f (k + 1) x = itr f k (f x) := by
  induction k with
  | zero => rfl
  | succ k ih => show f (itr f (k + 1) x) = f (itr f k (f x)); rw [ih]
theorem itr_add (f : Nat → Nat) (a b x : Nat) : itr f (a + b) x = itr f a (itr f b x) := by
  induction a with
  | zero => rw [Nat.zero_add]; rfl
  | succ a ih => rw [Nat.succ_add]; show f (itr f (a + b) x) = f (itr f a (itr f b x)); rw [ih]
theorem itr_lt {f : Nat → Nat} {N : Nat} (P : Pf f N) {x : Nat} (h : x < N) (k : Nat) : itr f k x < N := by
  induction k with
  | zero => exact h
  | succ k ih => exact P.lt _ ih
theorem itr_inj {f : Nat → Nat} {N : Nat} (P : Pf f N) {x y : Nat} (hx : x < N) (hy : y < N) (k : Nat) (e : itr f k x = itr f k y) : x = y := by
  induction k with
  | zero => exact e
  | succ k ih => exact ih (P.inj _ _ (itr_lt P hx k) (itr_lt P hy k) e)

/-- a list without repetition of numbers below N is not longer than N -/
theorem nodup_le : ∀ (N : Nat) (l : List Nat), l.Nodup → (∀ x ∈ l, x < N) → l.length ≤ N
  | 0, l, _, h => by
    cases l with
    | nil => exact Nat.le_refl _
    | cons a r => exact absurd (h a (List.mem_cons_self ..)) (Nat.not_lt_zero _)
  | N + 1, l, hn, h => by
    have h1 := nodup_le N (l.erase N) (hn.erase N) (fun x hx => by
      have h2 := h x (List.mem_of_mem_erase hx)
      have h3 : x ≠ N := fun e => by
        subst e
        exact (hn.not_mem_erase) hx
      omega)
    have h4 : l.length ≤ (l.erase N).length + 1 := by
      rw [List.length_erase]
      split <;> omega
    omega

theorem itr_back {f : Nat → Nat} {N : Nat} (P : Pf f N) {x : Nat} (hx : x < N) {i j : Nat} (hij : i < j) (e : itr f i x = itr f j x) : itr f (j - i) x = x := by
  have h : j = i + (j - i) := by omega
  rw [h, itr_add] at e
  exact (itr_inj P hx (itr_lt P hx _) i e).symm

theorem ret_ex {f : Nat → Nat} {N : Nat} (P : Pf f N) {x : Nat} (hx : x < N) : ∃ k, k < N ∧ itr f (k + 1) x = x := by
  refine Classical.byContradiction fun hno => ?_
  have hno' : ∀ k, k < N → itr f (k + 1) x ≠ x := fun k hk e => hno ⟨k, hk, e⟩
  have hnd : ((List.range (N + 1)).map fun k => itr f k x).Nodup := by
    rw [List.nodup_iff_pairwise_ne, List.pairwise_map]
    refine List.Pairwise.imp_of_mem ?_ List.pairwise_lt_range
    intro a b ha hb hab e
    have hb' := List.mem_range.mp hb
    have e2 := itr_back P hx hab e
    have e3 : b - a = (b - a - 1) + 1 := by omega
    rw [e3] at e2
    exact hno' _ (by omega) e2
  have := nodup_le N _ hnd (fun y hy => by
    obtain ⟨k, _, rfl⟩ := List.mem_map.mp hy
    exact itr_lt P hx k)
  rw [List.length_map, List.length_range] at this
  omega

/-- the number of steps after which x is met again -/
def per (f : Nat → Nat) (N x : Nat) : Nat := ((List.range N).find? fun k => itr f (k + 1) x == x).getD 0 + 1
theorem per_pos (f : Nat → Nat) (N x : Nat) : 0 < per f N x := Nat.succ_pos _
theorem per_spec {f : Nat → Nat} {N : Nat} (P : Pf f N) {x : Nat} (hx : x < N) : itr f (per f N x) x = x ∧ per f N x ≤ N ∧ ∀ k, 0 < k → k < per f N x → itr f k x ≠ x := by
  unfold per
  cases e : (List.range N).find? (fun k => itr f (k + 1) x == x) with
  | none =>
    obtain ⟨k, hk, e2⟩ := ret_ex P hx
    have := List.find?_eq_none.mp e k (List.mem_range.mpr hk)
    rw [e2] at this
    exact absurd (beq_self_eq_true x) this
  | some k =>
    have h1 := List.find?_range_eq_some.mp e
    obtain ⟨h1, h2, h3⟩ := h1
    have h2 := List.mem_range.mp h2
    refine ⟨eq_of_beq h1, h2, fun j hj hjk e2 => ?_⟩
    have hjk : j < k + 1 := hjk
    have := h3 (j - 1) (by omega)
    rw [show j - 1 + 1 = j by omega, e2] at this
    simp at this

/-- the round of x: x, f x, .. -/
def rnd (f : Nat → Nat) (N x : Nat) : List Nat := (List.range (per f N x)).map fun k => itr f k x
theorem mem_rnd {f : Nat → Nat} {N : Nat} (P : Pf f N) {x : Nat} (hx : x < N) {y : Nat} : y ∈ rnd f N x ↔ ∃ k, itr f k x = y := by
  obtain ⟨s1, s2, s3⟩ := per_spec P hx
  constructor
  · intro h
    obtain ⟨k, _, e⟩ := List.mem_map.mp h
    exact ⟨k, e⟩
  · rintro ⟨k, rfl⟩
    have key : ∀ n k, k ≤ n → itr f k x ∈ rnd f N x := by
      intro n
      induction n with
      | zero =>
        intro k hk
        have : k = 0 := by omega
        subst this
        exact List.mem_map.mpr ⟨0, List.mem_range.mpr (per_pos _ _ _), rfl⟩
      | succ n ih =>
        intro k hk
        by_cases h : k < per f N x
        · exact List.mem_map.mpr ⟨k, List.mem_range.mpr h, rfl⟩
        · have e : itr f k x = itr f (k - per f N x) x := by
            have e2 : k = (k - per f N x) + per f N x := by omega
            rw [e2, itr_add, s1, ← e2]
          rw [e]
          have := per_pos f N x
          exact ih _ (by omega)
    exact key k k (Nat.le_refl _)
theorem rnd_lt {f : Nat → Nat} {N : Nat} (P : Pf f N) {x : Nat} (hx : x < N) {y : Nat} (h : y ∈ rnd f N x) : y < N := by
  obtain ⟨k, rfl⟩ := (mem_rnd P hx).mp h
  exact itr_lt P hx k
theorem rnd_symm {f : Nat → Nat} {N : Nat} (P : Pf f N) {x y : Nat} (hx : x < N) (h : y ∈ rnd f N x) : x ∈ rnd f N y := by
  have hy := rnd_lt P hx h
  obtain ⟨k, hk, rfl⟩ := List.mem_map.mp h
  have hk := List.mem_range.mp hk
  refine (mem_rnd P hy).mpr ⟨per f N x - k, ?_⟩
  rw [← itr_add, show per f N x - k + k = per f N x by omega]
  exact (per_spec P hx).1
theorem rnd_trans {f : Nat → Nat} {N : Nat} (P : Pf f N) {x y z : Nat} (hx : x < N) (h : y ∈ rnd f N x) (h2 : z ∈ rnd f N y) : z ∈ rnd f N x := by
  have hy := rnd_lt P hx h
  obtain ⟨k, rfl⟩ := (mem_rnd P hx).mp h
  obtain ⟨j, rfl⟩ := (mem_rnd P hy).mp h2
  exact (mem_rnd P hx).mpr ⟨j + k, itr_add f j k x⟩
theorem rnd_self {f : Nat → Nat} {N : Nat} (P : Pf f N) {x : Nat} (hx : x < N) : x ∈ rnd f N x := (mem_rnd P hx).mpr ⟨0, rfl⟩
theorem rnd_step {f : Nat → Nat} {N : Nat} (P : Pf f N) {x y : Nat} (hx : x < N) (h : y ∈ rnd f N x) : f y ∈ rnd f N x := by
  obtain ⟨k, rfl⟩ := (mem_rnd P hx).mp h
  exact (mem_rnd P hx).mpr ⟨k + 1, rfl⟩
theorem rnd_length (f : Nat → Nat) (N x : Nat) : (rnd f N x).length = per f N x := by
  unfold rnd; rw [List.length_map, List.length_range]
theorem rnd_take_nodup {f : Nat → Nat} {N : Nat} (P : Pf f N) {x : Nat} (hx : x < N) {k : Nat} (hk : k < per f N x) : itr f k x ∉ (List.range k).map fun j => itr f j x := by
  intro h
  obtain ⟨j, hj, e⟩ := List.mem_map.mp h
  have hj := List.mem_range.mp hj
  have e2 := itr_back P hx hj e
  exact (per_spec P hx).2.2 (k - j) (by omega) (by omega) e2
theorem rnd_nodup {f : Nat → Nat} {N : Nat} (P : Pf f N) {x : Nat} (hx : x < N) : (rnd f N x).Nodup := by
  unfold rnd
  rw [List.nodup_iff_pairwise_ne, List.pairwise_map]
  refine List.Pairwise.imp_of_mem ?_ List.pairwise_lt_range
  intro a b ha hb hab e
  have hb' := List.mem_range.mp hb
  have e2 := itr_back P hx hab e
  exact (per_spec P hx).2.2 (b - a) (by omega) (by omega) e2

/-- x is the least of its round -/
def isMin (f : Nat → Nat) (N x : Nat) : Bool := (rnd f N x).all fun y => decide (x ≤ y)
theorem isMin_iff {f : Nat → Nat} {N x : Nat} : isMin f N x = true ↔ ∀ y ∈ rnd f N x, x ≤ y := by
  unfold isMin
  rw [List.all_eq_true]
  exact ⟨fun h y hy => of_decide_eq_true (h y hy), fun h y hy => decide_eq_true (h y hy)⟩
/-- all rounds, by their least members, of the numbers below n -/
def cycs (f : Nat → Nat) (N n : Nat) : List (List Nat) := ((List.range n).filter (isMin f N)).map (rnd f N)
theorem cycs_yes {f : Nat → Nat} {N n : Nat} (h : isMin f N n = true) : cycs f N (n + 1) = cycs f N n ++ [rnd f N n] := by
  unfold cycs
  rw [List.range_succ, List.filter_append, List.map_append, List.filter_cons, if_pos h]
  rfl
theorem cycs_no {f : Nat → Nat} {N n : Nat} (h : ¬ isMin f N n = true) : cycs f N (n + 1) = cycs f N n := by
  unfold cycs
  rw [List.range_succ, List.filter_append, List.map_append, List.filter_cons, if_neg h]
  show _ ++ [] = _
  rw [List.append_nil]
theorem cycs_len (f : Nat → Nat) (N n : Nat) : (cycs f N n).length ≤ n := by
  unfold cycs
  rw [List.length_map]
  have := List.length_filter_le (isMin f N) (List.range n)
  rw [List.length_range] at this
  exact this
/-- y lies in the round of a number below n -/
def Sn (f : Nat → Nat) (N n y : Nat) : Prop := ∃ s, s < n ∧ s < N ∧ y ∈ rnd f N s
theorem sn_iff_notMin {f : Nat → Nat} {N : Nat} (P : Pf f N) {n : Nat} (hn : n < N) : Sn f N n n ↔ ¬ isMin f N n = true := by
  constructor
  · rintro ⟨s, h1, h2, h3⟩ h
    have := isMin_iff.mp h s (rnd_symm P h2 h3)
    omega
  · intro h
    rw [isMin_iff] at h
    refine Classical.byContradiction fun hno => h fun y hy => ?_
    refine Nat.le_of_not_lt fun hlt => hno ⟨y, hlt, rnd_lt P hn hy, rnd_symm P hn hy⟩
theorem sn_back {f : Nat → Nat} {N : Nat} (P : Pf f N) {n y : Nat} (hy : y < N) (h : Sn f N n (f y)) : Sn f N n y := by
  obtain ⟨s, h1, h2, h3⟩ := h
  refine ⟨s, h1, h2, rnd_trans P h2 h3 (rnd_symm P hy ?_)⟩
  exact (mem_rnd P hy).mpr ⟨1, rfl⟩
theorem sn_itr {f : Nat → Nat} {N : Nat} (P : Pf f N) {n x : Nat} (hx : x < N) (h : ¬ Sn f N n x) (k : Nat) : ¬ Sn f N n (itr f k x) := by
  induction k with
  | zero => exact h
  | succ k ih => exact fun q => ih (sn_back P (itr_lt P hx k) q)
theorem sn_succ {f : Nat → Nat} {N n y : Nat} (hn : n < N) : Sn f N (n + 1) y ↔ Sn f N n y ∨ y ∈ rnd f N n := by
  constructor
  · rintro ⟨s, h1, h2, h3⟩
    by_cases e : s = n
    · subst e; exact .inr h3
    · exact .inl ⟨s, by omega, h2, h3⟩
  · rintro (⟨s, h1, h2, h3⟩ | h)
    · exact ⟨s, by omega, h2, h3⟩
    · exact ⟨n, by omega, hn, h⟩

/-! ### lists as maps -/
/-- a list of the numbers below its length, each once -/
structure IsP (ns : List Nat) : Prop where
  perm : ns.Perm (List.range ns.length)
theorem IsP.nodup {ns : List Nat} (h : IsP ns) : ns.Nodup := h.perm.symm.nodup List.nodup_range
theorem IsP.mem {ns : List Nat} (h : IsP ns) {x : Nat} : x ∈ ns ↔ x < ns.length := by
  rw [h.perm.mem_iff, List.mem_range]
def fn (ns : List Nat) (x : Nat) : Nat := ns.getD x 0
theorem fn_get {ns : List Nat} {x : Nat} (h : x < ns.length) : ns[x]? = some (fn ns x) := by
  unfold fn
  rw [List.getD_eq_getElem?_getD, List.getElem?_eq_getElem h]
  rfl
theorem fn_at {ns : List Nat} {x y : Nat} (h : ns[x]? = some y) : fn ns x = y := by
  unfold fn
  rw [List.getD_eq_getElem?_getD, h]
  rfl
theorem fn_mem {ns : List Nat} {x : Nat} (h : x < ns.length) : fn ns x ∈ ns := List.mem_of_getElem? (fn_get h)
theorem pf_fn {ns : List Nat} (h : IsP ns) : Pf (fn ns) ns.length where
  lt := fun x hx => h.mem.mp (fn_mem hx)
  inj := fun x y hx hy e => by
    have h1 := fn_get hx
    have h2 := fn_get hy
    rw [e] at h1
    have hn := h.nodup
    obtain ⟨a1, b1⟩ := List.getElem?_eq_some_iff.mp h1
    obtain ⟨a2, b2⟩ := List.getElem?_eq_some_iff.mp h2
    exact (List.getElem_inj hn).mp (b1.trans b2.symm)
/-- the number whose next is x -/
def bk (ns : List Nat) (x : Nat) : Nat := ns.idxOf x
theorem bk_lt {ns : List Nat} (h : IsP ns) {x : Nat} (hx : x < ns.length) : bk ns x < ns.length := List.idxOf_lt_length_iff.mpr (h.mem.mpr hx)
theorem fn_bk {ns : List Nat} (h : IsP ns) {x : Nat} (hx : x < ns.length) : fn ns (bk ns x) = x := by
  have h1 := fn_get (bk_lt h hx)
  have h2 : ns[bk ns x]'(bk_lt h hx) = x := List.getElem_idxOf (bk_lt h hx)
  rw [List.getElem?_eq_getElem (bk_lt h hx), h2] at h1
  exact (Option.some.inj h1).symm
theorem bk_fn {ns : List Nat} (h : IsP ns) {x : Nat} (hx : x < ns.length) : bk ns (fn ns x) = x :=
  (pf_fn h).inj _ _ (bk_lt h ((pf_fn h).lt x hx)) hx (fn_bk h ((pf_fn h).lt x hx))
def tw (x : Nat) : Nat := if x % 2 = 0 then x + 1 else x - 1
theorem tw_tw (x : Nat) : tw (tw x) = x := by unfold tw; split <;> split <;> omega
theorem tw_lt {x N : Nat} (hN : N % 2 = 0) (h : x < N) : tw x < N := by unfold tw; split <;> omega
theorem tw_inj {x y : Nat} (h : tw x = tw y) : x = y := by rw [← tw_tw x, h, tw_tw]
def prevs (ns : List Nat) : List Nat := (List.range ns.length).map (bk ns)
def turns (ns : List Nat) : List Nat := (prevs ns).map tw
theorem prevs_len (ns : List Nat) : (prevs ns).length = ns.length := by unfold prevs; rw [List.length_map, List.length_range]
theorem turns_len (ns : List Nat) : (turns ns).length = ns.length := by unfold turns; rw [List.length_map, prevs_len]
theorem fn_prevs {ns : List Nat} {x : Nat} (h : x < ns.length) : fn (prevs ns) x = bk ns x := by
  apply fn_at
  unfold prevs
  rw [List.getElem?_map, List.getElem?_range h]
  rfl
theorem fn_turns {ns : List Nat} {x : Nat} (h : x < ns.length) : fn (turns ns) x = tw (bk ns x) := by
  apply fn_at
  unfold turns
  rw [List.getElem?_map, fn_get (by rw [prevs_len]; exact h), fn_prevs h]
  rfl
/-- from a map to its list -/
theorem isP_of {f : Nat → Nat} {N : Nat} (P : Pf f N) : IsP ((List.range N).map f) where
  perm := by
    rw [List.length_map, List.length_range]
    have hnd : ((List.range N).map f).Nodup := by
      rw [List.nodup_iff_pairwise_ne, List.pairwise_map]
      refine List.Pairwise.imp_of_mem ?_ List.pairwise_lt_range
      intro a b ha hb hab e
      have := P.inj _ _ (List.mem_range.mp ha) (List.mem_range.mp hb) e
      omega
    refine (List.perm_ext_iff_of_nodup hnd List.nodup_range).mpr fun x => ?_
    constructor
    · intro h
      obtain ⟨y, hy, rfl⟩ := List.mem_map.mp h
      exact List.mem_range.mpr (P.lt _ (List.mem_range.mp hy))
    · intro h
      have hx := List.mem_range.mp h
      have P' := P
      refine List.mem_map.mpr ⟨itr f (per f N x - 1) x, List.mem_range.mpr (itr_lt P hx _), ?_⟩
      have e := (per_spec P hx).1
      have hp := per_pos f N x
      rw [show per f N x = (per f N x - 1) + 1 by omega] at e
      exact e
theorem isP_prevs {ns : List Nat} (h : IsP ns) : IsP (prevs ns) := isP_of ⟨fun x hx => bk_lt h hx, fun x y hx hy e => by
  rw [← fn_bk h hx, e, fn_bk h hy]⟩
theorem pf_turn {ns : List Nat} (h : IsP ns) (hN : ns.length % 2 = 0) : Pf (fun x => tw (bk ns x)) ns.length where
  lt := fun x hx => tw_lt hN (bk_lt h hx)
  inj := fun x y hx hy e => by
    have e := tw_inj e
    rw [← fn_bk h hx, e, fn_bk h hy]
theorem isP_turns {ns : List Nat} (h : IsP ns) (hN : ns.length % 2 = 0) : IsP (turns ns) := by
  have e : turns ns = (List.range ns.length).map (fun x => tw (bk ns x)) := by
    unfold turns prevs
    rw [List.map_map]
    rfl
  rw [e]
  exact isP_of (pf_turn h hN)
end Hm
namespace Hm
open PySem PySem.Spec PyProof.Rows L2 Evl
/-! ### short names of what operators ask -/
abbrev iI (g : Int → Int → Int) : R2 := rI0 fun i j => .int (g i j)
abbrev iB (g : Int → Int → Bool) : R2 := rI0 fun i j => .bl (g i j)
abbrev zAdd : R2 := iI fun i j => i + j
abbrev zSub : R2 := iI fun i j => i - j
abbrev zMul : R2 := rI CMul fun i j => .int (i * j)
abbrev zDiv : R2 := rI CDivN fun i j => .int (i.fdiv j)
abbrev zMod : R2 := rI (fun _ j => j ≠ 0) fun i j => .int (i.fmod j)
abbrev zPow : R2 := rI CPow fun i j => .int (i ^ j.toNat)
abbrev zXor : R2 := iI fun i j => Builtin.bitXor i j
abbrev zLt : R2 := iB fun i j => decide (i < j)
abbrev zLe : R2 := iB fun i j => decide (i ≤ j)
abbrev zGt : R2 := iB fun i j => decide (j < i)
abbrev zGe : R2 := iB fun i j => decide (j ≤ i)
abbrev zNeg : V → Hp → VK → Prop := rU fun i => .int (-i)
abbrev CR1 := List V → Hp → VK → Prop
abbrev cInt : CR1 := fun vs H K => (∃ i : Int, vs = [V.int i] ∧ K (V.int i) H) ∨ (∃ b : Bool, vs = [V.bl b] ∧ K (V.int (if b then 1 else 0)) H)
abbrev cAbs : CR1 := fun vs H K => ∃ i : Int, vs = [V.int i] ∧ K (V.int (if i < 0 then -i else i)) H
abbrev cLen (F : PySem.W.Frag) : CR1 := fun vs H K => ∃ (p : Addr) (ys : List V), vs = [V.ref p] ∧ (SqL F H p ys ∨ SqT F H p ys) ∧ K (V.int ys.length) H
abbrev cList (F : PySem.W.Frag) : CR1 := fun vs H K => ∃ (p : Addr) (ys : List V), vs = [V.ref p] ∧ (SqL F H p ys ∨ SqT F H p ys) ∧ ∀ l, H l = none → K (V.ref l) (upd H l (.lst ys))
/-- what the written part says of the class Mesh -/
structure KF (K : PySem.W.Frag) : Prop where
  cl : Cls K (He.ga K "Mesh")
  n1 : NoAttr K (He.ga K "Mesh") "_nexts"
  n2 : NoAttr K (He.ga K "Mesh") "_prevs"
  n3 : NoAttr K (He.ga K "Mesh") "_turns"
end Hm
namespace Hm
open PySem PySem.Spec PyProof.Rows L2 Evl
/-! ### lists of numbers as values and as data -/
abbrev vi (n : Nat) : V := .int (n : Int)
def L (ns : List Nat) : List V := ns.map vi
theorem L_len (ns : List Nat) : (L ns).length = ns.length := by unfold L; rw [List.length_map]
theorem L_get {ns : List Nat} {i : Nat} (h : i < ns.length) : (L ns)[i]? = some (vi (fn ns i)) := by
  unfold L
  rw [List.getElem?_map, fn_get h]
  rfl
theorem L_at {ns : List Nat} {i : Nat} (h : i < ns.length) : atI (L ns) ((i : Nat) : Int) = some (vi (fn ns i)) := atI_nat (L_get h)
theorem L_app (a b : List Nat) : L (a ++ b) = L a ++ L b := by unfold L; rw [List.map_append]
theorem L_int (ns : List Nat) : L ns = (ns.map fun n : Nat => (n : Int)).map V.int := by unfold L; rw [List.map_map]; rfl
theorem L_item {ns : List Nat} {i : Nat} {v : V} (h : (L ns)[i]? = some v) : i < ns.length ∧ v = vi (fn ns i) := by
  have h1 : i < ns.length := by
    have := (List.getElem?_eq_some_iff.mp h).1
    rwa [L_len] at this
  rw [L_get h1] at h
  exact ⟨h1, (Option.some.inj h).symm⟩
def dN (ns : List Nat) : PyData := .list (ns.map fun n : Nat => PyData.int (n : Int))
def dNN (xss : List (List Nat)) : PyData := .list (xss.map dN)
theorem dpAll_L {K : PySem.W.Frag} {H : Hp} : ∀ ns : List Nat, DpAll K H (L ns) (ns.map fun n : Nat => PyData.int (n : Int))
  | [] => .nil
  | n :: r => .cons (.int _) (dpAll_L r)
theorem dp_L {K : PySem.W.Frag} {H : Hp} {p : Addr} {ns : List Nat} (h : SqL K H p (L ns)) : Dp K H (.ref p) (dN ns) := Dp.lst h (dpAll_L ns)
theorem lay_ints : ∀ ns : List Nat, PyData.canLayAll0 (ns.map fun n : Nat => PyData.int (n : Int)) = true ∧ PyData.depthAll (ns.map fun n : Nat => PyData.int (n : Int)) = 0
  | [] => ⟨by simp [PyData.canLayAll0], by simp [PyData.depthAll]⟩
  | n :: r => by
    obtain ⟨h1, h2⟩ := lay_ints r
    exact ⟨by simp [PyData.canLayAll0, PyData.canLay0, h1], by simp [PyData.depthAll, PyData.depth, h2]⟩
theorem lay_dN (ns : List Nat) : PyData.canLay0 (dN ns) = true ∧ PyData.depth (dN ns) = 1 := by
  obtain ⟨h1, h2⟩ := lay_ints ns
  unfold dN
  exact ⟨by simp [PyData.canLay0, h1], by simp [PyData.depth, h2]⟩
theorem lay_dNs : ∀ xss : List (List Nat), PyData.canLayAll0 (xss.map dN) = true ∧ PyData.depthAll (xss.map dN) ≤ 1
  | [] => ⟨by simp [PyData.canLayAll0], by simp [PyData.depthAll]⟩
  | n :: r => by
    obtain ⟨h1, h2⟩ := lay_dNs r
    obtain ⟨h3, h4⟩ := lay_dN n
    exact ⟨by simp [PyData.canLayAll0, h1, h3], by simp [PyData.depthAll, h4]; omega⟩
theorem shaped_dN (ns : List Nat) : SeqAt.shaped (dN ns) = true := by
  obtain ⟨h3, h4⟩ := lay_dN ns
  unfold SeqAt.shaped
  rw [h3, h4]
  rfl
theorem shaped_dNN (xss : List (List Nat)) : SeqAt.shaped (dNN xss) = true := by
  obtain ⟨h3, h4⟩ := lay_dNs xss
  unfold SeqAt.shaped dNN
  have e1 : PyData.canLay0 (.list (xss.map dN)) = true := by simp [PyData.canLay0, h3]
  have e2 : PyData.depth (.list (xss.map dN)) ≤ 64 := by simp [PyData.depth]; omega
  rw [e1, decide_eq_true e2]
  rfl
theorem eqv_ints : ∀ ns ms : List Nat, PyData.eqvAll (ns.map fun n : Nat => PyData.int (n : Int)) (ms.map fun n : Nat => PyData.int (n : Int)) = decide (ns = ms)
  | [], [] => by simp [PyData.eqvAll]
  | [], _ :: _ => by simp [PyData.eqvAll]
  | _ :: _, [] => by simp [PyData.eqvAll]
  | n :: r, m :: s => by
    have h := eqv_ints r s
    simp only [List.map_cons, PyData.eqvAll, PyData.eqv, h]
    by_cases e : n = m
    · subst e
      simp
    · have e2 : ((n : Int) == (m : Int)) = false := by
        rw [beq_eq_false_iff_ne]
        omega
      rw [e2]
      simp [e]
theorem eqv_dN (ns ms : List Nat) : PyData.eqv (dN ns) (dN ms) = decide (ns = ms) := by
  unfold dN
  simp only [PyData.eqv]
  exact eqv_ints ns ms
theorem eqv_dNs : ∀ xss yss : List (List Nat), PyData.eqvAll (xss.map dN) (yss.map dN) = decide (xss = yss)
  | [], [] => by simp [PyData.eqvAll]
  | [], _ :: _ => by simp [PyData.eqvAll]
  | _ :: _, [] => by simp [PyData.eqvAll]
  | n :: r, m :: s => by
    have h := eqv_dNs r s
    simp only [List.map_cons, PyData.eqvAll, eqv_dN, h]
    by_cases e : n = m <;> simp [e]
theorem eqv_dNN (xss yss : List (List Nat)) : PyData.eqv (dNN xss) (dNN yss) = decide (xss = yss) := by
  unfold dNN
  simp only [PyData.eqv]
  exact eqv_dNs xss yss
/-! ### new lists of lists -/
theorem paired_imp {α β : Type} {R R' : α → β → Prop} : ∀ {as : List α} {xs : List β}, Paired R as xs → (∀ a x, a ∈ as → R a x → R' a x) → Paired R' as xs
  | _, _, .nil, _ => .nil
  | _, _, .cons r t, f => .cons (f _ _ (List.mem_cons_self ..) r) (paired_imp t fun a x m => f a x (List.mem_cons_of_mem _ m))
theorem paired_snoc {α β : Type} {R : α → β → Prop} : ∀ {as : List α} {xs : List β} {a : α} {x : β}, Paired R as xs → R a x → Paired R (as ++ [a]) (xs ++ [x])
  | _, _, _, _, .nil, h => .cons h .nil
  | _, _, _, _, .cons r t, h => .cons r (paired_snoc t h)
abbrev LA (H : Hp) (as : List Addr) (xss : List (List Nat)) : Prop := Paired (fun a xs => H a = some (.lst (L xs))) as xss
def LL (H : Hp) (p : Addr) (xss : List (List Nat)) : Prop := ∃ as : List Addr, H p = some (.lst (as.map V.ref)) ∧ LA H as xss
def LLn (H0 H : Hp) (p : Addr) (xss : List (List Nat)) : Prop := ∃ as : List Addr, H p = some (.lst (as.map V.ref)) ∧ LA H as xss ∧ ∀ a ∈ as, H0 a = none ∧ a ≠ p
theorem LLn.ll {H0 H : Hp} {p : Addr} {xss : List (List Nat)} (h : LLn H0 H p xss) : LL H p xss := by
  obtain ⟨as, h1, h2, _⟩ := h
  exact ⟨as, h1, h2⟩
theorem LA.ex {H H' : Hp} {as : List Addr} {xss : List (List Nat)} (h : LA H as xss) (e : Ex H H') : LA H' as xss := paired_imp h fun a x _ q => e a _ q
theorem LA.upd {H : Hp} {as : List Addr} {xss : List (List Nat)} {p : Addr} {o : HO} (h : LA H as xss) (e : ∀ a ∈ as, a ≠ p) : LA (upd H p o) as xss := paired_imp h fun a x m q => by
  rw [upd_ne (e a m)]
  exact q
theorem LL.ex {H H' : Hp} {p : Addr} {xss : List (List Nat)} (h : LL H p xss) (e : Ex H H') : LL H' p xss := by
  obtain ⟨as, h1, h2⟩ := h
  exact ⟨as, e _ _ h1, LA.ex h2 e⟩
theorem dpAll_LA {K : PySem.W.Frag} {H : Hp} : ∀ {as : List Addr} {xss : List (List Nat)}, LA H as xss → DpAll K H (as.map V.ref) (xss.map dN)
  | _, _, .nil => .nil
  | _, _, .cons r t => .cons (dp_L (sq_of r)) (dpAll_LA t)
theorem dp_LL {K : PySem.W.Frag} {H : Hp} {p : Addr} {xss : List (List Nat)} (h : LL H p xss) : Dp K H (.ref p) (dNN xss) := by
  obtain ⟨as, h1, h2⟩ := h
  exact Dp.lst (sq_of h1) (dpAll_LA h2)
theorem LA.fresh {H : Hp} {as : List Addr} {xss : List (List Nat)} {p : Addr} (h : LA H as xss) (hp : H p = none) : ∀ a ∈ as, a ≠ p := by
  intro a ha
  have key : ∀ {as : List Addr} {xss : List (List Nat)}, LA H as xss → ∀ a ∈ as, ∃ xs, H a = some (.lst (L xs)) := by
    intro as xss h
    induction h with
    | nil => intro a ha; cases ha
    | cons r t ih =>
      intro a ha
      rcases List.mem_cons.mp ha with rfl | ha
      · exact ⟨_, r⟩
      · exact ih a ha
  obtain ⟨xs, q⟩ := key h a ha
  exact ne_of_none q hp
/-! ### further evaluations -/
section
variable {K : PySem.W.Frag} {σ : L2.St} {H H' : Hp} {ta tb te tx : TE} {t u : TT} {x y z v : V} {r : R2}
theorem et_yes : EvT tYes σ H true := fun H1 _ _ q => q H1 (Ex.refl H1)
theorem ev_cbN {r : CR1} {xs : List V} (h : EvL te σ H xs) (hr : ∀ p H1, H1 p = some (.lst xs) → Ex H H1 → RC r [.ref p] H1 z) : Ev (tCB r (tCons te tNil)) σ H z := fun H1 e Q q =>
  h H1 e _ fun p H2 _ e2 hp => hr p H2 hp (e.trans e2) H2 (Ex.refl H2) Q fun H3 e3 => q H3 (e2.trans e3)
theorem rc_isi {b : Bool} {x c : V} {t u : Value} (hc : ClsV c u) (ht : ∀ H1, Ex H H1 → TyX K H1 x t) (hk : PySem.W.kitOne K t u = some b) : RC (rIsi K) [x, c] H (.bl b) := fun H1 e Q q =>
  ⟨x, c, t, u, b, rfl, hc, ht H1 e, hk, q H1 (Ex.refl H1)⟩
theorem rc_int {i : Int} : RC cInt [.int i] H (.int i) := fun H1 _ _ q => Or.inl ⟨i, rfl, q H1 (Ex.refl H1)⟩
theorem rc_abs {i : Int} : RC cAbs [.int i] H (.int (if i < 0 then -i else i)) := fun H1 _ _ q => ⟨i, rfl, q H1 (Ex.refl H1)⟩
theorem rc_len {p : Addr} {xs : List V} (h : SqL K H p xs) : RC (cLen K) [.ref p] H (.int (xs.length : Int)) := fun H1 e _ q => ⟨p, xs, rfl, Or.inl (ex_l e h), q H1 (Ex.refl H1)⟩
theorem rcl_list {p : Addr} {xs : List V} (h : SqL K H p xs) : RCL (cList K) [.ref p] H xs := fun H1 e _ q => ⟨p, xs, rfl, Or.inl (ex_l e h), fun l hl => q l _ hl (Ex.new hl) upd_same⟩
theorem rc_all {p : Addr} {bs : List Bool} (h : SqL K H p (bs.map V.bl)) : RC (rAll K) [.ref p] H (.bl (bs.all id)) := fun H1 e _ q => ⟨p, bs, rfl, ex_l e h, q H1 (Ex.refl H1)⟩
theorem rc_min {p : Addr} {ns : List Int} {m : Int} (h : SqL K H p (ns.map V.int)) (hn : 0 < ns.length) (hm : ∀ m', m' ∈ ns → (∀ y, y ∈ ns → m' ≤ y) → m' = m) : RC (rMin K) [.ref p] H (.int m) := fun H1 e _ q => ⟨p, ns, rfl, ex_l e h, hn, fun m' a b => by
  rw [hm m' a b]
  exact q H1 (Ex.refl H1)⟩
theorem ea_1 (h : Ev ta σ H x) : EvA (tCons ta tNil) σ H [x] := ea_cons h ea_nil
theorem ea_2 (h : Ev ta σ H x) (h2 : Ev tb σ H y) : EvA (tCons ta (tCons tb tNil)) σ H [x, y] := ea_cons h (ea_cons h2 ea_nil)
theorem rv_eqD {d e : PyData} (hx : Dp K H x d) (hy : Dp K H y e) (h1 : SeqAt.shaped d = true) (h2 : SeqAt.shaped e = true) (mx : ∀ H1, Ex H H1 → Dp K H x d → Dp K H1 x d) (my : ∀ H1, Ex H H1 → Dp K H y e → Dp K H1 y e) : RV (rEqD K) x y H (.bl (PyData.eqv d e)) := fun H1 ex _ q =>
  ⟨d, e, mx H1 ex hx, my H1 ex hy, h1, h2, q H1 (Ex.refl H1)⟩
mutual
theorem dp_ex {H H1 : Hp} (e : Ex H H1) : ∀ {v : V} {d : PyData}, Dp K H v d → Dp K H1 v d
  | _, _, .non => .non
  | _, _, .bl b => .bl b
  | _, _, .int i => .int i
  | _, _, .str x => .str x
  | _, _, .lst h a => .lst (ex_l e h) (dpAll_ex e a)
  | _, _, .tup h a => .tup (ex_t e h) (dpAll_ex e a)
theorem dpAll_ex {H H1 : Hp} (e : Ex H H1) : ∀ {v : List V} {d : List PyData}, DpAll K H v d → DpAll K H1 v d
  | _, _, .nil => .nil
  | _, _, .cons h a => .cons (dp_ex e h) (dpAll_ex e a)
end
theorem rv_eqD' {d e : PyData} (hx : Dp K H x d) (hy : Dp K H y e) (h1 : SeqAt.shaped d = true) (h2 : SeqAt.shaped e = true) : RV (rEqD K) x y H (.bl (PyData.eqv d e)) := fun H1 ex _ q =>
  ⟨d, e, dp_ex ex hx, dp_ex ex hy, h1, h2, q H1 (Ex.refl H1)⟩
theorem rv_neD' {d e : PyData} (hx : Dp K H x d) (hy : Dp K H y e) (h1 : SeqAt.shaped d = true) (h2 : SeqAt.shaped e = true) : RV (rNeD K) x y H (.bl (!PyData.eqv d e)) := fun H1 ex _ q =>
  ⟨d, e, dp_ex ex hx, dp_ex ex hy, h1, h2, q H1 (Ex.refl H1)⟩
theorem rv_eqN {a b : Addr} {ns ms : List Nat} (h1 : SqL K H a (L ns)) (h2 : SqL K H b (L ms)) : RV (rEqD K) (.ref a) (.ref b) H (.bl (decide (ns = ms))) := by
  rw [← eqv_dN]
  exact rv_eqD' (dp_L h1) (dp_L h2) (shaped_dN _) (shaped_dN _)
theorem rv_neN {a b : Addr} {ns ms : List Nat} (h1 : SqL K H a (L ns)) (h2 : SqL K H b (L ms)) : RV (rNeD K) (.ref a) (.ref b) H (.bl (!decide (ns = ms))) := by
  rw [← eqv_dN]
  exact rv_neD' (dp_L h1) (dp_L h2) (shaped_dN _) (shaped_dN _)
theorem rv_eqNN {a b : Addr} {ns ms : List (List Nat)} (h1 : LL H a ns) (h2 : LL H b ms) : RV (rEqD K) (.ref a) (.ref b) H (.bl (decide (ns = ms))) := by
  rw [← eqv_dNN]
  exact rv_eqD' (dp_LL h1) (dp_LL h2) (shaped_dNN _) (shaped_dNN _)
theorem rv_neNN {a b : Addr} {ns ms : List (List Nat)} (h1 : LL H a ns) (h2 : LL H b ms) : RV (rNeD K) (.ref a) (.ref b) H (.bl (!decide (ns = ms))) := by
  rw [← eqv_dNN]
  exact rv_neD' (dp_LL h1) (dp_LL h2) (shaped_dNN _) (shaped_dNN _)
theorem ev_fld {a C dx : Addr} {fs : List (Str × V)} {f : Str} (h : Ev ta σ H (.ref a)) (ho : H a = some (.ins C dx fs)) (hc : Cls K C) (hn : NoAttr K C f) (hl : fs.lookup f = some v) : Ev (tFld K ta f) σ H v := fun H1 e Q q =>
  h H1 e _ fun H2 e2 => ⟨a, C, dx, fs, v, rfl, e2 _ _ (e _ _ ho), hc, hn, hl, q H2 e2⟩
/-- a call of a method that gives a value, a new list -/
theorem ev_meth {a C dx : Addr} {fs : List (Str × V)} {m : Str} {sp : Sp} {ta : TE} {tb : TA} {vs : List V} {E : XK} (h : Ev ta σ H (.ref a)) (ho : H a = some (.ins C dx fs)) (hl : fs.lookup m = none) (ha : EvA tb σ H vs) (hs : SpV sp (.ref a :: vs) H v) : Ev (tMeth C m sp [] E ta tb) σ H v := fun H1 e Q q =>
  h H1 e _ fun H2 e2 => ⟨a, dx, fs, rfl, e2 _ _ (e _ _ ho), hl, ha H2 (e.trans e2) _ fun H3 e3 => by
    have e4 := (e.trans e2).trans e3
    have q2 := hs H3 e4 Q (fun H4 e5 => q H4 ((e2.trans e3).trans e5)) E
    simpa using q2⟩
theorem el_meth {a C dx : Addr} {fs : List (Str × V)} {m : Str} {sp : Sp} {ta : TE} {tb : TA} {vs xs : List V} {E : XK} (h : Ev ta σ H (.ref a)) (ho : H a = some (.ins C dx fs)) (hl : fs.lookup m = none) (ha : EvA tb σ H vs) (hs : SpL sp (.ref a :: vs) H xs) : EvL (tMeth C m sp [] E ta tb) σ H xs := fun H1 e Q q =>
  h H1 e _ fun H2 e2 => ⟨a, dx, fs, rfl, e2 _ _ (e _ _ ho), hl, ha H2 (e.trans e2) _ fun H3 e3 => by
    have e4 := (e.trans e2).trans e3
    have q2 := hs H3 e4 Q (fun p H4 hp e5 h5 => q p H4 (fresh_back (e2.trans e3) hp) ((e2.trans e3).trans e5) h5) E
    simpa using q2⟩
end
/-- all but the object at t is kept -/
def ExO (t : Addr) (H H' : Hp) : Prop := ∀ a o, a ≠ t → H a = some o → H' a = some o
theorem ExO.of {t : Addr} {H H' : Hp} (e : Ex H H') : ExO t H H' := fun a o _ h => e a o h
theorem ExO.refl {t : Addr} {H : Hp} : ExO t H H := fun _ _ _ h => h
theorem ExO.trans {t : Addr} {H H1 H2 : Hp} (a : ExO t H H1) (b : ExO t H1 H2) : ExO t H H2 := fun x o n h => b x o n (a x o n h)
theorem ExO.upd {t : Addr} {H H' : Hp} {o : HO} (a : ExO t H H') : ExO t H (upd H' t o) := fun x o n h => by
  rw [upd_ne n]
  exact a x o n h
theorem ExO.mut {t p : Addr} {H H' : Hp} {o : HO} (a : ExO t H H') (h : H p = none) : ExO t H (L2.upd H' p o) := fun x u n hx => by
  rw [upd_ne (ne_of_none hx h)]
  exact a x u n hx
theorem ExO.mono {t : Addr} {H H' : Hp} (a : ExO t H H') (h : H t = none) : Ex H H' := fun x o hx => a x o (ne_of_none hx h) hx
theorem ExO.sq {K : PySem.W.Frag} {t : Addr} {H H' : Hp} {p : Addr} {xs : List V} (e : ExO t H H') (n : p ≠ t) (h : SqL K H p xs) : SqL K H' p xs := by
  rcases h with h | h
  · rcases h with h | ⟨o, h⟩
    · exact Or.inl (Or.inl (e p _ n h))
    · exact Or.inl (Or.inr ⟨o, e p _ n h⟩)
  · exact Or.inr h
/-- a tape: two numbers, the second one below 2147483647 -/
def Tp (o : Option HO) : Prop := ∃ x y : Int, o = some (.lst [.int x, .int y]) ∧ 0 ≤ x ∧ 0 ≤ y ∧ y < 2147483647
end Hm
namespace Hm
open PySem PySem.Spec PyProof.Rows L2 Evl
/-! ### the law's draws -/
def sp_Lpick (K : PySem.W.Frag) : Sp := fun vs H Q _ => ∃ (t : Addr) (m : Int), vs = [.ref t, .int m] ∧ Tp (H t) ∧ 1 ≤ m ∧ m ≤ 1000000 ∧
  ∀ (d : Int) H', 0 ≤ d → d < m → Tp (H' t) → ExO t H H' → Q (.int d) H'
abbrev nm_Lpick : List Str := ["_law_tape_here", "_law_many", "_law_digit", "_law_mixed"]
abbrev pr_Lpick : List Str := ["_law_tape_here", "_law_many"]
def t_Lpick (K : PySem.W.Frag) : TS :=
  (tSeq (tIfS (tTest (tOp zGe (tOp (rIxL K) (tVar 0) (tC (.int 0))) (tOp zPow (tC (.int 10)) (tC (.int 18))))) (tSeq (tAsg (tOp zMod (tCB cInt (tCons (tOp (rIxL K) (tVar 0) (tC (.int 0))) tNil)) (tVar 1)) (gName 2))
      (tSeq (tAsg (tOp zDiv (tOp (rIxL K) (tVar 0) (tC (.int 0))) (tVar 1)) (gSub (tVar 0) (tC (.int 0)) rSetL))
      (tRet (tVar 2)))) tNext)
  (tSeq (tAsg (tOp zMod (tCB cInt (tCons (tOp zAdd (tOp zAdd (tOp zMul (tOp (rIxL K) (tVar 0) (tC (.int 1))) (tC (.int 48271))) (tOp zMul (tOp (rIxL K) (tVar 0) (tC (.int 0))) (tC (.int 69621)))) (tC (.int 11))) tNil)) (tC (.int 2147483647))) (gSub (tVar 0) (tC (.int 1)) rSetL))
  (tSeq (tAsg (tOp zMod (tCB cInt (tCons (tOp zAdd (tOp zAdd (tOp zMul (tOp (rIxL K) (tVar 0) (tC (.int 1))) (tOp (rIxL K) (tVar 0) (tC (.int 1)))) (tOp zMul (tOp (rIxL K) (tVar 0) (tC (.int 1))) (tC (.int 40692)))) (tC (.int 7))) tNil)) (tC (.int 2147483399))) (gName 3))
  (tRet (tOp zMod (tCB cInt (tCons (tOp zDiv (tVar 3) (tC (.int 64))) tNil)) (tVar 1))))))
abbrev Wt_Lpick (K : PySem.W.Frag) (vs : List V) (H : Hp) (Q : VK) : Prop := t_Lpick K { nx := fun _ H' => Q .non H', rt := Q } (start nm_Lpick vs) H
theorem ln_Lpick {K : PySem.W.Frag} (vs : List V) (H : Hp) (Q : VK) (E : XK) (h : sp_Lpick K vs H Q E) : vs.length = pr_Lpick.length := by
  obtain ⟨_, _, rfl, _⟩ := h
  rfl
theorem ev_ix0 {K : PySem.W.Frag} {σ : L2.St} {H : Hp} {t : Addr} {x y : Int} {i : Nat} (hs : σ[i]? = some (some (.ref t))) (h : H t = some (.lst [.int x, .int y])) : Ev (tOp (rIxL K) (tVar i) (tC (.int 0))) σ H (.int x) :=
  ev_op (ev_var hs) ev_c (rv_ixL (sq_of h) rfl)
theorem ev_ix1 {K : PySem.W.Frag} {σ : L2.St} {H : Hp} {t : Addr} {x y : Int} {i : Nat} (hs : σ[i]? = some (some (.ref t))) (h : H t = some (.lst [.int x, .int y])) : Ev (tOp (rIxL K) (tVar i) (tC (.int 1))) σ H (.int y) :=
  ev_op (ev_var hs) ev_c (rv_ixL (sq_of h) rfl)
theorem fmod_pos {a b : Int} (h : 0 < b) : 0 ≤ a.fmod b ∧ a.fmod b < b := ⟨Int.fmod_nonneg_of_pos a h, Int.fmod_lt_of_pos a h⟩
theorem fdiv_nn {a b : Int} (ha : 0 ≤ a) (hb : 0 < b) : 0 ≤ a.fdiv b := Int.fdiv_nonneg ha (Int.le_of_lt hb)
theorem rd_Lpick {K : PySem.W.Frag} (F : KF K) (vs : List V) (H : Hp) (Q : VK) (E : XK) (h : sp_Lpick K vs H Q E) : Wt_Lpick K vs H Q := by
  obtain ⟨t, m, rfl, ⟨x, y, ht, hx, hy, hy2⟩, hm, hm2, k⟩ := h
  show t_Lpick K _ [some (.ref t), some (.int m), none, none] H
  have hm0 : m ≠ 0 := by omega
  refine q_when (b := decide ((10 : Int) ^ (18 : Int).toNat ≤ x)) (et_test (ev_op (ev_ix0 rfl ht) (ev_op ev_c ev_c (rv_I ⟨by decide, by decide, by decide⟩)) rv_I0)) (fun hb H1 e1 => ?_) (fun hb H1 e1 => ?_)
  · have ht1 := e1 _ _ ht
    refine q_asg (ev_op (ev_cb (ea_1 (ev_ix0 rfl ht1)) rc_int) (ev_var rfl) (rv_I hm0)) (fun H2 e2 => ?_)
    have ht2 := e2 _ _ ht1
    refine q_setL (j := 0) ht2 (ev_op (ev_ix0 rfl ht2) (ev_var rfl) (rv_I ⟨hm0, by omega⟩)) (ev_var rfl) ev_c (by show 0 < 2; decide) (fun H3 e3 => ?_)
    refine s_ret (ev_var rfl) (fun H4 e4 => ?_)
    obtain ⟨d1, d2⟩ := fmod_pos (a := x) (b := m) (by omega)
    refine k _ _ d1 d2 ⟨_, _, e4 _ _ upd_same, fdiv_nn hx (by omega), hy, hy2⟩ ?_
    exact ((ExO.of (e1.trans (e2.trans e3))).upd).trans (ExO.of e4)
  · have hb := of_decide_eq_false hb
    have hx2 : x < 1000000000000000000 := by
      have : (10 : Int) ^ (18 : Int).toNat = 1000000000000000000 := by decide
      omega
    have ht1 := e1 _ _ ht
    refine q_setL (j := 1) ht1 (ev_op (ev_cb (ea_1 (ev_op (ev_op (ev_op (ev_ix1 rfl ht1) ev_c (rv_I (Or.inr ⟨by decide, by decide⟩))) (ev_op (ev_ix0 rfl ht1) ev_c (rv_I (Or.inr ⟨by decide, by decide⟩))) rv_I0) ev_c rv_I0)) rc_int) ev_c (rv_I (by decide))) (ev_var rfl) ev_c (by show 1 < 2; decide) (fun H2 e2 => ?_)
    obtain ⟨z1, z2⟩ := fmod_pos (a := y * 48271 + x * 69621 + 11) (b := 2147483647) (by decide)
    have ht2 : (upd H2 t (.lst ([V.int x, V.int y].set 1 (V.int ((y * 48271 + x * 69621 + 11).fmod 2147483647))))) t = some (.lst [.int x, .int ((y * 48271 + x * 69621 + 11).fmod 2147483647)]) := upd_same
    have hz : ∀ z : Int, z = (y * 48271 + x * 69621 + 11).fmod 2147483647 → 0 ≤ z ∧ z < 2147483647 := fun z e => by rw [e]; exact ⟨z1, z2⟩
    revert ht2
    generalize (y * 48271 + x * 69621 + 11).fmod 2147483647 = z at *
    intro ht2
    have hz := hz z rfl
    refine q_asg (ev_op (ev_cb (ea_1 (ev_op (ev_op (ev_op (ev_ix1 rfl ht2) (ev_ix1 rfl ht2) (rv_I (Or.inr ⟨by omega, by omega⟩))) (ev_op (ev_ix1 rfl ht2) ev_c (rv_I (Or.inr ⟨by decide, by decide⟩))) rv_I0) ev_c rv_I0)) rc_int) ev_c (rv_I (by decide))) (fun H3 e3 => ?_)
    refine s_ret (ev_op (ev_cb (ea_1 (ev_op (ev_var rfl) ev_c (rv_I ⟨by decide, by decide⟩))) rc_int) (ev_var rfl) (rv_I hm0)) (fun H4 e4 => ?_)
    obtain ⟨d1, d2⟩ := fmod_pos (a := ((z * z + z * 40692 + 7).fmod 2147483399).fdiv 64) (b := m) (by omega)
    refine k _ _ d1 d2 ⟨x, z, e4 _ _ (e3 _ _ ht2), hx, hz.1, hz.2⟩ ?_
    exact ((ExO.of (e1.trans e2)).upd).trans (ExO.of (e3.trans e4))
def sp_Ltape (K : PySem.W.Frag) : Sp := fun vs H Q _ => ∃ (a : Addr) (zs : List Int) (k : Int), vs = [.ref a, .int k] ∧ SqL K H a (zs.map V.int) ∧ 0 ≤ k ∧ k ≤ 100 ∧
  ∀ p H', H p = none → Tp (H' p) → Ex H H' → Q (.ref p) H'
abbrev nm_Ltape : List Str := ["_law_script", "_law_k", "_law_cell"]
abbrev pr_Ltape : List Str := ["_law_script", "_law_k"]
def t_Ltape (K : PySem.W.Frag) : TS :=
  (tSeq (tAsg (tC (.int 0)) (gName 2))
  (tSeq (tIfS (tTest (tOp (rNeD K) (tVar 0) (tLst tNil))) (tAsg (tOp (rIxL K) (tVar 0) (tOp zMod (tCB cInt (tCons (tVar 1) tNil)) (tCB (cLen K) (tCons (tVar 0) tNil)))) (gName 2)) tNext)
  (tRet (tLst (tCons (tCB cAbs (tCons (tVar 2) tNil)) (tCons (tOp zAdd (tOp zMul (tC (.int 7919)) (tVar 1)) (tC (.int 104729))) tNil))))))
abbrev Wt_Ltape (K : PySem.W.Frag) (vs : List V) (H : Hp) (Q : VK) : Prop := t_Ltape K { nx := fun _ H' => Q .non H', rt := Q } (start nm_Ltape vs) H
theorem ln_Ltape {K : PySem.W.Frag} (vs : List V) (H : Hp) (Q : VK) (E : XK) (h : sp_Ltape K vs H Q E) : vs.length = pr_Ltape.length := by
  obtain ⟨_, _, _, rfl, _⟩ := h
  rfl
theorem dpAll_ints {K : PySem.W.Frag} {H : Hp} : ∀ zs : List Int, DpAll K H (zs.map V.int) (zs.map PyData.int)
  | [] => .nil
  | z :: r => .cons (.int z) (dpAll_ints r)
theorem shaped_ints (zs : List Int) : SeqAt.shaped (.list (zs.map PyData.int)) = true := by
  have h : ∀ zs : List Int, PyData.canLayAll0 (zs.map PyData.int) = true ∧ PyData.depthAll (zs.map PyData.int) = 0 := by
    intro zs
    induction zs with
    | nil => exact ⟨by simp [PyData.canLayAll0], by simp [PyData.depthAll]⟩
    | cons n r ih => exact ⟨by simp [PyData.canLayAll0, PyData.canLay0, ih.1], by simp [PyData.depthAll, PyData.depth, ih.2]⟩
  obtain ⟨h1, h2⟩ := h zs
  have e1 : PyData.canLay0 (.list (zs.map PyData.int)) = true := by simp [PyData.canLay0, h1]
  have e2 : PyData.depth (.list (zs.map PyData.int)) ≤ 64 := by simp [PyData.depth, h2]
  unfold SeqAt.shaped
  rw [e1, decide_eq_true e2]
  rfl
theorem eqv_nil (zs : List Int) : PyData.eqv (.list (zs.map PyData.int)) (.list []) = zs.isEmpty := by
  cases zs <;> simp [PyData.eqv, PyData.eqvAll]
theorem rd_Ltape {K : PySem.W.Frag} (F : KF K) (vs : List V) (H : Hp) (Q : VK) (E : XK) (h : sp_Ltape K vs H Q E) : Wt_Ltape K vs H Q := by
  obtain ⟨a, zs, k, rfl, hS, k0, k1, q⟩ := h
  show t_Ltape K _ [some (.ref a), some (.int k), none] H
  refine q_asg ev_c (fun H1 e1 => ?_)
  have hS1 := ex_l e1 hS
  have fin : ∀ (c : Int) (H2 : Hp), Ex H H2 → tRet (tLst (tCons (tCB cAbs (tCons (tVar 2) tNil)) (tCons (tOp zAdd (tOp zMul (tC (.int 7919)) (tVar 1)) (tC (.int 104729))) tNil))) { nx := fun _ H' => Q .non H', rt := Q } [some (.ref a), some (.int k), some (.int c)] H2 := by
    intro c H2 e2
    refine s_retL (el_lst (ea_2 (ev_cb (ea_1 (ev_var rfl)) rc_abs) (ev_op (ev_op ev_c (ev_var rfl) (rv_I (Or.inl ⟨by decide, by decide⟩))) ev_c rv_I0)) (by show 2 ≤ 100000; decide)) (fun p H3 hp e3 h3 => ?_)
    refine q p H3 (fresh_back e2 hp) ⟨_, _, h3, ?_, by dsimp only; omega, by dsimp only; omega⟩ (e2.trans e3)
    split <;> omega
  refine q_when (b := !zs.isEmpty) (et_test (ev_opL (xs := []) (ev_var rfl) (el_lst ea_nil (Nat.zero_le _)) (fun p H2 hp e2 => ?_))) (fun hb H2 e2 => ?_) (fun hb H2 e2 => ?_)
  · rw [← eqv_nil]
    exact rv_neD' (Dp.lst (ex_l e2 hS1) (dpAll_ints zs)) (Dp.lst (sq_of hp) .nil) (shaped_ints zs) (by decide)
  · have hS2 := ex_l e2 hS1
    have hl : 0 < zs.length := by
      cases zs with
      | nil => cases hb
      | cons z r => exact Nat.succ_pos _
    have hl2 : (zs.map V.int).length = zs.length := List.length_map ..
    obtain ⟨m1, m2⟩ := fmod_pos (a := k) (b := ((zs.map V.int).length : Int)) (by omega)
    have hj : (k.fmod ((zs.map V.int).length : Int)).toNat < zs.length := by omega
    have hat : atI (zs.map V.int) (k.fmod ((zs.map V.int).length : Int)) = some (.int (zs[(k.fmod ((zs.map V.int).length : Int)).toNat]'hj)) := by
      refine at_of (j := (k.fmod ((zs.map V.int).length : Int)).toNat) (by omega) ?_
      rw [List.getElem?_map, List.getElem?_eq_getElem hj]
      rfl
    refine s_asg (ev_op (ev_var rfl) (ev_op (ev_cb (ea_1 (ev_var rfl)) rc_int) (ev_cb (ea_1 (ev_var rfl)) (rc_len hS2)) (rv_I (by omega))) (rv_ixL hS2 hat)) (fun H3 e3 => ?_)
    exact fin _ H3 (e1.trans (e2.trans e3))
  · exact fin 0 H2 (e1.trans e2)
end Hm
namespace Hm
open PySem PySem.Spec PyProof.Rows L2 Evl
section
variable {K : PySem.W.Frag} {σ : L2.St} {H : Hp} {ta tb te : TE} {D : Ends} {tz : TS}
theorem q_asgC {sp : Sp} {E : XK} {ta : TA} {vs : List V} {i : Nat} (h : EvA ta σ H vs) (k : ∀ H1, Ex H H1 → sp vs H1 (fun v H2 => tz D (σ.set i (some v)) H2) E) : tSeq (tAsg (tCall sp [] E ta) (gName i)) tz D σ H :=
  h H (Ex.refl H) _ fun H1 e => by
    show sp (vs ++ []) H1 _ E
    rw [List.append_nil]
    exact k H1 e
theorem s_asgC {sp : Sp} {E : XK} {ta : TA} {vs : List V} {i : Nat} (h : EvA ta σ H vs) (k : ∀ H1, Ex H H1 → sp vs H1 (fun v H2 => D.nx (σ.set i (some v)) H2) E) : tAsg (tCall sp [] E ta) (gName i) D σ H :=
  h H (Ex.refl H) _ fun H1 e => by
    show sp (vs ++ []) H1 _ E
    rw [List.append_nil]
    exact k H1 e
theorem s_retC {sp : Sp} {E : XK} {ta : TA} {vs : List V} (h : EvA ta σ H vs) (k : ∀ H1, Ex H H1 → sp vs H1 D.rt E) : tRet (tCall sp [] E ta) D σ H :=
  h H (Ex.refl H) _ fun H1 e => by
    show sp (vs ++ []) H1 _ E
    rw [List.append_nil]
    exact k H1 e
theorem el_cat {xs ys : List V} (ha : EvL ta σ H xs) (hb : EvL tb σ H ys) (hz : xs.length + ys.length ≤ 100000) : EvL (tOp rCat ta tb) σ H (xs ++ ys) := fun H1 e Q q =>
  ha H1 e _ fun p H2 _ e2 h2 => hb H2 (e.trans e2) _ fun p' H3 _ e3 h3 => ⟨p, p', xs, ys, rfl, rfl, e3 _ _ h2, h3, sz_of hz, fun r hr => q r _ (fresh_back (e2.trans e3) hr) ((e2.trans e3).trans (Ex.new hr)) upd_same⟩
end
theorem given_all (n : Nat) (v : Nat → V) : given n (fun _ => true) v = (List.range n).map v := by
  show ((List.range n).filter fun _ => true).map v = _
  rw [List.filter_eq_self.mpr fun _ _ => rfl]
theorem cut_to {xs : List V} {j : Nat} (h : j ≤ xs.length) : cutV xs none (some (j : Int)) = xs.take j := by
  unfold cutV
  rw [HT.sIx_none, HT.sIx_nat, Nat.min_eq_left h]
  rfl
theorem cut_from {xs : List V} {j : Nat} (h : j ≤ xs.length) : cutV xs (some (j : Int)) none = xs.drop j := by
  unfold cutV
  rw [HT.sIx_none, HT.sIx_nat, Nat.min_eq_left h]
  rw [List.take_of_length_le (by rw [List.length_drop]; exact Nat.le_refl _)]
theorem L_take (ns : List Nat) (j : Nat) : (L ns).take j = L (ns.take j) := by unfold L; rw [List.map_take]
theorem L_drop (ns : List Nat) (j : Nat) : (L ns).drop j = L (ns.drop j) := by unfold L; rw [List.map_drop]
theorem perm_out {l : List Nat} {j : Nat} (h : j < l.length) : (fn l j :: (l.take j ++ l.drop (j + 1))).Perm l := by
  have e : l = l.take j ++ fn l j :: l.drop (j + 1) := by
    have h2 : l.drop j = fn l j :: l.drop (j + 1) := by
      rw [List.drop_eq_getElem_cons h]
      have h3 := fn_get h
      rw [List.getElem?_eq_getElem h] at h3
      rw [Option.some.inj h3]
    rw [← h2, List.take_append_drop]
  have h4 : (l.take j ++ fn l j :: l.drop (j + 1)).Perm (fn l j :: (l.take j ++ l.drop (j + 1))) := List.perm_middle
  rw [← e] at h4
  exact h4.symm

def sp_Lnexts (K : PySem.W.Frag) : Sp := fun vs H Q _ => ∃ (t : Addr) (e : Nat), vs = [.ref t, .int (e : Int)] ∧ Tp (H t) ∧ e ≤ 60 ∧
  ∀ p H' ns, H p = none → H' p = some (.lst (L ns)) → IsP ns → ns.length = 2 * e → Tp (H' t) → ExO t H H' → Q (.ref p) H'
abbrev nm_Lnexts : List Str := ["_law_tape_here", "_law_edges", "_law_k", "_law_left", "_law_nexts_here", "_law_at"]
abbrev pr_Lnexts : List Str := ["_law_tape_here", "_law_edges"]
def t_Lnexts (K : PySem.W.Frag) : TS :=
  (tSeq (tAsg (tLc (iRng1 (tCons (tOp zMul (tC (.int 2)) (tVar 1)) tNil)) (gName 2) tYes (tVar 2) [2]) (gName 3))
  (tSeq (tAsg (tLst tNil) (gName 4))
  (tSeq (tFor (iRng1 (tCons (tOp zMul (tC (.int 2)) (tVar 1)) tNil)) (gName 2) (tSeq (tAsg (tCall (sp_Lpick K) [] E0 (tCons (tVar 0) (tCons (tCB (cLen K) (tCons (tVar 3) tNil)) tNil))) (gName 5))
      (tSeq (tDrop (tBM K "list" rAppend (tVar 4) (tCons (tOp (rIxL K) (tVar 3) (tVar 5)) tNil)))
      (tAsg (tOp rCat (tSl (rSlL K) (tVar 3) tNoPart (tPart (tVar 5))) (tSl (rSlL K) (tVar 3) (tPart (tOp zAdd (tVar 5) (tC (.int 1)))) tNoPart)) (gName 3)))))
  (tRet (tVar 4)))))
abbrev Wt_Lnexts (K : PySem.W.Frag) (vs : List V) (H : Hp) (Q : VK) : Prop := t_Lnexts K { nx := fun _ H' => Q .non H', rt := Q } (start nm_Lnexts vs) H
theorem ln_Lnexts {K : PySem.W.Frag} (vs : List V) (H : Hp) (Q : VK) (E : XK) (h : sp_Lnexts K vs H Q E) : vs.length = pr_Lnexts.length := by
  obtain ⟨_, _, rfl, _⟩ := h
  rfl
theorem tp_ne {H : Hp} {t p : Addr} (h : Tp (H t)) (hp : H p = none) : p ≠ t := by
  obtain ⟨_, _, h, _⟩ := h
  exact (ne_of_none h hp).symm
theorem tp_ex {H H' : Hp} {t : Addr} (h : Tp (H t)) (e : Ex H H') : Tp (H' t) := by
  obtain ⟨x, y, h, r⟩ := h
  exact ⟨x, y, e _ _ h, r⟩
theorem rd_Lnexts {K : PySem.W.Frag} (F : KF K) (vs : List V) (H : Hp) (Q : VK) (E : XK) (h : sp_Lnexts K vs H Q E) : Wt_Lnexts K vs H Q := by
  obtain ⟨t, e, rfl, ht, he, k⟩ := h
  show t_Lnexts K _ [some (.ref t), some (.int (e : Int)), none, none, none, none] H
  have hn : ∀ σ H1, σ[1]? = some (some (V.int (e : Int))) → EvA (tCons (tOp zMul (tC (.int 2)) (tVar 1)) tNil) σ H1 [.int (2 * (e : Int))] := fun σ H1 hs => ea_1 (ev_op ev_c (ev_var hs) (rv_I (Or.inl ⟨by decide, by decide⟩)))
  have h2 : ((2 * (e : Int)).toNat) = 2 * e := by omega
  refine q_asgL (xs := L (List.range (2 * e))) ?_ (fun pl H1 hpl e1 h1 => ?_)
  · have := el_lcR1 (σ := [some (.ref t), some (.int (e : Int)), none, none, none, none]) (H := H) (j := 2) (vs := [2]) (t := tYes) (te := tVar 2) (fun _ => true) (fun i => vi i) (hn _ H rfl) (by omega) (fun _ => rfl) (fun i H1 _ _ => et_yes) (fun i H1 _ _ _ => ev_var rfl)
    rw [given_all, h2] at this
    exact this
  refine q_asgL (el_lst ea_nil (Nat.zero_le _)) (fun pn H2 hpn e2 hp2 => ?_)
  have hpn0 : H pn = none := fresh_back e1 hpn
  have hpt : pn ≠ t := tp_ne ht hpn0
  refine q_forR1 (hn _ _ rfl) (by omega) (fun i σ' H' => ∃ (left done : List Nat) (pl : Addr) (v2 v5 : Option V), σ' = [some (.ref t), some (.int (e : Int)), v2, some (.ref pl), some (.ref pn), v5] ∧
      H' pl = some (.lst (L left)) ∧ H' pn = some (.lst (L done)) ∧ pl ≠ pn ∧ pl ≠ t ∧ Tp (H' t) ∧ ExO t H H' ∧ (done ++ left).Perm (List.range (2 * e)) ∧ done.length = i) ?_ ?_ ?_
  · intro H3 e3
    refine ⟨List.range (2 * e), [], pl, _, _, rfl, e3 _ _ (e2 _ _ h1), e3 _ _ hp2, ne_of_none h1 hpn, tp_ne ht hpl, tp_ex (tp_ex (tp_ex ht e1) e2) e3, ExO.of (e1.trans (e2.trans e3)), ?_, rfl⟩
    exact List.Perm.refl _
  · rintro i σ' H' hi ⟨left, done, pl, v2, v5, rfl, a1, a2, a3, a4, a5, a6, a7, a8⟩
    have hlen : done.length + left.length = 2 * e := by
      have := a7.length_eq
      rw [List.length_append, List.length_range] at this
      exact this
    have hleft : 0 < left.length := by omega
    refine q_asgC (ea_2 (ev_var rfl) (ev_cb (ea_1 (ev_var rfl)) (rc_len (sq_of a1)))) (fun H1 e1 => ?_)
    refine ⟨t, _, rfl, tp_ex a5 e1, by rw [L_len]; omega, by rw [L_len]; omega, fun d H2 d0 d1 t2 x2 => ?_⟩
    have b1 : H2 pl = some (.lst (L left)) := x2 _ _ a4 (e1 _ _ a1)
    have b2 : H2 pn = some (.lst (L done)) := x2 _ _ hpt (e1 _ _ a2)
    rw [L_len] at d1
    obtain ⟨j, rfl⟩ : ∃ j : Nat, d = (j : Int) := ⟨d.toNat, by omega⟩
    have hj : j < left.length := by omega
    have hx2 : ExO t H H2 := a6.trans ((ExO.of e1).trans x2)
    refine q_app b2 (ev_var rfl) (ev_op (ev_var rfl) (ev_var rfl) (rv_ixL (sq_of b1) (L_at hj))) (by rw [L_len]; omega) (fun H3 e3 => ?_)
    have c1 : (upd H3 pn (.lst (L done ++ [vi (fn left j)]))) pl = some (.lst (L left)) := by
      rw [upd_ne a3]
      exact e3 _ _ b1
    have el1 := el_sl (K := K) (te := tVar 3) (tl := tNoPart) (th := tPart (tVar 5)) (σ := [some (.ref t), some (.int (e : Int)), some (vi i), some (.ref pl), some (.ref pn), some (vi j)]) (ev_var rfl) eo_none (eo_some (ev_var rfl)) (sq_of c1)
    have el2 := el_sl (K := K) (te := tVar 3) (tl := tPart (tOp zAdd (tVar 5) (tC (.int 1)))) (th := tNoPart) (σ := [some (.ref t), some (.int (e : Int)), some (vi i), some (.ref pl), some (.ref pn), some (vi j)]) (ev_var rfl) (eo_some (ev_op (ev_var rfl) ev_c rv_I0)) eo_none (sq_of c1)
    have ej : ((j : Int) + 1) = ((j + 1 : Nat) : Int) := by omega
    rw [cut_to (by rw [L_len]; omega), L_take] at el1
    simp only [ej] at el2
    rw [cut_from (by rw [L_len]; omega), L_drop] at el2
    refine s_asgL (el_cat el1 el2 (by rw [L_len, L_len, List.length_take, List.length_drop]; omega)) (fun pq H4 hpq e4 h4 => ?_)
    have hq1 : pq ≠ pn := (ne_of_none upd_same hpq).symm
    have t3 : Tp ((upd H3 pn (.lst (L done ++ [vi (fn left j)]))) t) := by
      rw [upd_ne hpt.symm]
      exact tp_ex t2 e3
    have hq2 : pq ≠ t := tp_ne t3 hpq
    refine ⟨left.take j ++ left.drop (j + 1), done ++ [fn left j], pq, _, _, rfl, by rw [h4, L_app], by rw [e4 _ _ upd_same, L_app]; rfl, hq1, hq2, tp_ex t3 e4, ((hx2.trans (ExO.of e3)).mut hpn0).trans (ExO.of e4), ?_, by rw [List.length_append]; show done.length + 1 = i + 1; omega⟩
    refine List.Perm.trans ?_ a7
    rw [List.append_assoc]
    exact List.Perm.append_left _ (perm_out hj)
  · rintro σ' H' ⟨left, done, pl, v2, v5, rfl, a1, a2, a3, a4, a5, a6, a7, a8⟩
    rw [h2] at a8
    have hlen : done.length + left.length = 2 * e := by
      have := a7.length_eq
      rw [List.length_append, List.length_range] at this
      exact this
    have hl0 : left = [] := List.eq_nil_of_length_eq_zero (by omega)
    subst hl0
    rw [List.append_nil] at a7
    refine s_ret (ev_var rfl) (fun H1 e1 => ?_)
    exact k pn H1 done hpn0 (e1 _ _ a2) ⟨by rw [a8]; exact a7⟩ a8 (tp_ex a5 e1) (a6.trans (ExO.of e1))

def sp_Lsize (K : PySem.W.Frag) : Sp := fun vs H Q _ => ∃ t : Addr, vs = [.ref t] ∧ Tp (H t) ∧ ∀ (e : Nat) H', e ≤ 30 → Tp (H' t) → ExO t H H' → Q (.int (e : Int)) H'
abbrev nm_Lsize : List Str := ["_law_tape_here", "_law_choice"]
abbrev pr_Lsize : List Str := ["_law_tape_here"]
def t_Lsize (K : PySem.W.Frag) : TS :=
  (tSeq (tAsg (tCall (sp_Lpick K) [] E0 (tCons (tVar 0) (tCons (tC (.int 32)) tNil))) (gName 1))
  (tSeq (tIfS (tTest (tOp rEq (tVar 1) (tC (.int 0)))) (tRet (tC (.int 30))) tNext)
  (tSeq (tIfS (tTest (tOp zLt (tVar 1) (tC (.int 5)))) (tRet (tCall (sp_Lpick K) [] E0 (tCons (tVar 0) (tCons (tC (.int 13)) tNil)))) tNext)
  (tRet (tCall (sp_Lpick K) [] E0 (tCons (tVar 0) (tCons (tC (.int 8)) tNil)))))))
abbrev Wt_Lsize (K : PySem.W.Frag) (vs : List V) (H : Hp) (Q : VK) : Prop := t_Lsize K { nx := fun _ H' => Q .non H', rt := Q } (start nm_Lsize vs) H
theorem ln_Lsize {K : PySem.W.Frag} (vs : List V) (H : Hp) (Q : VK) (E : XK) (h : sp_Lsize K vs H Q E) : vs.length = pr_Lsize.length := by
  obtain ⟨_, rfl, _⟩ := h
  rfl
theorem rd_Lsize {K : PySem.W.Frag} (F : KF K) (vs : List V) (H : Hp) (Q : VK) (E : XK) (h : sp_Lsize K vs H Q E) : Wt_Lsize K vs H Q := by
  obtain ⟨t, rfl, ht, k⟩ := h
  show t_Lsize K _ [some (.ref t), none] H
  have dr : ∀ (m : Int) σ H2, σ[0]? = some (some (V.ref t)) → 1 ≤ m → m ≤ 30 → Tp (H2 t) → ExO t H H2 → tRet (tCall (sp_Lpick K) [] E0 (tCons (tVar 0) (tCons (tC (.int m)) tNil))) { nx := fun _ H' => Q .non H', rt := Q } σ H2 := by
    intro m σ H2 hs m1 m2 t2 x2
    refine s_retC (ea_2 (ev_var hs) ev_c) (fun H3 e3 => ?_)
    refine ⟨t, m, rfl, tp_ex t2 e3, m1, by omega, fun d H4 d0 d1 t4 x4 => ?_⟩
    obtain ⟨j, rfl⟩ : ∃ j : Nat, d = (j : Int) := ⟨d.toNat, by omega⟩
    exact k j H4 (by omega) t4 (x2.trans ((ExO.of e3).trans x4))
  refine q_asgC (ea_2 (ev_var rfl) ev_c) (fun H1 e1 => ?_)
  refine ⟨t, 32, rfl, tp_ex ht e1, by decide, by decide, fun d H2 d0 d1 t2 x2 => ?_⟩
  have hx2 : ExO t H H2 := (ExO.of e1).trans x2
  refine q_when (b := decide (V.int d = V.int 0)) (et_test (ev_op (ev_var rfl) ev_c (rv_eq rfl))) (fun _ H3 e3 => ?_) (fun _ H3 e3 => ?_)
  · refine s_ret ev_c (fun H4 e4 => ?_)
    exact k 30 H4 (by omega) (tp_ex t2 (e3.trans e4)) (hx2.trans (ExO.of (e3.trans e4)))
  · refine q_when (b := decide (d < 5)) (et_test (ev_op (ev_var rfl) ev_c rv_I0)) (fun _ H4 e4 => ?_) (fun _ H4 e4 => ?_)
    · exact dr 13 _ H4 rfl (by decide) (by decide) (tp_ex t2 (e3.trans e4)) (hx2.trans (ExO.of (e3.trans e4)))
    · exact dr 8 _ H4 rfl (by decide) (by decide) (tp_ex t2 (e3.trans e4)) (hx2.trans (ExO.of (e3.trans e4)))

/-! ### the law's rounds -/
def sp_Ltwin (K : PySem.W.Frag) : Sp := fun vs H Q _ => ∃ h : Nat, vs = [vi h] ∧ ∀ H', Ex H H' → Q (vi (tw h)) H'
abbrev nm_Ltwin : List Str := ["_law_half"]
abbrev pr_Ltwin : List Str := ["_law_half"]
def t_Ltwin (K : PySem.W.Frag) : TS :=
  (tRet (tOp zSub (tOp zAdd (tVar 0) (tC (.int 1))) (tOp zMul (tC (.int 2)) (tOp zMod (tCB cInt (tCons (tVar 0) tNil)) (tC (.int 2))))))
abbrev Wt_Ltwin (K : PySem.W.Frag) (vs : List V) (H : Hp) (Q : VK) : Prop := t_Ltwin K { nx := fun _ H' => Q .non H', rt := Q } (start nm_Ltwin vs) H
theorem ln_Ltwin {K : PySem.W.Frag} (vs : List V) (H : Hp) (Q : VK) (E : XK) (h : sp_Ltwin K vs H Q E) : vs.length = pr_Ltwin.length := by
  obtain ⟨_, rfl, _⟩ := h
  rfl
theorem tw_int (h : Nat) : (h : Int) + 1 - 2 * (h : Int).fmod 2 = ((tw h : Nat) : Int) := by
  rw [Int.fmod_eq_emod_of_nonneg _ (by decide)]
  unfold tw
  split <;> omega
theorem rd_Ltwin {K : PySem.W.Frag} (F : KF K) (vs : List V) (H : Hp) (Q : VK) (E : XK) (h : sp_Ltwin K vs H Q E) : Wt_Ltwin K vs H Q := by
  obtain ⟨h, rfl, k⟩ := h
  show t_Ltwin K _ [some (vi h)] H
  refine s_ret (v := vi (tw h)) (ev_is (ev_op (ev_op (ev_var rfl) ev_c rv_I0) (ev_op ev_c (ev_op (ev_cb (ea_1 (ev_var rfl)) rc_int) ev_c (rv_I (by decide))) (rv_I (Or.inl ⟨by decide, by decide⟩))) rv_I0) (by show V.int ((h : Int) + 1 - 2 * (h : Int).fmod 2) = V.int _; rw [tw_int])) (fun H1 e1 => k H1 e1)
theorem spv_Ltwin {K : PySem.W.Frag} {H : Hp} (h : Nat) : SpV (sp_Ltwin K) [vi h] H (vi (tw h)) := fun H1 _ Q q E => ⟨h, rfl, q⟩

def sp_Lturned (K : PySem.W.Frag) : Sp := fun vs H Q _ => ∃ (a : Addr) (ns : List Nat) (h : Nat), vs = [.ref a, vi h] ∧ SqL K H a (L ns) ∧ IsP ns ∧ ns.length ≤ 1000 ∧ h < ns.length ∧
  ∀ H', Ex H H' → Q (vi (tw (bk ns h))) H'
abbrev nm_Lturned : List Str := ["_law_nexts_here", "_law_half", "_law_k"]
abbrev pr_Lturned : List Str := ["_law_nexts_here", "_law_half"]
def t_Lturned (K : PySem.W.Frag) : TS :=
  (tSeq (tFor (iRng1 (tCons (tCB (cLen K) (tCons (tVar 0) tNil)) tNil)) (gName 2) (tIfS (tTest (tOp rEq (tOp (rIxL K) (tVar 0) (tVar 2)) (tVar 1))) (tRet (tCall (sp_Ltwin K) [] E0 (tCons (tVar 2) tNil))) tNext))
  (tRet (tUn zNeg (tC (.int 1)))))
abbrev Wt_Lturned (K : PySem.W.Frag) (vs : List V) (H : Hp) (Q : VK) : Prop := t_Lturned K { nx := fun _ H' => Q .non H', rt := Q } (start nm_Lturned vs) H
theorem ln_Lturned {K : PySem.W.Frag} (vs : List V) (H : Hp) (Q : VK) (E : XK) (h : sp_Lturned K vs H Q E) : vs.length = pr_Lturned.length := by
  obtain ⟨_, _, _, rfl, _⟩ := h
  rfl
theorem rd_Lturned {K : PySem.W.Frag} (F : KF K) (vs : List V) (H : Hp) (Q : VK) (E : XK) (h : sp_Lturned K vs H Q E) : Wt_Lturned K vs H Q := by
  obtain ⟨a, ns, h, rfl, hS, hP, hl, hh, k⟩ := h
  show t_Lturned K _ [some (.ref a), some (vi h), none] H
  refine q_forR1 (n := (ns.length : Int)) (ea_1 (ev_is (ev_cb (ea_1 (ev_var rfl)) (rc_len hS)) (by rw [L_len]))) (by omega) (fun i σ' H' => ∃ v, σ' = [some (.ref a), some (vi h), v] ∧ Ex H H' ∧ i ≤ bk ns h) ?_ ?_ ?_
  · intro H1 e1
    exact ⟨none, rfl, e1, Nat.zero_le _⟩
  · rintro i σ' H' hi ⟨v, rfl, ex, hb⟩
    have hi' : i < ns.length := by omega
    refine s_when (b := decide (vi (fn ns i) = vi h)) (et_test (ev_op (ev_op (ev_var rfl) (ev_var rfl) (rv_ixL (ex_l ex hS) (L_at hi'))) (ev_var rfl) (rv_eq rfl))) (fun ht H1 e1 => ?_) (fun hf H1 e1 => ?_)
    · have e0 : fn ns i = h := by
        have := of_decide_eq_true ht
        injection this with this
        omega
      have e2 : i = bk ns h := by rw [← e0, bk_fn hP hi']
      refine s_retC (ea_1 (ev_var rfl)) (fun H2 e2' => ?_)
      refine ⟨i, rfl, fun H3 e3 => ?_⟩
      show Q (vi (tw i)) H3
      rw [e2]
      exact k H3 (ex.trans (e1.trans (e2'.trans e3)))
    · refine ⟨_, rfl, ex.trans e1, ?_⟩
      have e0 : i ≠ bk ns h := fun e => by
        refine (of_decide_eq_false hf) ?_
        rw [e, fn_bk hP hh]
      omega
  · rintro σ' H' ⟨v, rfl, ex, hb⟩
    have := bk_lt hP hh
    rw [Int.toNat_natCast] at hb
    omega
theorem spv_Lturned {K : PySem.W.Frag} {H : Hp} {a : Addr} {ns : List Nat} {h : Nat} (hS : SqL K H a (L ns)) (hP : IsP ns) (hl : ns.length ≤ 1000) (hh : h < ns.length) : SpV (sp_Lturned K) [.ref a, vi h] H (vi (tw (bk ns h))) :=
  fun H1 e Q q E => ⟨a, ns, h, rfl, ex_l e hS, hP, hl, hh, q⟩

/-- one step of a face, of a corner -/
def stp (ns : List Nat) (b : Bool) (x : Nat) : Nat := if b then fn ns x else tw (bk ns x)
theorem pf_stp {ns : List Nat} (h : IsP ns) (h2 : ns.length % 2 = 0) (b : Bool) : Pf (stp ns b) ns.length := by
  cases b with
  | true => exact pf_fn h
  | false => exact pf_turn h h2
def sp_Lround (K : PySem.W.Frag) : Sp := fun vs H Q _ => ∃ (a : Addr) (ns : List Nat) (h : Nat) (b : Bool), vs = [.ref a, vi h, .bl b] ∧ SqL K H a (L ns) ∧ IsP ns ∧ ns.length % 2 = 0 ∧ ns.length ≤ 1000 ∧ h < ns.length ∧
  ∀ p H', H p = none → Ex H H' → H' p = some (.lst (L (rnd (stp ns b) ns.length h))) → Q (.ref p) H'
abbrev nm_Lround : List Str := ["_law_nexts_here", "_law_half", "_law_by_face", "_law_found", "_law_after"]
abbrev pr_Lround : List Str := ["_law_nexts_here", "_law_half", "_law_by_face"]
def t_Lround (K : PySem.W.Frag) : TS :=
  (tSeq (tAsg (tLst (tCons (tVar 1) tNil)) (gName 3))
  (tSeq (tAsg (tIf (tB (tVar 2)) (tOp (rIxL K) (tVar 0) (tVar 1)) (tCall (sp_Lturned K) [] E0 (tCons (tVar 0) (tCons (tVar 1) tNil)))) (gName 4))
  (tSeq (tWhile (tAnd (tTest (tOp rNe (tVar 4) (tVar 1))) (tTest (tOp zLe (tCB (cLen K) (tCons (tVar 3) tNil)) (tCB (cLen K) (tCons (tVar 0) tNil))))) (tSeq (tDrop (tBM K "list" rAppend (tVar 3) (tCons (tVar 4) tNil)))
      (tAsg (tIf (tB (tVar 2)) (tOp (rIxL K) (tVar 0) (tVar 4)) (tCall (sp_Lturned K) [] E0 (tCons (tVar 0) (tCons (tVar 4) tNil)))) (gName 4))))
  (tRet (tVar 3)))))
abbrev Wt_Lround (K : PySem.W.Frag) (vs : List V) (H : Hp) (Q : VK) : Prop := t_Lround K { nx := fun _ H' => Q .non H', rt := Q } (start nm_Lround vs) H
theorem ln_Lround {K : PySem.W.Frag} (vs : List V) (H : Hp) (Q : VK) (E : XK) (h : sp_Lround K vs H Q E) : vs.length = pr_Lround.length := by
  obtain ⟨_, _, _, _, rfl, _⟩ := h
  rfl
theorem ev_stp {K : PySem.W.Frag} {σ : L2.St} {H : Hp} {a : Addr} {ns : List Nat} {b : Bool} {i x : Nat} (hS : SqL K H a (L ns)) (hP : IsP ns) (hl : ns.length ≤ 1000) (s0 : σ[0]? = some (some (.ref a))) (s2 : σ[2]? = some (some (.bl b))) (si : σ[i]? = some (some (vi x))) (hx : x < ns.length) :
    Ev (tIf (tB (tVar 2)) (tOp (rIxL K) (tVar 0) (tVar i)) (tCall (sp_Lturned K) [] E0 (tCons (tVar 0) (tCons (tVar i) tNil)))) σ H (vi (stp ns b x)) := by
  refine ev_if (b := b) (et_B (ev_var s2)) (fun hb => ?_) (fun hb => ?_)
  · subst hb
    exact ev_op (ev_var s0) (ev_var si) (rv_ixL hS (L_at hx))
  · subst hb
    exact ev_call (ea_2 (ev_var s0) (ev_var si)) (spv_Lturned hS hP hl hx)
theorem range_map_snoc {α : Type} (f : Nat → α) (k : Nat) : (List.range (k + 1)).map f = (List.range k).map f ++ [f k] := by
  rw [List.range_succ, List.map_append]
  rfl
theorem rd_Lround {K : PySem.W.Frag} (F : KF K) (vs : List V) (H : Hp) (Q : VK) (E : XK) (h : sp_Lround K vs H Q E) : Wt_Lround K vs H Q := by
  obtain ⟨a, ns, h, b, rfl, hS, hP, h2, hl, hh, kk⟩ := h
  show t_Lround K _ [some (.ref a), some (vi h), some (.bl b), none, none] H
  have PF := pf_stp hP h2 b
  obtain ⟨p1, p2, p3⟩ := per_spec PF hh
  have p0 := per_pos (stp ns b) ns.length h
  refine q_asgL (el_lst (ea_1 (ev_var rfl)) (by show 1 ≤ 100000; decide)) (fun p H1 hp e1 h1 => ?_)
  refine q_asg (ev_stp (i := 1) (x := h) (ex_l e1 hS) hP hl rfl rfl rfl hh) (fun H2 e2 => ?_)
  refine q_while (fun m σ' H' => ∃ k, 1 ≤ k ∧ k ≤ per (stp ns b) ns.length h ∧ m = per (stp ns b) ns.length h - k ∧ σ' = [some (.ref a), some (vi h), some (.bl b), some (.ref p), some (vi (itr (stp ns b) k h))] ∧
      H' p = some (.lst (L ((List.range k).map fun j => itr (stp ns b) j h))) ∧ Ex H H') (per (stp ns b) ns.length h - 1) ?_ ?_
  · exact ⟨1, Nat.le_refl _, p0, rfl, rfl, e2 _ _ h1, e1.trans e2⟩
  · rintro m σ' H' ⟨k, k1, k2, rfl, rfl, a1, ex⟩
    refine ⟨_, et_and (et_test (ev_op (ev_var rfl) (ev_var rfl) (rv_ne rfl))) (fun _ => et_test (ev_op (ev_cb (ea_1 (ev_var rfl)) (rc_len (sq_of a1))) (ev_cb (ea_1 (ev_var rfl)) (rc_len (ex_l ex hS))) rv_I0)), fun hb H1 e1 => ?_, fun hb H1 e1 => ?_⟩
    · obtain ⟨b1, b2⟩ := Bool.and_eq_true_iff.mp hb
      have hne : itr (stp ns b) k h ≠ h := fun e => by
        rw [e] at b1
        simp at b1
      have hk : k < per (stp ns b) ns.length h := by
        refine Nat.lt_of_le_of_ne k2 fun e => hne ?_
        rw [e]
        exact p1
      refine ⟨_, fun σ2 H2 hN => ⟨per (stp ns b) ns.length h - (k + 1), by omega, hN⟩, ?_⟩
      refine q_app (e1 _ _ a1) (ev_var rfl) (ev_var rfl) (by rw [L_len, List.length_map, List.length_range]; omega) (fun H2 e2 => ?_)
      have ex2 : Ex H (upd H2 p (.lst (L ((List.range k).map fun j => itr (stp ns b) j h) ++ [vi (itr (stp ns b) k h)]))) := Ex.mut (ex.trans (e1.trans e2)) hp
      refine s_asg (ev_stp (i := 4) (ex_l ex2 hS) hP hl rfl rfl rfl (itr_lt PF hh k)) (fun H3 e3 => ?_)
      refine ⟨k + 1, by omega, by omega, rfl, rfl, ?_, ex2.trans e3⟩
      rw [e3 _ _ upd_same, range_map_snoc, L_app]
      rfl
    · have hk : k = per (stp ns b) ns.length h := by
        refine Classical.byContradiction fun hne => ?_
        have h3 := p3 k (by omega) (by omega)
        have c1 : (!decide (vi (itr (stp ns b) k h) = vi h)) = true := by
          rw [decide_eq_false (fun e => h3 (by injection e with e; omega))]
          rfl
        have c2 : decide (((L ((List.range k).map fun j => itr (stp ns b) j h)).length : Int) ≤ ((L ns).length : Int)) = true := by
          rw [L_len, L_len, List.length_map, List.length_range]
          exact decide_eq_true (by omega)
        have c3 : ((!decide (vi (itr (stp ns b) k h) = vi h)) && decide (((L ((List.range k).map fun j => itr (stp ns b) j h)).length : Int) ≤ ((L ns).length : Int))) = true := by
          rw [c1, c2]
          rfl
        exact Bool.false_ne_true (hb.symm.trans c3)
      refine s_ret (ev_var rfl) (fun H2 e2 => ?_)
      refine kk p H2 hp (ex.trans (e1.trans e2)) ?_
      rw [e2 _ _ (e1 _ _ a1), hk]
      rfl
theorem spl_Lround {K : PySem.W.Frag} {H : Hp} {a : Addr} {ns : List Nat} {h : Nat} {b : Bool} (hS : SqL K H a (L ns)) (hP : IsP ns) (h2 : ns.length % 2 = 0) (hl : ns.length ≤ 1000) (hh : h < ns.length) : SpL (sp_Lround K) [.ref a, vi h, .bl b] H (L (rnd (stp ns b) ns.length h)) :=
  fun H1 e Q q E => ⟨a, ns, h, b, rfl, ex_l e hS, hP, h2, hl, hh, fun p H' hp ex hq => q p H' hp ex hq⟩

def sp_Lrounds (K : PySem.W.Frag) : Sp := fun vs H Q _ => ∃ (a : Addr) (ns : List Nat) (b : Bool), vs = [.ref a, .bl b] ∧ SqL K H a (L ns) ∧ IsP ns ∧ ns.length % 2 = 0 ∧ ns.length ≤ 1000 ∧
  ∀ p H', H p = none → Ex H H' → LLn H H' p (cycs (stp ns b) ns.length ns.length) → Q (.ref p) H'
abbrev nm_Lrounds : List Str := ["_law_nexts_here", "_law_by_face", "_law_found", "_law_half", "_law_members"]
abbrev pr_Lrounds : List Str := ["_law_nexts_here", "_law_by_face"]
def t_Lrounds (K : PySem.W.Frag) : TS :=
  (tSeq (tAsg (tLst tNil) (gName 2))
  (tSeq (tFor (iRng1 (tCons (tCB (cLen K) (tCons (tVar 0) tNil)) tNil)) (gName 3) (tSeq (tAsg (tCall (sp_Lround K) [] E0 (tCons (tVar 0) (tCons (tVar 3) (tCons (tVar 1) tNil)))) (gName 4))
      (tIfS (tTest (tOp rEq (tCB (rMin K) (tCons (tVar 4) tNil)) (tVar 3))) (tDrop (tBM K "list" rAppend (tVar 2) (tCons (tVar 4) tNil))) tNext)))
  (tRet (tVar 2))))
abbrev Wt_Lrounds (K : PySem.W.Frag) (vs : List V) (H : Hp) (Q : VK) : Prop := t_Lrounds K { nx := fun _ H' => Q .non H', rt := Q } (start nm_Lrounds vs) H
theorem ln_Lrounds {K : PySem.W.Frag} (vs : List V) (H : Hp) (Q : VK) (E : XK) (h : sp_Lrounds K vs H Q E) : vs.length = pr_Lrounds.length := by
  obtain ⟨_, _, _, rfl, _⟩ := h
  rfl
theorem rd_Lrounds {K : PySem.W.Frag} (F : KF K) (vs : List V) (H : Hp) (Q : VK) (E : XK) (h : sp_Lrounds K vs H Q E) : Wt_Lrounds K vs H Q := by
  obtain ⟨a, ns, b, rfl, hS, hP, h2, hl, kk⟩ := h
  show t_Lrounds K _ [some (.ref a), some (.bl b), none, none, none] H
  have PF := pf_stp hP h2 b
  refine q_asgL (el_lst ea_nil (Nat.zero_le _)) (fun p H1 hp e1 h1 => ?_)
  refine q_forR1 (n := (ns.length : Int)) (ea_1 (ev_is (ev_cb (ea_1 (ev_var rfl)) (rc_len (ex_l e1 hS))) (by rw [L_len]))) (by omega)
    (fun i σ' H' => ∃ v3 v4 as, σ' = [some (.ref a), some (.bl b), some (.ref p), v3, v4] ∧ Ex H H' ∧ H' p = some (.lst (as.map V.ref)) ∧ LA H' as (cycs (stp ns b) ns.length i) ∧ (∀ x ∈ as, H x = none ∧ x ≠ p) ∧ as.length ≤ i) ?_ ?_ ?_
  · intro H2 e2
    exact ⟨_, _, [], rfl, e1.trans e2, e2 _ _ h1, .nil, fun x hx => (nomatch hx), Nat.le_refl _⟩
  · rintro i σ' H' hi ⟨v3, v4, as, rfl, ex, a1, a2, a3, a4⟩
    have hi' : i < ns.length := by omega
    refine q_asgL (el_call (ea_cons (ev_var rfl) (ea_2 (ev_var rfl) (ev_var rfl))) (spl_Lround (ex_l ex hS) hP h2 hl hi')) (fun pm H2 hpm e2 h2' => ?_)
    have hr0 := per_pos (stp ns b) ns.length i
    have hself := rnd_self PF hi'
    have hne : 0 < (rnd (stp ns b) ns.length i).length := by rw [rnd_length]; exact hr0
    -- the least of the round
    obtain ⟨mm, hm1, hm2⟩ : ∃ mm, mm ∈ rnd (stp ns b) ns.length i ∧ ∀ y ∈ rnd (stp ns b) ns.length i, mm ≤ y := by
      have key : ∀ l : List Nat, l ≠ [] → ∃ mm, mm ∈ l ∧ ∀ y ∈ l, mm ≤ y := by
        intro l
        induction l with
        | nil => intro h; exact absurd rfl h
        | cons x r ih =>
          intro _
          by_cases hr : r = []
          · subst hr
            exact ⟨x, List.mem_cons_self .., fun y hy => by rcases List.mem_cons.mp hy with rfl | hy; exact Nat.le_refl _; cases hy⟩
          · obtain ⟨mm, q1, q2⟩ := ih hr
            by_cases hx : x ≤ mm
            · exact ⟨x, List.mem_cons_self .., fun y hy => by
                rcases List.mem_cons.mp hy with rfl | hy
                · exact Nat.le_refl _
                · exact Nat.le_trans hx (q2 y hy)⟩
            · exact ⟨mm, List.mem_cons_of_mem _ q1, fun y hy => by
                rcases List.mem_cons.mp hy with rfl | hy
                · omega
                · exact q2 y hy⟩
      exact key _ fun e => by rw [e] at hself; cases hself
    have hmin : Ev (tCB (rMin K) (tCons (tVar 4) tNil)) [some (.ref a), some (.bl b), some (.ref p), some (vi i), some (.ref pm)] H2 (vi mm) := by
      refine ev_cb (ea_1 (ev_var rfl)) (rc_min (ns := (rnd (stp ns b) ns.length i).map fun n : Nat => (n : Int)) (by rw [← L_int]; exact sq_of h2') (by rw [List.length_map]; exact hne) fun m' q1 q2 => ?_)
      obtain ⟨z, z1, rfl⟩ := List.mem_map.mp q1
      have := hm2 z z1
      have := q2 (mm : Int) (List.mem_map.mpr ⟨mm, hm1, rfl⟩)
      omega
    refine s_when (b := decide (vi mm = vi i)) (et_test (ev_op hmin (ev_var rfl) (rv_eq rfl))) (fun hb H3 e3 => ?_) (fun hb H3 e3 => ?_)
    · have e0 : mm = i := by
        have := of_decide_eq_true hb
        injection this with this
        omega
      have hmn : isMin (stp ns b) ns.length i = true := isMin_iff.mpr fun y hy => by
        have := hm2 y hy
        omega
      have ex3 := ex.trans (e2.trans e3)
      refine s_app (e3 _ _ (e2 _ _ a1)) (ev_var rfl) (ev_var rfl) (by rw [List.length_map]; omega) (fun H4 e4 => ?_)
      have hpp : pm ≠ p := (ne_of_none a1 hpm).symm
      refine ⟨_, _, as ++ [pm], rfl, Ex.mut (ex3.trans e4) hp, ?_, ?_, fun x hx => ?_, by rw [List.length_append]; show as.length + 1 ≤ i + 1; omega⟩
      · rw [upd_same, List.map_append]
        rfl
      · rw [cycs_yes hmn]
        refine paired_snoc (LA.upd (LA.ex a2 (e2.trans (e3.trans e4))) fun x hx => (a3 x hx).2) ?_
        show upd H4 p _ pm = _
        rw [upd_ne hpp]
        exact e4 _ _ (e3 _ _ h2')
      · rcases List.mem_append.mp hx with hx | hx
        · exact a3 x hx
        · rw [List.mem_singleton.mp hx]
          exact ⟨fresh_back ex hpm, hpp⟩
    · have hmn : ¬ isMin (stp ns b) ns.length i = true := fun hm => by
        refine (of_decide_eq_false hb) ?_
        have h5 := isMin_iff.mp hm mm hm1
        have h6 := hm2 i hself
        have : mm = i := by omega
        rw [this]
      refine ⟨_, _, as, rfl, ex.trans (e2.trans e3), e3 _ _ (e2 _ _ a1), ?_, a3, by omega⟩
      rw [cycs_no hmn]
      exact LA.ex a2 (e2.trans e3)
  · rintro σ' H' ⟨v3, v4, as, rfl, ex, a1, a2, a3, a4⟩
    rw [Int.toNat_natCast] at a2
    refine s_ret (ev_var rfl) (fun H2 e2 => ?_)
    exact kk p H2 hp (ex.trans e2) ⟨as, e2 _ _ a1, LA.ex a2 e2, a3⟩
end Hm
namespace Hm
open PySem PySem.Spec PyProof.Rows L2 Evl
/-! ### the program: what is a mesh -/
def isI : V → Bool
  | .int _ => true
  | _ => false
/-- an int or a bool -/
def IB (v : V) : Prop := (∃ i, v = .int i) ∨ (∃ b, v = .bl b)
def sp_isinteger (K : PySem.W.Frag) : Sp := fun vs H Q _ => ∃ v : V, vs = [v] ∧ IB v ∧ ∀ H', Ex H H' → Q (.bl (isI v)) H'
abbrev nm_isinteger : List Str := ["value"]
abbrev pr_isinteger : List Str := ["value"]
def t_isinteger (K : PySem.W.Frag) : TS :=
  (tRet (tAndV (tCB (rIsi K) (tCons (tVar 0) (tCons (tC (.ty "int")) tNil))) (tNotV (tCB (rIsi K) (tCons (tVar 0) (tCons (tC (.ty "bool")) tNil))))))
abbrev Wt_isinteger (K : PySem.W.Frag) (vs : List V) (H : Hp) (Q : VK) : Prop := t_isinteger K { nx := fun _ H' => Q .non H', rt := Q } (start nm_isinteger vs) H
theorem ln_isinteger {K : PySem.W.Frag} (vs : List V) (H : Hp) (Q : VK) (E : XK) (h : sp_isinteger K vs H Q E) : vs.length = pr_isinteger.length := by
  obtain ⟨_, rfl, _⟩ := h
  rfl
theorem rd_isinteger {K : PySem.W.Frag} (F : KF K) (vs : List V) (H : Hp) (Q : VK) (E : XK) (h : sp_isinteger K vs H Q E) : Wt_isinteger K vs H Q := by
  obtain ⟨v, rfl, hv, k⟩ := h
  show t_isinteger K _ [some v] H
  rcases hv with ⟨i, rfl⟩ | ⟨b, rfl⟩
  · refine s_ret (v := .bl (true && !false)) (ev_andV (ev_cb (ea_2 (ev_var rfl) ev_c) (rc_isi (.ty "int") (fun H1 _ => .base (.int i)) (kit_ty (by decide +kernel)))) (fun _ => ev_notV (ev_cb (ea_2 (ev_var rfl) ev_c) (rc_isi (.ty "bool") (fun H1 _ => .base (.int i)) (kit_ty (by decide +kernel)))))) (fun H1 e1 => k H1 e1)
  · refine s_ret (v := .bl (true && !true)) (ev_andV (ev_cb (ea_2 (ev_var rfl) ev_c) (rc_isi (.ty "int") (fun H1 _ => .base (.bl b)) (kit_ty (by decide +kernel)))) (fun _ => ev_notV (ev_cb (ea_2 (ev_var rfl) ev_c) (rc_isi (.ty "bool") (fun H1 _ => .base (.bl b)) (kit_ty (by decide +kernel)))))) (fun H1 e1 => k H1 e1)
theorem spv_isinteger {K : PySem.W.Frag} {H : Hp} {v : V} (h : IB v) : SpV (sp_isinteger K) [v] H (.bl (isI v)) := fun H1 _ Q q E => ⟨v, rfl, h, q⟩

def dZ (zs : List Int) : PyData := .list (zs.map PyData.int)
theorem eqv_Zs : ∀ zs ys : List Int, PyData.eqvAll (zs.map PyData.int) (ys.map PyData.int) = decide (zs = ys)
  | [], [] => by simp [PyData.eqvAll]
  | [], _ :: _ => by simp [PyData.eqvAll]
  | _ :: _, [] => by simp [PyData.eqvAll]
  | n :: r, m :: s => by
    have h := eqv_Zs r s
    simp only [List.map_cons, PyData.eqvAll, PyData.eqv, h]
    by_cases e : n = m <;> simp [e]
theorem eqv_dZ (zs ys : List Int) : PyData.eqv (dZ zs) (dZ ys) = decide (zs = ys) := by
  unfold dZ
  simp only [PyData.eqv]
  exact eqv_Zs zs ys
theorem rv_eqZ {K : PySem.W.Frag} {H : Hp} {a b : Addr} {ns ms : List Int} (h1 : SqL K H a (ns.map V.int)) (h2 : SqL K H b (ms.map V.int)) : RV (rEqD K) (.ref a) (.ref b) H (.bl (decide (ns = ms))) := by
  rw [← eqv_dZ]
  exact rv_eqD' (Dp.lst h1 (dpAll_ints _)) (Dp.lst h2 (dpAll_ints _)) (shaped_ints _) (shaped_ints _)
theorem el_rg1 {K : PySem.W.Frag} {σ : L2.St} {H : Hp} {te : TE} {n : Nat} (h : Ev te σ H (.int (n : Int))) (hn : n ≤ 100000) : EvL (tLstRg (tRg1 te)) σ H (((List.range n).map fun i : Nat => (i : Int)).map V.int) := fun H1 e Q q =>
  h H1 e _ fun H2 e2 => ⟨(n : Int), rfl, RgOk.of_le (by omega) (by omega) (by omega) (by omega), fun p hp => by
    have e3 : rgV 0 (n : Int) = ((List.range n).map fun i : Nat => (i : Int)).map V.int := by
      unfold rgV
      rw [List.map_map, Int.sub_zero, Int.toNat_natCast]
      refine List.map_congr_left fun i _ => ?_
      show V.int (0 + (i : Int)) = V.int (i : Int)
      rw [Int.zero_add]
    rw [e3]
    exact q p _ (fresh_back e2 hp) (e2.trans (Ex.new hp)) upd_same⟩
/-- a list of numbers that are the halves of a mesh, each once -/
def Good (xs : List V) : Prop := ∃ ns, xs = L ns ∧ IsP ns ∧ ns.length % 2 = 0
def sp_areallhalves (K : PySem.W.Frag) : Sp := fun vs H Q _ => ∃ (a : Addr) (xs : List V), vs = [.ref a] ∧ SqL K H a xs ∧ xs.length ≤ 10000 ∧ (∀ x ∈ xs, IB x) ∧
  ∀ b H', (b = true ↔ Good xs) → Ex H H' → Q (.bl b) H'
abbrev nm_areallhalves : List Str := ["numbers", "number"]
abbrev pr_areallhalves : List Str := ["numbers"]
def t_areallhalves (K : PySem.W.Frag) : TS :=
  (tSeq (tIfS (tOr (tTest (tOp rEq (tOp zMod (tCB (cLen K) (tCons (tVar 0) tNil)) (tC (.int 2))) (tC (.int 1)))) (tNot (tB (tCB (rAll K) (tCons (tLc (iList K (tVar 0)) (gName 1) tYes (tCall (sp_isinteger K) [] E0 (tCons (tVar 1) tNil)) [1]) tNil))))) (tRet (tC (.bl false))) tNext)
  (tRet (tOp (rEqD K) (tCB (rSortedI K) (tCons (tVar 0) tNil)) (tLstRg (tRg1 (tCB (cLen K) (tCons (tVar 0) tNil)))))))
abbrev Wt_areallhalves (K : PySem.W.Frag) (vs : List V) (H : Hp) (Q : VK) : Prop := t_areallhalves K { nx := fun _ H' => Q .non H', rt := Q } (start nm_areallhalves vs) H
theorem ln_areallhalves {K : PySem.W.Frag} (vs : List V) (H : Hp) (Q : VK) (E : XK) (h : sp_areallhalves K vs H Q E) : vs.length = pr_areallhalves.length := by
  obtain ⟨_, _, rfl, _⟩ := h
  rfl
theorem isI_L (ns : List Nat) : ∀ x ∈ L ns, isI x = true := by
  intro x hx
  obtain ⟨n, _, rfl⟩ := List.mem_map.mp hx
  rfl
theorem ints_of : ∀ {xs : List V}, (∀ x ∈ xs, isI x = true) → ∃ zs : List Int, xs = zs.map V.int
  | [], _ => ⟨[], rfl⟩
  | x :: r, h => by
    obtain ⟨zs, e⟩ := ints_of (xs := r) fun y hy => h y (List.mem_cons_of_mem _ hy)
    have hx := h x (List.mem_cons_self ..)
    cases x with
    | int i => exact ⟨i :: zs, by rw [e]; rfl⟩
    | _ => cases hx
theorem map_int_inj {a b : List Int} (h : a.map V.int = b.map V.int) : a = b := by
  induction a generalizing b with
  | nil => cases b with
    | nil => rfl
    | cons _ _ => cases h
  | cons x r ih => cases b with
    | nil => cases h
    | cons y s =>
      injection h with h1 h2
      injection h1 with h1
      rw [h1, ih h2]
theorem good_ints {zs ns' : List Int} (hp : ns'.Perm zs) (hs : ns'.Pairwise (· ≤ ·)) (h2 : zs.length % 2 = 0) : ns' = (List.range zs.length).map (fun i : Nat => (i : Int)) ↔ Good (zs.map V.int) := by
  constructor
  · intro e
    subst e
    have hz : ∀ z ∈ zs, 0 ≤ z := fun z hz => by
      obtain ⟨i, _, rfl⟩ := List.mem_map.mp (hp.mem_iff.mpr hz)
      omega
    have key : ∀ zs : List Int, (∀ z ∈ zs, 0 ≤ z) → zs = (zs.map Int.toNat).map fun i : Nat => (i : Int) := by
      intro zs
      induction zs with
      | nil => intro _; rfl
      | cons z r ih =>
        intro h
        rw [List.map_cons, List.map_cons, ← ih fun y hy => h y (List.mem_cons_of_mem _ hy)]
        have := h z (List.mem_cons_self ..)
        rw [show (((z.toNat : Nat)) : Int) = z by omega]
    have e := key zs hz
    refine ⟨zs.map Int.toNat, ?_, ⟨?_⟩, by rw [List.length_map]; exact h2⟩
    · rw [L_int, ← e]
    · rw [List.length_map]
      have hq := hp.map Int.toNat
      rw [List.map_map] at hq
      have e3 : (List.range zs.length).map (Int.toNat ∘ fun i : Nat => (i : Int)) = List.range zs.length := by
        rw [List.map_congr_left (g := id) (fun i _ => by show ((i : Nat) : Int).toNat = i; omega), List.map_id]
      rw [e3] at hq
      exact hq.symm
  · rintro ⟨ns, e, hP, _⟩
    rw [L_int] at e
    have e := map_int_inj e
    subst e
    refine List.Perm.eq_of_pairwise (le := (· ≤ ·)) (fun a b _ _ h1 h2 => Int.le_antisymm h1 h2) hs ?_ ?_
    · rw [List.pairwise_map]
      exact List.Pairwise.imp (fun h => by omega) List.pairwise_lt_range
    · rw [List.length_map]
      exact hp.trans (hP.perm.map _)
theorem rcl_sorted {K : PySem.W.Frag} {H : Hp} {a : Addr} {zs : List Int} {r : List Int} (hS : SqL K H a (zs.map V.int)) (hu : ∀ ns' : List Int, ns'.Perm zs → ns'.Pairwise (· ≤ ·) → ns' = r) : RCL (rSortedI K) [.ref a] H (r.map V.int) := fun H1 e Q q =>
  ⟨a, zs, rfl, ex_l e hS, fun ns' p h1 h2 hp => by
    rw [hu ns' h1 h2]
    exact q p _ hp (Ex.new hp) upd_same⟩
theorem sort_ex (zs : List Int) : ∃ r : List Int, r.Perm zs ∧ r.Pairwise (· ≤ ·) ∧ ∀ ns' : List Int, ns'.Perm zs → ns'.Pairwise (· ≤ ·) → ns' = r := by
  refine ⟨zs.mergeSort (fun a b => decide (a ≤ b)), List.mergeSort_perm _ _, ?_, fun ns' h1 h2 => ?_⟩
  · refine List.Pairwise.imp (fun h => of_decide_eq_true h) (List.pairwise_mergeSort (le := fun a b => decide (a ≤ b)) (fun a b c h1 h2 => ?_) (fun a b => ?_) zs)
    · have h1 := of_decide_eq_true h1
      have h2 := of_decide_eq_true h2
      exact decide_eq_true (Int.le_trans h1 h2)
    · rw [Bool.or_eq_true]
      rcases Int.le_total a b with h | h
      · exact .inl (decide_eq_true h)
      · exact .inr (decide_eq_true h)
  · refine List.Perm.eq_of_pairwise (le := (· ≤ ·)) (fun a b _ _ h1 h2 => Int.le_antisymm h1 h2) h2 ?_ (h1.trans (List.mergeSort_perm _ _).symm)
    refine List.Pairwise.imp (fun h => of_decide_eq_true h) (List.pairwise_mergeSort (le := fun a b => decide (a ≤ b)) (fun a b c h1 h2 => ?_) (fun a b => ?_) zs)
    · have h1 := of_decide_eq_true h1
      have h2 := of_decide_eq_true h2
      exact decide_eq_true (Int.le_trans h1 h2)
    · rw [Bool.or_eq_true]
      rcases Int.le_total a b with h | h
      · exact .inl (decide_eq_true h)
      · exact .inr (decide_eq_true h)
theorem rd_areallhalves {K : PySem.W.Frag} (F : KF K) (vs : List V) (H : Hp) (Q : VK) (E : XK) (h : sp_areallhalves K vs H Q E) : Wt_areallhalves K vs H Q := by
  obtain ⟨a, xs, rfl, hS, hz, hI, k⟩ := h
  show t_areallhalves K _ [some (.ref a), none] H
  have hb : ((List.range xs.length).map fun i => isI (xs.getD i .non)).all id = true ↔ ∀ x ∈ xs, isI x = true := by
    rw [List.all_eq_true]
    constructor
    · intro h x hx
      obtain ⟨i, hi, e⟩ := List.mem_iff_getElem.mp hx
      have := h (isI (xs.getD i .non)) (List.mem_map.mpr ⟨i, List.mem_range.mpr hi, rfl⟩)
      rw [List.getD_eq_getElem?_getD, List.getElem?_eq_getElem hi] at this
      rw [← e]
      exact this
    · intro h y hy
      obtain ⟨i, hi, rfl⟩ := List.mem_map.mp hy
      have hi := List.mem_range.mp hi
      show isI (xs.getD i .non) = true
      rw [List.getD_eq_getElem?_getD, List.getElem?_eq_getElem hi]
      exact h _ (List.getElem_mem hi)
  have hcomp : EvL (tLc (iList K (tVar 0)) (gName 1) tYes (tCall (sp_isinteger K) [] E0 (tCons (tVar 1) tNil)) [1]) [some (.ref a), none] H (((List.range xs.length).map fun i => isI (xs.getD i .non)).map V.bl) := by
    have := el_lcL (K := K) (σ := [some (.ref a), none]) (H := H) (j := 1) (vs := [1]) (t := tYes) (tl := tVar 0) (te := tCall (sp_isinteger K) [] E0 (tCons (tVar 1) tNil)) (fun _ => true) (fun i => .bl (isI (xs.getD i .non))) (ev_var rfl) hS (by omega) (fun _ => rfl) (fun i x H1 _ _ => et_yes) (fun i x H1 _ hx _ => by
      have e : xs.getD i .non = x := by rw [List.getD_eq_getElem?_getD, hx]; rfl
      rw [e]
      exact ev_call (ea_1 (ev_var rfl)) (spv_isinteger (hI x (List.mem_of_getElem? hx))))
    rw [given_all] at this
    rw [List.map_map]
    exact this
  refine q_when (et_or (et_test (ev_op (ev_op (ev_cb (ea_1 (ev_var rfl)) (rc_len hS)) ev_c (rv_I (by decide))) ev_c (rv_eq rfl))) (fun _ => et_not (et_B (ev_cbN hcomp (fun p H1 hp _ => rc_all (sq_of hp)))))) (fun hb1 H1 e1 => ?_) (fun hb1 H1 e1 => ?_)
  · refine s_ret ev_c (fun H2 e2 => k false H2 ⟨fun h => (nomatch h), fun hg => ?_⟩ (e1.trans e2))
    obtain ⟨ns, rfl, hP, h2⟩ := hg
    exfalso
    rcases Bool.or_eq_true_iff.mp hb1 with hc | hc
    · have := of_decide_eq_true hc
      injection this with this
      rw [L_len, Int.fmod_eq_emod_of_nonneg _ (by decide)] at this
      omega
    · rw [hb.mpr (isI_L ns)] at hc
      cases hc
  · rw [Bool.or_eq_false_iff] at hb1
    obtain ⟨c1, c2⟩ := hb1
    have c1 := of_decide_eq_false c1
    have h2 : xs.length % 2 = 0 := by
      refine Classical.byContradiction fun hne => c1 ?_
      rw [Int.fmod_eq_emod_of_nonneg _ (by decide), show ((xs.length : Int) % 2) = 1 by omega]
    have hall : ∀ x ∈ xs, isI x = true := hb.mp (by
      cases q : ((List.range xs.length).map fun i => isI (xs.getD i .non)).all id with
      | true => rfl
      | false => rw [q] at c2; cases c2)
    obtain ⟨zs, rfl⟩ := ints_of hall
    obtain ⟨r, r1, r2, r3⟩ := sort_ex zs
    have hl : (zs.map V.int).length = zs.length := List.length_map ..
    have hS1 := ex_l e1 hS
    refine s_ret (v := .bl (decide (r = (List.range zs.length).map (fun i : Nat => (i : Int))))) (ev_opLL (el_cb (ea_1 (ev_var (i := 0) rfl)) (rcl_sorted hS1 r3)) (el_rg1 (K := K) (n := zs.length) (ev_is (ev_cb (ea_1 (ev_var (i := 0) rfl)) (rc_len hS1)) (by rw [hl])) (by omega)) (fun p q H2 hp hq e2 => rv_eqZ (sq_of hp) (sq_of hq))) (fun H2 e2 => ?_)
    refine k _ H2 ?_ (e1.trans e2)
    rw [decide_eq_true_iff]
    exact good_ints r1 r2 (by omega)
end Hm
namespace Hm
open PySem PySem.Spec PyProof.Rows L2 Evl
/-! ### the program: links back, rounds -/
section
variable {K : PySem.W.Frag} {σ : L2.St} {H : Hp} {ta tb te tv tn : TE} {D : Ends} {tz : TS} {y v : V}
theorem replicate_flatten {v : V} : ∀ n : Nat, (List.replicate n [v]).flatten = List.replicate n v
  | 0 => rfl
  | n + 1 => by
    rw [List.replicate_succ, List.flatten_cons, replicate_flatten n, List.replicate_succ]
    rfl
theorem el_rep1 {n : Nat} (hv : Ev tv σ H v) (hn : Ev tn σ H (.int (n : Int))) (hz : n ≤ 100000) : EvL (tOp rRep (tLst (tCons tv tNil)) tn) σ H (List.replicate n v) := fun H1 e Q q =>
  el_lst (ea_1 hv) (by show 1 ≤ 100000; decide) H1 e _ fun p H2 _ e2 h2 => hn H2 (e.trans e2) _ fun H3 e3 => ⟨p, (n : Int), [v], rfl, rfl, e3 _ _ h2, by omega, by omega, sz_of (by show 1 * (n : Int).toNat ≤ 100000; omega), fun r hr => by
    have e4 : (List.replicate ((n : Int).toNat) [v]).flatten = List.replicate n v := by rw [Int.toNat_natCast, replicate_flatten]
    rw [e4]
    exact q r _ (fresh_back (e2.trans e3) hr) ((e2.trans e3).trans (Ex.new hr)) upd_same⟩
theorem q_fld {a C dx : Addr} {fs : List (Str × V)} {f : Str} (hv : Ev tv σ H y) (ha : Ev ta σ H (.ref a)) (ho : H a = some (.ins C dx fs)) (hc : Cls K C) (hn : NoAttr K C f) (hl : fs.length < 1000) (k : ∀ H1, Ex H H1 → tz D σ (upd H1 a (.ins C dx (putF f y fs)))) : tSeq (sFld K ta tv f) tz D σ H :=
  hv H (Ex.refl H) _ fun H1 e1 => ha H1 e1 _ fun H2 e2 => ⟨a, C, dx, fs, rfl, e2 _ _ (e1 _ _ ho), hc, hn, hl, k H2 (e1.trans e2)⟩
theorem q_fldL {a C dx : Addr} {fs : List (Str × V)} {f : Str} {xs : List V} (hv : EvL tv σ H xs) (ha : Ev ta σ H (.ref a)) (ho : H a = some (.ins C dx fs)) (hc : Cls K C) (hn : NoAttr K C f) (hl : fs.length < 1000) (k : ∀ p H1, H p = none → Ex H H1 → H1 p = some (.lst xs) → tz D σ (upd H1 a (.ins C dx (putF f (.ref p) fs)))) : tSeq (sFld K ta tv f) tz D σ H :=
  hv H (Ex.refl H) _ fun p H1 hp e1 h1 => ha H1 e1 _ fun H2 e2 => ⟨a, C, dx, fs, rfl, e2 _ _ (e1 _ _ ho), hc, hn, hl, k p H2 hp (e1.trans e2) (e2 _ _ h1)⟩
theorem s_fldL {a C dx : Addr} {fs : List (Str × V)} {f : Str} {xs : List V} (hv : EvL tv σ H xs) (ha : Ev ta σ H (.ref a)) (ho : H a = some (.ins C dx fs)) (hc : Cls K C) (hn : NoAttr K C f) (hl : fs.length < 1000) (k : ∀ p H1, H p = none → Ex H H1 → H1 p = some (.lst xs) → D.nx σ (upd H1 a (.ins C dx (putF f (.ref p) fs)))) : sFld K ta tv f D σ H :=
  hv H (Ex.refl H) _ fun p H1 hp e1 h1 => ha H1 e1 _ fun H2 e2 => ⟨a, C, dx, fs, rfl, e2 _ _ (e1 _ _ ho), hc, hn, hl, k p H2 hp (e1.trans e2) (e2 _ _ h1)⟩
end
def bkUp (ns : List Nat) (i : Nat) : List Nat := (List.range ns.length).map fun h => if bk ns h < i then bk ns h else 0
theorem bkUp_zero (ns : List Nat) : L (bkUp ns 0) = List.replicate ns.length (.int 0) := by
  unfold L bkUp
  rw [List.map_map]
  refine List.eq_replicate_iff.mpr ⟨by rw [List.length_map, List.length_range], fun b hb => ?_⟩
  obtain ⟨i, _, rfl⟩ := List.mem_map.mp hb
  rfl
theorem bkUp_all {ns : List Nat} (h : IsP ns) : bkUp ns ns.length = prevs ns := by
  unfold bkUp prevs
  refine List.map_congr_left fun x hx => ?_
  rw [if_pos (bk_lt h (List.mem_range.mp hx))]
theorem bkUp_succ {ns : List Nat} (h : IsP ns) {i : Nat} (hi : i < ns.length) : (L (bkUp ns i)).set (fn ns i) (vi i) = L (bkUp ns (i + 1)) := by
  refine List.ext_getElem? fun j => ?_
  have hb : ∀ i, (L (bkUp ns i)).length = ns.length := fun i => by rw [L_len]; unfold bkUp; rw [List.length_map, List.length_range]
  by_cases hj : j < ns.length
  · have gt : ∀ i, (L (bkUp ns i))[j]? = some (vi (if bk ns j < i then bk ns j else 0)) := fun i => by
      unfold L bkUp
      rw [List.map_map, List.getElem?_map, List.getElem?_range hj]
      rfl
    by_cases e : fn ns i = j
    · rw [← e, List.getElem?_set_self (by rw [hb, e]; exact hj), e, gt, ← e, bk_fn h hi, if_pos (by omega)]
    · rw [List.getElem?_set_ne e, gt, gt]
      have hne : bk ns j ≠ i := fun q => e (by rw [← q, fn_bk h hj])
      by_cases q : bk ns j < i
      · rw [if_pos q, if_pos (by omega)]
      · rw [if_neg q, if_neg (by omega)]
  · rw [List.getElem?_eq_none (by rw [List.length_set, hb]; omega), List.getElem?_eq_none (by rw [hb]; omega)]
def sp_inverse (K : PySem.W.Frag) : Sp := fun vs H Q _ => ∃ (a : Addr) (ns : List Nat), vs = [.ref a] ∧ SqL K H a (L ns) ∧ IsP ns ∧ ns.length ≤ 1000 ∧
  ∀ p H', H p = none → Ex H H' → H' p = some (.lst (L (prevs ns))) → Q (.ref p) H'
abbrev nm_inverse : List Str := ["links", "back", "half", "other"]
abbrev pr_inverse : List Str := ["links"]
def t_inverse (K : PySem.W.Frag) : TS :=
  (tSeq (tAsg (tOp rRep (tLst (tCons (tC (.int 0)) tNil)) (tCB (cLen K) (tCons (tVar 0) tNil))) (gName 1))
  (tSeq (tFor (iEnum K (tCons (tVar 0) tNil)) (gTup K 2 (gCons (gName 2) (gCons (gName 3) gNil))) (tAsg (tVar 2) (gSub (tVar 1) (tVar 3) rSetL)))
  (tRet (tVar 1))))
abbrev Wt_inverse (K : PySem.W.Frag) (vs : List V) (H : Hp) (Q : VK) : Prop := t_inverse K { nx := fun _ H' => Q .non H', rt := Q } (start nm_inverse vs) H
theorem ln_inverse {K : PySem.W.Frag} (vs : List V) (H : Hp) (Q : VK) (E : XK) (h : sp_inverse K vs H Q E) : vs.length = pr_inverse.length := by
  obtain ⟨_, _, rfl, _⟩ := h
  rfl
theorem rd_inverse {K : PySem.W.Frag} (F : KF K) (vs : List V) (H : Hp) (Q : VK) (E : XK) (h : sp_inverse K vs H Q E) : Wt_inverse K vs H Q := by
  obtain ⟨a, ns, rfl, hS, hP, hl, k⟩ := h
  show t_inverse K _ [some (.ref a), none, none, none] H
  refine q_asgL (el_rep1 (n := ns.length) ev_c (ev_is (ev_cb (ea_1 (ev_var rfl)) (rc_len hS)) (by rw [L_len])) (by omega)) (fun p H1 hp e1 h1 => ?_)
  rw [← bkUp_zero] at h1
  refine ⟨.ref a, rfl, a, L ns, rfl, ex_l e1 hS, ?_⟩
  refine for_it (walk_enum (xs := L ns)) (fun i σ' H' => ∃ v2 v3, σ' = [some (.ref a), some (.ref p), v2, v3] ∧ Ex H H' ∧ H' p = some (.lst (L (bkUp ns i)))) ⟨_, _, rfl, e1, h1⟩ ?_ ?_ ?_
  · rintro i σ' H' _ ⟨v2, v3, rfl, ex, _⟩
    exact ex_l ex hS
  · rintro i x σ' H2 H3 hi ⟨v2, v3, rfl, ex, hb⟩ ⟨T, x1, x2, rfl, hT, rfl, e2, e3⟩
    rw [L_len] at hi
    have e2 : vi i = x1 := Option.some.inj e2
    have e3 : (L ns)[i]? = some x2 := e3
    rw [L_get hi] at e3
    have e3 := Option.some.inj e3
    subst e2 e3
    have exT : Ex H2 (upd H2 T (.tup [vi i, vi (fn ns i)])) := Ex.new hT
    refine ⟨T, [vi i, vi (fn ns i)], rfl, .inl (.inl upd_same), rfl, vi i, [vi (fn ns i)], rfl, vi (fn ns i), [], rfl, rfl, ?_⟩
    refine s_setL (j := fn ns i) (exT _ _ hb) (ev_var rfl) (ev_var rfl) (ev_var rfl) (by rw [L_len]; unfold bkUp; rw [List.length_map, List.length_range]; exact (pf_fn hP).lt i hi) (fun H4 e4 => ?_)
    refine ⟨_, _, rfl, Ex.mut ((ex.trans exT).trans e4) hp, ?_⟩
    rw [upd_same, bkUp_succ hP hi]
  · rintro σ' H' ⟨v2, v3, rfl, ex, hb⟩
    rw [L_len, bkUp_all hP] at hb
    refine s_ret (ev_var rfl) (fun H2 e2 => k p H2 hp (ex.trans e2) (e2 _ _ hb))
theorem spl_inverse {K : PySem.W.Frag} {H : Hp} {a : Addr} {ns : List Nat} (hS : SqL K H a (L ns)) (hP : IsP ns) (hl : ns.length ≤ 1000) : SpL (sp_inverse K) [.ref a] H (L (prevs ns)) :=
  fun H1 e Q q E => ⟨a, ns, rfl, ex_l e hS, hP, hl, fun p H' hp ex hq => q p H' hp ex hq⟩

def sp_rounds (K : PySem.W.Frag) : Sp := fun vs H Q _ => ∃ (a : Addr) (ns : List Nat), vs = [.ref a] ∧ SqL K H a (L ns) ∧ IsP ns ∧ ns.length ≤ 1000 ∧
  ∀ p H', H p = none → Ex H H' → LLn H H' p (cycs (fn ns) ns.length ns.length) → Q (.ref p) H'
abbrev nm_rounds : List Str := ["links", "found", "seen", "start", "members", "half"]
abbrev pr_rounds : List Str := ["links"]
def t_rounds (K : PySem.W.Frag) : TS :=
  (tSeq (tAsg (tLst tNil) (gName 1))
  (tSeq (tAsg (tOp rRep (tLst (tCons (tC (.bl false)) tNil)) (tCB (cLen K) (tCons (tVar 0) tNil))) (gName 2))
  (tSeq (tFor (iRng1 (tCons (tCB (cLen K) (tCons (tVar 0) tNil)) tNil)) (gName 3) (tIfS (tNot (tB (tOp (rIxL K) (tVar 2) (tVar 3)))) (tSeq (tAsg (tLst tNil) (gName 4))
        (tSeq (tAsg (tVar 3) (gName 5))
        (tSeq (tWhile (tNot (tB (tOp (rIxL K) (tVar 2) (tVar 5)))) (tSeq (tAsg (tC (.bl true)) (gSub (tVar 2) (tVar 5) rSetL))
            (tSeq (tDrop (tBM K "list" rAppend (tVar 4) (tCons (tVar 5) tNil)))
            (tAsg (tOp (rIxL K) (tVar 0) (tVar 5)) (gName 5)))))
        (tDrop (tBM K "list" rAppend (tVar 1) (tCons (tVar 4) tNil)))))) tNext))
  (tRet (tVar 1)))))
abbrev Wt_rounds (K : PySem.W.Frag) (vs : List V) (H : Hp) (Q : VK) : Prop := t_rounds K { nx := fun _ H' => Q .non H', rt := Q } (start nm_rounds vs) H
theorem ln_rounds {K : PySem.W.Frag} (vs : List V) (H : Hp) (Q : VK) (E : XK) (h : sp_rounds K vs H Q E) : vs.length = pr_rounds.length := by
  obtain ⟨_, _, rfl, _⟩ := h
  rfl
theorem bl_get {bs : List Bool} {i : Nat} (h : i < bs.length) : atI (bs.map V.bl) ((i : Nat) : Int) = some (.bl (bs.getD i false)) := by
  refine atI_nat ?_
  rw [List.getElem?_map, List.getD_eq_getElem?_getD, List.getElem?_eq_getElem h]
  rfl
theorem bs_set {bs : List Bool} {i j : Nat} (h : j < bs.length) : (bs.set i true).getD j false = true ↔ bs.getD j false = true ∨ j = i := by
  by_cases e : i = j
  · subst e
    rw [List.getD_eq_getElem?_getD, List.getElem?_set_self h]
    simp
  · rw [List.getD_eq_getElem?_getD, List.getElem?_set_ne e, ← List.getD_eq_getElem?_getD]
    constructor
    · exact .inl
    · rintro (h | h)
      · exact h
      · exact absurd h.symm e
theorem rd_rounds {K : PySem.W.Frag} (F : KF K) (vs : List V) (H : Hp) (Q : VK) (E : XK) (h : sp_rounds K vs H Q E) : Wt_rounds K vs H Q := by
  obtain ⟨a, ns, rfl, hS, hP, hl, kk⟩ := h
  show t_rounds K _ [some (.ref a), none, none, none, none, none] H
  have PF := pf_fn hP
  refine q_asgL (el_lst ea_nil (Nat.zero_le _)) (fun pF H1 hpF e1 h1 => ?_)
  refine q_asgL (el_rep1 (n := ns.length) ev_c (ev_is (ev_cb (ea_1 (ev_var rfl)) (rc_len (ex_l e1 hS))) (by rw [L_len])) (by omega)) (fun pS H2 hpS e2 h2 => ?_)
  have hpS0 : H pS = none := fresh_back e1 hpS
  have hSF : pS ≠ pF := (ne_of_none h1 hpS).symm
  refine q_forR1 (n := (ns.length : Int)) (ea_1 (ev_is (ev_cb (ea_1 (ev_var rfl)) (rc_len (ex_l (e1.trans e2) hS))) (by rw [L_len]))) (by omega)
    (fun i σ' H' => ∃ (v3 v4 v5 : Option V) (as : List Addr) (bs : List Bool), σ' = [some (.ref a), some (.ref pF), some (.ref pS), v3, v4, v5] ∧ Ex H H' ∧ H' pF = some (.lst (as.map V.ref)) ∧ H' pS = some (.lst (bs.map V.bl)) ∧ LA H' as (cycs (fn ns) ns.length i) ∧
      (∀ x ∈ as, H x = none ∧ x ≠ pF ∧ x ≠ pS) ∧ as.length ≤ i ∧ bs.length = ns.length ∧ ∀ j, j < ns.length → (bs.getD j false = true ↔ Sn (fn ns) ns.length i j)) ?_ ?_ ?_
  · intro H3 e3
    refine ⟨_, _, _, [], List.replicate ns.length false, rfl, e1.trans (e2.trans e3), e3 _ _ (e2 _ _ h1), by rw [List.map_replicate]; exact e3 _ _ h2, .nil, fun x hx => (nomatch hx), Nat.le_refl _, List.length_replicate .., fun j hj => ?_⟩
    constructor
    · intro h
      rw [List.getD_eq_getElem?_getD, List.getElem?_replicate] at h
      rw [if_pos hj] at h
      cases h
    · rintro ⟨s, h, _⟩
      exact absurd h (Nat.not_lt_zero _)
  · rintro i σ' H' hi ⟨v3, v4, v5, as, bs, rfl, ex, a1, a2, a3, a4, a5, a6, a7⟩
    have hi' : i < ns.length := by omega
    refine s_when (b := !(bs.getD i false)) (et_not (et_B (ev_op (ev_var rfl) (ev_var rfl) (rv_ixL (sq_of a2) (bl_get (by omega)))))) (fun hb H3 e3 => ?_) (fun hb H3 e3 => ?_)
    · have hns : ¬ Sn (fn ns) ns.length i i := fun h => by
        rw [(a7 i hi').mpr h] at hb
        cases hb
      have hmin : isMin (fn ns) ns.length i = true := by
        refine Classical.byContradiction fun h => hns ((sn_iff_notMin PF hi').mpr h)
      obtain ⟨p1, p2, p3⟩ := per_spec PF hi'
      have p0 := per_pos (fn ns) ns.length i
      refine q_asgL (el_lst ea_nil (Nat.zero_le _)) (fun pM H4 hpM e4 h4 => ?_)
      have hpM0 : H pM = none := fresh_back (ex.trans e3) hpM
      have hMF : pM ≠ pF := (ne_of_none (e3 _ _ a1) hpM).symm
      have hMS : pM ≠ pS := (ne_of_none (e3 _ _ a2) hpM).symm
      have hMa : ∀ x ∈ as, x ≠ pM := LA.fresh (LA.ex a3 e3) hpM
      refine q_asg (ev_var rfl) (fun H5 e5 => ?_)
      refine q_while (fun m σ' H' => ∃ (k : Nat) (bs' : List Bool), k ≤ per (fn ns) ns.length i ∧ m = per (fn ns) ns.length i - k ∧ σ' = [some (.ref a), some (.ref pF), some (.ref pS), some (vi i), some (.ref pM), some (vi (itr (fn ns) k i))] ∧ Ex H H' ∧
        H' pF = some (.lst (as.map V.ref)) ∧ H' pS = some (.lst (bs'.map V.bl)) ∧ H' pM = some (.lst (L ((List.range k).map fun j => itr (fn ns) j i))) ∧ LA H' as (cycs (fn ns) ns.length i) ∧ bs'.length = ns.length ∧
        ∀ j, j < ns.length → (bs'.getD j false = true ↔ Sn (fn ns) ns.length i j ∨ j ∈ (List.range k).map fun j => itr (fn ns) j i)) (per (fn ns) ns.length i) ?_ ?_
      · refine ⟨0, bs, Nat.zero_le _, rfl, rfl, ex.trans (e3.trans (e4.trans e5)), e5 _ _ (e4 _ _ (e3 _ _ a1)), e5 _ _ (e4 _ _ (e3 _ _ a2)), e5 _ _ h4, LA.ex a3 (e3.trans (e4.trans e5)), a6, fun j hj => ?_⟩
        rw [a7 j hj]
        constructor
        · exact .inl
        · rintro (h | h)
          · exact h
          · cases h
      · rintro m σ' H6 ⟨k, bs', k1, rfl, rfl, ex6, b1, b2, b3, b4, b5, b6⟩
        have hlt : itr (fn ns) k i < ns.length := itr_lt PF hi' k
        refine ⟨!(bs'.getD (itr (fn ns) k i) false), et_not (et_B (ev_op (ev_var rfl) (ev_var rfl) (rv_ixL (sq_of b2) (bl_get (by omega))))), fun hb2 H7 e7 => ?_, fun hb2 H7 e7 => ?_⟩
        · have hk : k < per (fn ns) ns.length i := by
            refine Nat.lt_of_le_of_ne k1 fun e => ?_
            have h9 : bs'.getD (itr (fn ns) k i) false = true := (b6 _ hlt).mpr (.inr (by
              rw [e, p1]
              exact List.mem_map.mpr ⟨0, List.mem_range.mpr (by omega), rfl⟩))
            rw [h9] at hb2
            cases hb2
          refine ⟨_, fun σ2 H2 hN => ⟨per (fn ns) ns.length i - (k + 1), by omega, hN⟩, ?_⟩
          refine q_setL (j := itr (fn ns) k i) (e7 _ _ b2) ev_c (ev_var rfl) (ev_var rfl) (by rw [List.length_map]; omega) (fun H8 e8 => ?_)
          have x8 : Ex H (upd H8 pS (.lst ((bs'.map V.bl).set (itr (fn ns) k i) (.bl true)))) := Ex.mut (ex6.trans (e7.trans e8)) hpS0
          have c1 : (upd H8 pS (.lst ((bs'.map V.bl).set (itr (fn ns) k i) (.bl true)))) pM = some (.lst (L ((List.range k).map fun j => itr (fn ns) j i))) := by
            rw [upd_ne hMS]
            exact e8 _ _ (e7 _ _ b3)
          refine q_app c1 (ev_var rfl) (ev_var rfl) (by rw [L_len, List.length_map, List.length_range]; omega) (fun H9 e9 => ?_)
          have x9 : Ex H (upd H9 pM (.lst (L ((List.range k).map fun j => itr (fn ns) j i) ++ [vi (itr (fn ns) k i)]))) := Ex.mut (x8.trans e9) hpM0
          refine s_asg (ev_op (ev_var rfl) (ev_var rfl) (rv_ixL (ex_l x9 hS) (L_at hlt))) (fun H10 e10 => ?_)
          refine ⟨k + 1, bs'.set (itr (fn ns) k i) true, by omega, rfl, rfl, x9.trans e10, ?_, ?_, ?_, ?_, by rw [List.length_set]; exact b5, fun j hj => ?_⟩
          · refine e10 _ _ ?_
            rw [upd_ne hMF.symm]
            refine e9 _ _ ?_
            rw [upd_ne hSF.symm]
            exact e8 _ _ (e7 _ _ b1)
          · refine e10 _ _ ?_
            rw [upd_ne hMS.symm]
            refine e9 _ _ ?_
            rw [upd_same, List.map_set]
          · rw [e10 _ _ upd_same, range_map_snoc, L_app]
            rfl
          · refine LA.ex (LA.upd (LA.ex (LA.upd (LA.ex b4 (e7.trans e8)) fun x hx => (a4 x hx).2.2) e9) hMa) e10
          · rw [bs_set (by omega), b6 j hj, range_map_snoc, List.mem_append, List.mem_singleton]
            constructor
            · rintro ((h | h) | h)
              · exact .inl h
              · exact .inr (.inl h)
              · exact .inr (.inr h)
            · rintro (h | h | h)
              · exact .inl (.inl h)
              · exact .inl (.inr h)
              · exact .inr h
        · have hk : k = per (fn ns) ns.length i := by
            refine Classical.byContradiction fun hne => ?_
            have hkl : k < per (fn ns) ns.length i := by omega
            have h9 : bs'.getD (itr (fn ns) k i) false = true := by
              cases q : bs'.getD (itr (fn ns) k i) false with
              | true => rfl
              | false => rw [q] at hb2; cases hb2
            rcases (b6 _ hlt).mp h9 with h | h
            · exact sn_itr PF hi' hns k h
            · exact rnd_take_nodup PF hi' hkl h
          subst hk
          have x7 := ex6.trans e7
          refine s_app (e7 _ _ b1) (ev_var rfl) (ev_var rfl) (by rw [List.length_map]; omega) (fun H8 e8 => ?_)
          refine ⟨_, _, _, as ++ [pM], bs', rfl, Ex.mut (x7.trans e8) hpF, ?_, ?_, ?_, fun x hx => ?_, by rw [List.length_append]; show as.length + 1 ≤ i + 1; omega, b5, fun j hj => ?_⟩
          · rw [upd_same, List.map_append]
            rfl
          · rw [upd_ne hSF]
            exact e8 _ _ (e7 _ _ b2)
          · rw [cycs_yes hmin]
            refine paired_snoc (LA.upd (LA.ex b4 (e7.trans e8)) fun x hx => (a4 x hx).2.1) ?_
            show upd H8 pF _ pM = _
            rw [upd_ne hMF]
            exact e8 _ _ (e7 _ _ b3)
          · rcases List.mem_append.mp hx with hx | hx
            · exact a4 x hx
            · rw [List.mem_singleton.mp hx]
              exact ⟨hpM0, hMF, hMS⟩
          · rw [b6 j hj, sn_succ hi']
            exact Iff.rfl
    · have hb' : bs.getD i false = true := by
        cases q : bs.getD i false with
        | true => rfl
        | false => rw [q] at hb; cases hb
      have hsn := (a7 i hi').mp hb'
      have hmin : ¬ isMin (fn ns) ns.length i = true := (sn_iff_notMin PF hi').mp hsn
      refine ⟨_, _, _, as, bs, rfl, ex.trans e3, e3 _ _ a1, e3 _ _ a2, ?_, a4, by omega, a6, fun j hj => ?_⟩
      · rw [cycs_no hmin]
        exact LA.ex a3 e3
      · rw [a7 j hj, sn_succ hi']
        constructor
        · exact .inl
        · rintro (h | h)
          · exact h
          · obtain ⟨s, s1, s2, s3⟩ := hsn
            exact ⟨s, s1, s2, rnd_trans PF s2 s3 h⟩
  · rintro σ' H' ⟨v3, v4, v5, as, bs, rfl, ex, a1, a2, a3, a4, a5, a6, a7⟩
    rw [Int.toNat_natCast] at a3
    refine s_ret (ev_var rfl) (fun H2 e2 => ?_)
    exact kk pF H2 hpF (ex.trans e2) ⟨as, e2 _ _ a1, LA.ex a3 e2, fun x hx => ⟨(a4 x hx).1, (a4 x hx).2.1⟩⟩
end Hm
namespace Hm
open PySem PySem.Spec PyProof.Rows L2 Evl
/-! ### the program: the class Mesh -/
def mfs (l1 l2 l3 : Addr) : List (Str × V) := putF "_turns" (.ref l3) (putF "_prevs" (.ref l2) (putF "_nexts" (.ref l1) []))
theorem s12 : ¬ (("_nexts" : Str) = "_prevs") := by decide +kernel
theorem s13 : ¬ (("_nexts" : Str) = "_turns") := by decide +kernel
theorem s23 : ¬ (("_prevs" : Str) = "_turns") := by decide +kernel
theorem mfs_n (l1 l2 l3 : Addr) : (mfs l1 l2 l3).lookup ("_nexts" : Str) = some (.ref l1) := by
  unfold mfs
  rw [lookup_putF, if_neg s13, lookup_putF, if_neg s12, lookup_putF, if_pos rfl]
theorem mfs_p (l1 l2 l3 : Addr) : (mfs l1 l2 l3).lookup ("_prevs" : Str) = some (.ref l2) := by
  unfold mfs
  rw [lookup_putF, if_neg s23, lookup_putF, if_pos rfl]
theorem mfs_t (l1 l2 l3 : Addr) : (mfs l1 l2 l3).lookup ("_turns" : Str) = some (.ref l3) := by
  unfold mfs
  rw [lookup_putF, if_pos rfl]
theorem mfs_no {m : Str} (l1 l2 l3 : Addr) (h1 : ¬ m = "_nexts") (h2 : ¬ m = "_prevs") (h3 : ¬ m = "_turns") : (mfs l1 l2 l3).lookup m = none := by
  unfold mfs
  rw [lookup_putF, if_neg h3, lookup_putF, if_neg h2, lookup_putF, if_neg h1]
  rfl
theorem putF_len (f : Str) (v : V) : ∀ fs : List (Str × V), (putF f v fs).length ≤ fs.length + 1
  | [] => Nat.le_refl _
  | (g, x) :: r => by
    unfold putF
    split
    · exact Nat.le_succ _
    · have := putF_len f v r
      simp only [List.length_cons]
      omega
def MeshAt (K : PySem.W.Frag) (H : Hp) (x : Addr) (ns : List Nat) : Prop := ∃ dx l1 l2 l3 : Addr, H x = some (.ins (He.ga K "Mesh") dx (mfs l1 l2 l3)) ∧
  H l1 = some (.lst (L ns)) ∧ H l2 = some (.lst (L (prevs ns))) ∧ H l3 = some (.lst (L (turns ns)))
theorem MeshAt.ex {K : PySem.W.Frag} {H H' : Hp} {x : Addr} {ns : List Nat} (h : MeshAt K H x ns) (e : Ex H H') : MeshAt K H' x ns := by
  obtain ⟨dx, l1, l2, l3, a, b, c, d⟩ := h
  exact ⟨dx, l1, l2, l3, e _ _ a, e _ _ b, e _ _ c, e _ _ d⟩
/-- the same, its lists not tracked by H0 -/
def MeshN (K : PySem.W.Frag) (H0 H : Hp) (x : Addr) (ns : List Nat) : Prop := ∃ dx l1 l2 l3 : Addr, H x = some (.ins (He.ga K "Mesh") dx (mfs l1 l2 l3)) ∧
  H l1 = some (.lst (L ns)) ∧ H l2 = some (.lst (L (prevs ns))) ∧ H l3 = some (.lst (L (turns ns))) ∧ H0 l1 = none ∧ H0 l2 = none ∧ H0 l3 = none
theorem MeshN.at {K : PySem.W.Frag} {H0 H : Hp} {x : Addr} {ns : List Nat} (h : MeshN K H0 H x ns) : MeshAt K H x ns := by
  obtain ⟨dx, l1, l2, l3, a, b, c, d, _⟩ := h
  exact ⟨dx, l1, l2, l3, a, b, c, d⟩
theorem MeshN.ex {K : PySem.W.Frag} {H0 H H' : Hp} {x : Addr} {ns : List Nat} (h : MeshN K H0 H x ns) (e : Ex H H') : MeshN K H0 H' x ns := by
  obtain ⟨dx, l1, l2, l3, a, b, c, d, f⟩ := h
  exact ⟨dx, l1, l2, l3, e _ _ a, e _ _ b, e _ _ c, e _ _ d, f⟩
theorem MeshN.back {K : PySem.W.Frag} {H0 H1 H : Hp} {x : Addr} {ns : List Nat} (h : MeshN K H1 H x ns) (e : Ex H0 H1) : MeshN K H0 H x ns := by
  obtain ⟨dx, l1, l2, l3, a, b, c, d, f, g, i⟩ := h
  exact ⟨dx, l1, l2, l3, a, b, c, d, fresh_back e f, fresh_back e g, fresh_back e i⟩
theorem MeshN.upd {K : PySem.W.Frag} {H0 H : Hp} {x p : Addr} {ns : List Nat} {o u : HO} (h : MeshN K H0 H x ns) (hp : H0 p = some u) (hx : H0 x = none) : MeshN K H0 (upd H p o) x ns := by
  obtain ⟨dx, l1, l2, l3, a, b, c, d, f, g, i⟩ := h
  exact ⟨dx, l1, l2, l3, by rw [upd_ne (ne_of_none hp hx).symm]; exact a, by rw [upd_ne (ne_of_none hp f).symm]; exact b, by rw [upd_ne (ne_of_none hp g).symm]; exact c, by rw [upd_ne (ne_of_none hp i).symm]; exact d, f, g, i⟩
/-- a list of next halves of a mesh, of bearable length -/
structure MP (ns : List Nat) : Prop where
  p : IsP ns
  two : ns.length % 2 = 0
  len : ns.length ≤ 1000
theorem nat_xor_1 (n : Nat) : n ^^^ 1 = tw n := by
  have h1 : (n ^^^ 1) / 2 = n / 2 := by rw [Nat.xor_div_two]; simp
  have h2 := Nat.xor_mod_two_eq_one (a := n) (b := 1)
  unfold tw
  by_cases q : (n ^^^ 1) % 2 = 1
  · have := h2.mp q
    split <;> omega
  · have := fun w => q (h2.mpr w)
    split <;> omega
theorem xor_tw (n : Nat) : Builtin.bitXor (n : Int) 1 = ((tw n : Nat) : Int) := by
  rw [Bits.bitXor_pp (by omega) (by decide), ← nat_xor_1]
  rfl
theorem itr_congr {f g : Nat → Nat} {N : Nat} (P : Pf f N) (e : ∀ x, x < N → f x = g x) {x : Nat} (hx : x < N) (k : Nat) : itr f k x = itr g k x := by
  induction k with
  | zero => rfl
  | succ k ih =>
    show f (itr f k x) = g (itr g k x)
    rw [← ih]
    exact e _ (itr_lt P hx k)
theorem per_congr {f g : Nat → Nat} {N : Nat} (P : Pf f N) (e : ∀ x, x < N → f x = g x) {x : Nat} (hx : x < N) : per f N x = per g N x := by
  unfold per
  have : (fun k => itr f (k + 1) x == x) = fun k => itr g (k + 1) x == x := by
    funext k
    rw [itr_congr P e hx]
  rw [this]
theorem rnd_congr {f g : Nat → Nat} {N : Nat} (P : Pf f N) (e : ∀ x, x < N → f x = g x) {x : Nat} (hx : x < N) : rnd f N x = rnd g N x := by
  unfold rnd
  rw [per_congr P e hx]
  exact List.map_congr_left fun k _ => itr_congr P e hx k
theorem cycs_congr {f g : Nat → Nat} {N : Nat} (P : Pf f N) (e : ∀ x, x < N → f x = g x) : cycs f N N = cycs g N N := by
  unfold cycs
  have h1 : (List.range N).filter (isMin f N) = (List.range N).filter (isMin g N) := by
    refine List.filter_congr fun x hx => ?_
    unfold isMin
    rw [rnd_congr P e (List.mem_range.mp hx)]
  rw [h1]
  refine List.map_congr_left fun x hx => ?_
  exact rnd_congr P e (List.mem_range.mp (List.mem_filter.mp hx).1)
/-- the faces, the corners -/
def cyc (ns : List Nat) (b : Bool) : List (List Nat) := cycs (stp ns b) ns.length ns.length
theorem cyc_faces (ns : List Nat) : cycs (fn ns) ns.length ns.length = cyc ns true := rfl
theorem cyc_corners {ns : List Nat} (h : IsP ns) (h2 : ns.length % 2 = 0) : cycs (fn (turns ns)) (turns ns).length (turns ns).length = cyc ns false := by
  have h3 := pf_fn (isP_turns h h2)
  rw [turns_len] at h3 ⊢
  exact cycs_congr h3 fun x hx => fn_turns hx

def sp_Meshinit (K : PySem.W.Frag) : Sp := fun vs H Q _ => ∃ (x dx a : Addr) (ns : List Nat), vs = [.ref x, .ref a] ∧ H x = some (.ins (He.ga K "Mesh") dx []) ∧ SqL K H a (L ns) ∧ MP ns ∧
  ∀ H', MeshN K H H' x ns → ExO x H H' → Q .non H'
abbrev nm_Meshinit : List Str := ["self", "nexts", "links", "half"]
abbrev pr_Meshinit : List Str := ["self", "nexts"]
def t_Meshinit (K : PySem.W.Frag) : TS :=
  (tSeq (tAsg (tCB (cList K) (tCons (tVar 1) tNil)) (gName 2))
  (tSeq (tIfS (tNot (tB (tCall (sp_areallhalves K) [] E0 (tCons (tVar 2) tNil)))) tNever tNext)
  (tSeq (sFld K (tVar 0) (tVar 2) "_nexts")
  (tSeq (sFld K (tVar 0) (tCall (sp_inverse K) [] E0 (tCons (tVar 2) tNil)) "_prevs")
  (sFld K (tVar 0) (tLc (iList K (tFld K (tVar 0) "_prevs")) (gName 3) tYes (tOp zXor (tVar 3) (tC (.int 1))) [3]) "_turns")))))
abbrev Wt_Meshinit (K : PySem.W.Frag) (vs : List V) (H : Hp) (Q : VK) : Prop := t_Meshinit K { nx := fun _ H' => Q .non H', rt := Q } (start nm_Meshinit vs) H
theorem ln_Meshinit {K : PySem.W.Frag} (vs : List V) (H : Hp) (Q : VK) (E : XK) (h : sp_Meshinit K vs H Q E) : vs.length = pr_Meshinit.length := by
  obtain ⟨_, _, _, _, rfl, _⟩ := h
  rfl
theorem good_L {ns : List Nat} (h : MP ns) : Good (L ns) := ⟨ns, rfl, h.p, h.two⟩
theorem ib_L (ns : List Nat) : ∀ x ∈ L ns, IB x := fun x hx => by
  obtain ⟨n, _, rfl⟩ := List.mem_map.mp hx
  exact .inl ⟨_, rfl⟩
theorem spv_areallhalves {K : PySem.W.Frag} {H : Hp} {a : Addr} {ns : List Nat} (hS : SqL K H a (L ns)) (h : MP ns) : SpV (sp_areallhalves K) [.ref a] H (.bl true) := fun H1 e Q q E =>
  ⟨a, L ns, rfl, ex_l e hS, by rw [L_len]; have := h.len; omega, ib_L ns, fun b H' hb ex => by
    rw [hb.mpr (good_L h)]
    exact q H' ex⟩
theorem rd_Meshinit {K : PySem.W.Frag} (F : KF K) (vs : List V) (H : Hp) (Q : VK) (E : XK) (h : sp_Meshinit K vs H Q E) : Wt_Meshinit K vs H Q := by
  obtain ⟨x, dx, a, ns, rfl, hx, hS, hM, k⟩ := h
  show t_Meshinit K _ [some (.ref x), some (.ref a), none, none] H
  refine q_asgL (el_cb (ea_1 (ev_var rfl)) (rcl_list hS)) (fun l1 H1 hl1 e1 h1 => ?_)
  have hxl1 : l1 ≠ x := (ne_of_none hx hl1).symm
  refine q_when (b := !true) (et_not (et_B (ev_call (ea_1 (ev_var rfl)) (spv_areallhalves (sq_of h1) hM)))) (fun hb => nomatch hb) (fun _ H2 e2 => ?_)
  refine q_fld (C := He.ga K "Mesh") (dx := dx) (fs := []) (ev_var rfl) (ev_var rfl) (e2 _ _ (e1 _ _ hx)) F.cl F.n1 (by decide) (fun H3 e3 => ?_)
  have c3 : (upd H3 x (.ins (He.ga K "Mesh") dx (putF "_nexts" (.ref l1) []))) l1 = some (.lst (L ns)) := by
    rw [upd_ne hxl1]
    exact e3 _ _ (e2 _ _ h1)
  refine q_fldL (el_call (ea_1 (ev_var rfl)) (spl_inverse (sq_of c3) hM.p hM.len)) (ev_var rfl) upd_same F.cl F.n2 (by have := putF_len "_nexts" (.ref l1) []; simp only [List.length_nil] at this; omega) (fun l2 H4 hl2 e4 h4 => ?_)
  have hxl2 : l2 ≠ x := (ne_of_none upd_same hl2).symm
  have hl12 : l1 ≠ l2 := ne_of_none c3 hl2
  have d1 : (upd H4 x (.ins (He.ga K "Mesh") dx (putF "_prevs" (.ref l2) (putF "_nexts" (.ref l1) [])))) l1 = some (.lst (L ns)) := by
    rw [upd_ne hxl1]
    exact e4 _ _ c3
  have d2 : (upd H4 x (.ins (He.ga K "Mesh") dx (putF "_prevs" (.ref l2) (putF "_nexts" (.ref l1) [])))) l2 = some (.lst (L (prevs ns))) := by
    rw [upd_ne hxl2]
    exact h4
  have hlk : (putF "_prevs" (V.ref l2) (putF "_nexts" (V.ref l1) [])).lookup ("_prevs" : Str) = some (.ref l2) := by
    rw [lookup_putF, if_pos rfl]
  have hcomp : EvL (tLc (iList K (tFld K (tVar 0) "_prevs")) (gName 3) tYes (tOp zXor (tVar 3) (tC (.int 1))) [3]) [some (.ref x), some (.ref a), some (.ref l1), none] (upd H4 x (.ins (He.ga K "Mesh") dx (putF "_prevs" (.ref l2) (putF "_nexts" (.ref l1) [])))) (L (turns ns)) := by
    have := el_lcL (K := K) (σ := [some (.ref x), some (.ref a), some (.ref l1), none]) (H := upd H4 x (.ins (He.ga K "Mesh") dx (putF "_prevs" (.ref l2) (putF "_nexts" (.ref l1) [])))) (j := 3) (vs := [3]) (tl := tFld K (tVar 0) "_prevs") (t := tYes) (te := tOp zXor (tVar 3) (tC (.int 1))) (fun _ => true) (fun i => vi (fn (turns ns) i))
      (ev_fld (ev_var rfl) upd_same F.cl F.n2 hlk) (sq_of d2) (by rw [L_len, prevs_len]; have := hM.len; omega) (fun _ => rfl) (fun i y H1 _ _ => et_yes) (fun i y H1 _ hy _ => by
        obtain ⟨q1, rfl⟩ := L_item hy
        rw [prevs_len] at q1
        refine ev_is (ev_op (ev_var rfl) ev_c rv_I0) ?_
        show V.int (Builtin.bitXor (fn (prevs ns) i : Int) 1) = _
        rw [xor_tw, fn_prevs q1, fn_turns q1])
    rw [given_all] at this
    have e : (List.range (L (prevs ns)).length).map (fun i => vi (fn (turns ns) i)) = L (turns ns) := by
      refine List.ext_getElem? fun j => ?_
      rw [L_len, prevs_len]
      by_cases hj : j < ns.length
      · rw [List.getElem?_map, List.getElem?_range hj, L_get (by rw [turns_len]; exact hj)]
        rfl
      · rw [List.getElem?_eq_none (by rw [List.length_map, List.length_range]; omega), List.getElem?_eq_none (by rw [L_len, turns_len]; omega)]
    rw [e] at this
    exact this
  refine s_fldL hcomp (ev_var rfl) upd_same F.cl F.n3 (by have := putF_len "_nexts" (.ref l1) []; have := putF_len "_prevs" (.ref l2) (putF "_nexts" (.ref l1) []); simp only [List.length_nil] at *; omega) (fun l3 H5 hl3 e5 h5 => ?_)
  have hxl3 : l3 ≠ x := (ne_of_none upd_same hl3).symm
  have bkx : ∀ {l : Addr} {H' : Hp}, ExO x H H' → l ≠ x → H' l = none → H l = none := fun {l H'} e n q => by
    cases w : H l with
    | none => rfl
    | some o =>
      rw [e l o n w] at q
      cases q
  refine k _ ⟨dx, l1, l2, l3, upd_same, ?_, ?_, ?_, hl1, bkx (ExO.of (e1.trans (e2.trans e3))).upd hxl2 hl2, bkx (((ExO.of (e1.trans (e2.trans e3))).upd).trans (ExO.of e4)).upd hxl3 hl3⟩ ?_
  · rw [upd_ne hxl1]
    exact e5 _ _ d1
  · rw [upd_ne hxl2]
    exact e5 _ _ d2
  · rw [upd_ne hxl3]
    exact h5
  · exact ((((ExO.of (e1.trans (e2.trans e3))).upd).trans (ExO.of e4)).upd.trans (ExO.of e5)).upd
section
variable {K : PySem.W.Frag} {σ : L2.St} {H : Hp} {ta tb te : TE} {D : Ends} {tz : TS}
/-- i = Mesh(l) -/
theorem q_mesh {i : Nat} {a : Addr} {ns : List Nat} {E : XK} (h : Ev te σ H (.ref a)) (hS : SqL K H a (L ns)) (hM : MP ns) (k : ∀ x H1, H x = none → MeshN K H H1 x ns → Ex H H1 → tz D (σ.set i (some (.ref x))) H1) :
    tSeq (tAsg (tMake (He.ga K "Mesh") (sp_Meshinit K) [] E (tCons te tNil)) (gName i)) tz D σ H :=
  h H (Ex.refl H) _ fun H1 e1 => fun x dx hx hdx hne => by
    have hx0 := fresh_back e1 hx
    have ex : Ex H1 (upd (upd H1 dx (.own x)) x (.ins (He.ga K "Mesh") dx [])) := fun b o q => by
      rw [upd_ne (ne_of_none q hx), upd_ne (ne_of_none q hdx)]
      exact q
    refine ⟨x, dx, a, ns, rfl, upd_same, ex_l (e1.trans ex) hS, hM, fun H2 m x2 => ⟨rfl, ?_⟩⟩
    refine k x H2 hx0 (m.back (e1.trans ex)) fun b o q => ?_
    have hb : b ≠ x := ne_of_none q hx0
    exact x2 b o hb (ex b o (e1 b o q))
end
def sp_Meshafter (K : PySem.W.Frag) : Sp := fun vs H Q _ => ∃ (x : Addr) (ns : List Nat) (h : Nat), vs = [.ref x, vi h] ∧ MeshAt K H x ns ∧ h < ns.length ∧ ∀ H', Ex H H' → Q (vi (fn ns h)) H'
abbrev nm_Meshafter : List Str := ["self", "half"]
abbrev pr_Meshafter : List Str := ["self", "half"]
def t_Meshafter (K : PySem.W.Frag) : TS :=
  (tRet (tOp (rIxL K) (tFld K (tVar 0) "_nexts") (tVar 1)))
abbrev Wt_Meshafter (K : PySem.W.Frag) (vs : List V) (H : Hp) (Q : VK) : Prop := t_Meshafter K { nx := fun _ H' => Q .non H', rt := Q } (start nm_Meshafter vs) H
theorem ln_Meshafter {K : PySem.W.Frag} (vs : List V) (H : Hp) (Q : VK) (E : XK) (h : sp_Meshafter K vs H Q E) : vs.length = pr_Meshafter.length := by
  obtain ⟨_, _, _, rfl, _⟩ := h
  rfl
theorem rd_Meshafter {K : PySem.W.Frag} (F : KF K) (vs : List V) (H : Hp) (Q : VK) (E : XK) (h : sp_Meshafter K vs H Q E) : Wt_Meshafter K vs H Q := by
  obtain ⟨x, ns, h, rfl, ⟨dx, l1, l2, l3, a, b, c, d⟩, hh, k⟩ := h
  show t_Meshafter K _ [some (.ref x), some (vi h)] H
  exact s_ret (ev_op (ev_fld (ev_var rfl) a F.cl F.n1 (mfs_n _ _ _)) (ev_var rfl) (rv_ixL (sq_of b) (L_at hh))) (fun H1 e1 => k H1 e1)
def sp_Meshbefore (K : PySem.W.Frag) : Sp := fun vs H Q _ => ∃ (x : Addr) (ns : List Nat) (h : Nat), vs = [.ref x, vi h] ∧ MeshAt K H x ns ∧ h < ns.length ∧ ∀ H', Ex H H' → Q (vi (bk ns h)) H'
abbrev nm_Meshbefore : List Str := ["self", "half"]
abbrev pr_Meshbefore : List Str := ["self", "half"]
def t_Meshbefore (K : PySem.W.Frag) : TS :=
  (tRet (tOp (rIxL K) (tFld K (tVar 0) "_prevs") (tVar 1)))
abbrev Wt_Meshbefore (K : PySem.W.Frag) (vs : List V) (H : Hp) (Q : VK) : Prop := t_Meshbefore K { nx := fun _ H' => Q .non H', rt := Q } (start nm_Meshbefore vs) H
theorem ln_Meshbefore {K : PySem.W.Frag} (vs : List V) (H : Hp) (Q : VK) (E : XK) (h : sp_Meshbefore K vs H Q E) : vs.length = pr_Meshbefore.length := by
  obtain ⟨_, _, _, rfl, _⟩ := h
  rfl
theorem rd_Meshbefore {K : PySem.W.Frag} (F : KF K) (vs : List V) (H : Hp) (Q : VK) (E : XK) (h : sp_Meshbefore K vs H Q E) : Wt_Meshbefore K vs H Q := by
  obtain ⟨x, ns, h, rfl, ⟨dx, l1, l2, l3, a, b, c, d⟩, hh, k⟩ := h
  show t_Meshbefore K _ [some (.ref x), some (vi h)] H
  refine s_ret (ev_op (ev_fld (ev_var rfl) a F.cl F.n2 (mfs_p _ _ _)) (ev_var rfl) (rv_ixL (sq_of c) (L_at (by rw [prevs_len]; exact hh)))) (fun H1 e1 => ?_)
  show Q (vi (fn (prevs ns) h)) H1
  rw [fn_prevs hh]
  exact k H1 e1
def sp_Meshtwin (K : PySem.W.Frag) : Sp := fun vs H Q _ => ∃ (x : V) (h : Nat), vs = [x, vi h] ∧ ∀ H', Ex H H' → Q (vi (tw h)) H'
abbrev nm_Meshtwin : List Str := ["self", "half"]
abbrev pr_Meshtwin : List Str := ["self", "half"]
def t_Meshtwin (K : PySem.W.Frag) : TS :=
  (tRet (tOp zXor (tVar 1) (tC (.int 1))))
abbrev Wt_Meshtwin (K : PySem.W.Frag) (vs : List V) (H : Hp) (Q : VK) : Prop := t_Meshtwin K { nx := fun _ H' => Q .non H', rt := Q } (start nm_Meshtwin vs) H
theorem ln_Meshtwin {K : PySem.W.Frag} (vs : List V) (H : Hp) (Q : VK) (E : XK) (h : sp_Meshtwin K vs H Q E) : vs.length = pr_Meshtwin.length := by
  obtain ⟨_, _, rfl, _⟩ := h
  rfl
theorem rd_Meshtwin {K : PySem.W.Frag} (F : KF K) (vs : List V) (H : Hp) (Q : VK) (E : XK) (h : sp_Meshtwin K vs H Q E) : Wt_Meshtwin K vs H Q := by
  obtain ⟨x, h, rfl, k⟩ := h
  show t_Meshtwin K _ [some x, some (vi h)] H
  exact s_ret (v := vi (tw h)) (ev_is (ev_op (ev_var rfl) ev_c rv_I0) (by show V.int (Builtin.bitXor (h : Int) 1) = _; rw [xor_tw])) (fun H1 e1 => k H1 e1)
def sp_Meshturned (K : PySem.W.Frag) : Sp := fun vs H Q _ => ∃ (x : Addr) (ns : List Nat) (h : Nat), vs = [.ref x, vi h] ∧ MeshAt K H x ns ∧ h < ns.length ∧ ∀ H', Ex H H' → Q (vi (tw (bk ns h))) H'
abbrev nm_Meshturned : List Str := ["self", "half"]
abbrev pr_Meshturned : List Str := ["self", "half"]
def t_Meshturned (K : PySem.W.Frag) : TS :=
  (tRet (tOp (rIxL K) (tFld K (tVar 0) "_turns") (tVar 1)))
abbrev Wt_Meshturned (K : PySem.W.Frag) (vs : List V) (H : Hp) (Q : VK) : Prop := t_Meshturned K { nx := fun _ H' => Q .non H', rt := Q } (start nm_Meshturned vs) H
theorem ln_Meshturned {K : PySem.W.Frag} (vs : List V) (H : Hp) (Q : VK) (E : XK) (h : sp_Meshturned K vs H Q E) : vs.length = pr_Meshturned.length := by
  obtain ⟨_, _, _, rfl, _⟩ := h
  rfl
theorem rd_Meshturned {K : PySem.W.Frag} (F : KF K) (vs : List V) (H : Hp) (Q : VK) (E : XK) (h : sp_Meshturned K vs H Q E) : Wt_Meshturned K vs H Q := by
  obtain ⟨x, ns, h, rfl, ⟨dx, l1, l2, l3, a, b, c, d⟩, hh, k⟩ := h
  show t_Meshturned K _ [some (.ref x), some (vi h)] H
  refine s_ret (ev_op (ev_fld (ev_var rfl) a F.cl F.n3 (mfs_t _ _ _)) (ev_var rfl) (rv_ixL (sq_of d) (L_at (by rw [turns_len]; exact hh)))) (fun H1 e1 => ?_)
  show Q (vi (fn (turns ns) h)) H1
  rw [fn_turns hh]
  exact k H1 e1
def sp_Meshnexts (K : PySem.W.Frag) : Sp := fun vs H Q _ => ∃ (x : Addr) (ns : List Nat), vs = [.ref x] ∧ MeshAt K H x ns ∧ ∀ p H', H p = none → Ex H H' → H' p = some (.lst (L ns)) → Q (.ref p) H'
abbrev nm_Meshnexts : List Str := ["self"]
abbrev pr_Meshnexts : List Str := ["self"]
def t_Meshnexts (K : PySem.W.Frag) : TS :=
  (tRet (tCB (cList K) (tCons (tFld K (tVar 0) "_nexts") tNil)))
abbrev Wt_Meshnexts (K : PySem.W.Frag) (vs : List V) (H : Hp) (Q : VK) : Prop := t_Meshnexts K { nx := fun _ H' => Q .non H', rt := Q } (start nm_Meshnexts vs) H
theorem ln_Meshnexts {K : PySem.W.Frag} (vs : List V) (H : Hp) (Q : VK) (E : XK) (h : sp_Meshnexts K vs H Q E) : vs.length = pr_Meshnexts.length := by
  obtain ⟨_, _, rfl, _⟩ := h
  rfl
theorem rd_Meshnexts {K : PySem.W.Frag} (F : KF K) (vs : List V) (H : Hp) (Q : VK) (E : XK) (h : sp_Meshnexts K vs H Q E) : Wt_Meshnexts K vs H Q := by
  obtain ⟨x, ns, rfl, ⟨dx, l1, l2, l3, a, b, c, d⟩, k⟩ := h
  show t_Meshnexts K _ [some (.ref x)] H
  exact s_retL (el_cb (ea_1 (ev_fld (ev_var rfl) a F.cl F.n1 (mfs_n _ _ _))) (rcl_list (sq_of b))) (fun p H1 hp e1 h1 => k p H1 hp e1 h1)
theorem spl_Meshnexts {K : PySem.W.Frag} {H : Hp} {x : Addr} {ns : List Nat} (h : MeshAt K H x ns) : SpL (sp_Meshnexts K) [.ref x] H (L ns) := fun H1 e Q q E => ⟨x, ns, rfl, h.ex e, fun p H' hp ex hq => q p H' hp ex hq⟩
theorem spv_Meshafter {K : PySem.W.Frag} {H : Hp} {x : Addr} {ns : List Nat} {h : Nat} (m : MeshAt K H x ns) (hh : h < ns.length) : SpV (sp_Meshafter K) [.ref x, vi h] H (vi (fn ns h)) := fun H1 e Q q E => ⟨x, ns, h, rfl, m.ex e, hh, q⟩
theorem spv_Meshbefore {K : PySem.W.Frag} {H : Hp} {x : Addr} {ns : List Nat} {h : Nat} (m : MeshAt K H x ns) (hh : h < ns.length) : SpV (sp_Meshbefore K) [.ref x, vi h] H (vi (bk ns h)) := fun H1 e Q q E => ⟨x, ns, h, rfl, m.ex e, hh, q⟩
theorem spv_Meshtwin {K : PySem.W.Frag} {H : Hp} {x : V} {h : Nat} : SpV (sp_Meshtwin K) [x, vi h] H (vi (tw h)) := fun H1 e Q q E => ⟨x, h, rfl, q⟩
theorem spv_Meshturned {K : PySem.W.Frag} {H : Hp} {x : Addr} {ns : List Nat} {h : Nat} (m : MeshAt K H x ns) (hh : h < ns.length) : SpV (sp_Meshturned K) [.ref x, vi h] H (vi (tw (bk ns h))) := fun H1 e Q q E => ⟨x, ns, h, rfl, m.ex e, hh, q⟩
def sp_Meshfaces (K : PySem.W.Frag) : Sp := fun vs H Q _ => ∃ (x : Addr) (ns : List Nat), vs = [.ref x] ∧ MeshAt K H x ns ∧ MP ns ∧ ∀ p H', H p = none → Ex H H' → LLn H H' p (cyc ns true) → Q (.ref p) H'
abbrev nm_Meshfaces : List Str := ["self"]
abbrev pr_Meshfaces : List Str := ["self"]
def t_Meshfaces (K : PySem.W.Frag) : TS :=
  (tRet (tCall (sp_rounds K) [] E0 (tCons (tFld K (tVar 0) "_nexts") tNil)))
abbrev Wt_Meshfaces (K : PySem.W.Frag) (vs : List V) (H : Hp) (Q : VK) : Prop := t_Meshfaces K { nx := fun _ H' => Q .non H', rt := Q } (start nm_Meshfaces vs) H
theorem ln_Meshfaces {K : PySem.W.Frag} (vs : List V) (H : Hp) (Q : VK) (E : XK) (h : sp_Meshfaces K vs H Q E) : vs.length = pr_Meshfaces.length := by
  obtain ⟨_, _, rfl, _⟩ := h
  rfl
theorem LLn.of {H0 H1 H : Hp} {p : Addr} {xss : List (List Nat)} (h : LLn H1 H p xss) (e : Ex H0 H1) : LLn H0 H p xss := by
  obtain ⟨as, h1, h2, h3⟩ := h
  exact ⟨as, h1, h2, fun a ha => ⟨fresh_back e (h3 a ha).1, (h3 a ha).2⟩⟩
theorem rd_Meshfaces {K : PySem.W.Frag} (F : KF K) (vs : List V) (H : Hp) (Q : VK) (E : XK) (h : sp_Meshfaces K vs H Q E) : Wt_Meshfaces K vs H Q := by
  obtain ⟨x, ns, rfl, ⟨dx, l1, l2, l3, a, b, c, d⟩, hM, k⟩ := h
  show t_Meshfaces K _ [some (.ref x)] H
  refine s_retC (ea_1 (ev_fld (ev_var rfl) a F.cl F.n1 (mfs_n _ _ _))) (fun H1 e1 => ?_)
  exact ⟨l1, ns, rfl, sq_of (e1 _ _ b), hM.p, hM.len, fun p H' hp ex hq => k p H' (fresh_back e1 hp) (e1.trans ex) (hq.of e1)⟩
def sp_Meshcorners (K : PySem.W.Frag) : Sp := fun vs H Q _ => ∃ (x : Addr) (ns : List Nat), vs = [.ref x] ∧ MeshAt K H x ns ∧ MP ns ∧ ∀ p H', H p = none → Ex H H' → LLn H H' p (cyc ns false) → Q (.ref p) H'
abbrev nm_Meshcorners : List Str := ["self"]
abbrev pr_Meshcorners : List Str := ["self"]
def t_Meshcorners (K : PySem.W.Frag) : TS :=
  (tRet (tCall (sp_rounds K) [] E0 (tCons (tFld K (tVar 0) "_turns") tNil)))
abbrev Wt_Meshcorners (K : PySem.W.Frag) (vs : List V) (H : Hp) (Q : VK) : Prop := t_Meshcorners K { nx := fun _ H' => Q .non H', rt := Q } (start nm_Meshcorners vs) H
theorem ln_Meshcorners {K : PySem.W.Frag} (vs : List V) (H : Hp) (Q : VK) (E : XK) (h : sp_Meshcorners K vs H Q E) : vs.length = pr_Meshcorners.length := by
  obtain ⟨_, _, rfl, _⟩ := h
  rfl
theorem rd_Meshcorners {K : PySem.W.Frag} (F : KF K) (vs : List V) (H : Hp) (Q : VK) (E : XK) (h : sp_Meshcorners K vs H Q E) : Wt_Meshcorners K vs H Q := by
  obtain ⟨x, ns, rfl, ⟨dx, l1, l2, l3, a, b, c, d⟩, hM, k⟩ := h
  show t_Meshcorners K _ [some (.ref x)] H
  refine s_retC (ea_1 (ev_fld (ev_var rfl) a F.cl F.n3 (mfs_t _ _ _))) (fun H1 e1 => ?_)
  refine ⟨l3, turns ns, rfl, sq_of (e1 _ _ d), isP_turns hM.p hM.two, by rw [turns_len]; exact hM.len, fun p H' hp ex hq => k p H' (fresh_back e1 hp) (e1.trans ex) ?_⟩
  rw [cyc_corners hM.p hM.two] at hq
  exact hq.of e1
end Hm
namespace Hm
open PySem PySem.Spec PyProof.Rows L2 Evl
section
variable {K : PySem.W.Frag} {σ : L2.St} {H : Hp} {ta tb te : TE} {D : Ends} {tz : TS}
/-- a new list of new lists -/
def EvLL (te : TE) (σ : L2.St) (H : Hp) (xss : List (List Nat)) : Prop := ∀ H1, Ex H H1 → ∀ Q : VK, (∀ p H2, H1 p = none → Ex H1 H2 → LLn H1 H2 p xss → Q (.ref p) H2) → te σ H1 Q
def SpLL (sp : Sp) (vs : List V) (H : Hp) (xss : List (List Nat)) : Prop := ∀ H1, Ex H H1 → ∀ Q : VK, (∀ p H2, H1 p = none → Ex H1 H2 → LLn H1 H2 p xss → Q (.ref p) H2) → ∀ E : XK, sp vs H1 Q E
theorem ell_call {sp : Sp} {vs : List V} {E : XK} {ta : TA} {xss : List (List Nat)} (h : EvA ta σ H vs) (hs : SpLL sp vs H xss) : EvLL (tCall sp [] E ta) σ H xss := fun H1 e Q q =>
  h H1 e _ fun H2 e2 => by
    show sp (vs ++ []) H2 _ E
    rw [List.append_nil]
    exact hs H2 (e.trans e2) Q (fun p H3 hp e3 h3 => q p H3 (fresh_back e2 hp) (e2.trans e3) (h3.of e2)) E
theorem ell_meth {a C dx : Addr} {fs : List (Str × V)} {m : Str} {sp : Sp} {ta : TE} {tb : TA} {vs : List V} {xss : List (List Nat)} {E : XK} (h : Ev ta σ H (.ref a)) (ho : H a = some (.ins C dx fs)) (hl : fs.lookup m = none) (ha : EvA tb σ H vs) (hs : SpLL sp (.ref a :: vs) H xss) : EvLL (tMeth C m sp [] E ta tb) σ H xss := fun H1 e Q q =>
  h H1 e _ fun H2 e2 => ⟨a, dx, fs, rfl, e2 _ _ (e _ _ ho), hl, ha H2 (e.trans e2) _ fun H3 e3 => by
    have e4 := (e.trans e2).trans e3
    have q2 := hs H3 e4 Q (fun p H4 hp e5 h5 => q p H4 (fresh_back (e2.trans e3) hp) ((e2.trans e3).trans e5) (h5.of (e2.trans e3))) E
    simpa using q2⟩
theorem ev_eqLL {a : Addr} {xss yss : List (List Nat)} (ha : Ev ta σ H (.ref a)) (h : LL H a xss) (hb : EvLL tb σ H yss) : Ev (tOp (rEqD K) ta tb) σ H (.bl (decide (xss = yss))) := fun H1 e Q q =>
  ha H1 e _ fun H2 e2 => hb H2 (e.trans e2) _ fun p H3 hp e3 h3 => rv_eqNN (h.ex ((e.trans e2).trans e3)) h3.ll H3 (Ex.refl H3) Q fun H4 e4 => q H4 ((e2.trans e3).trans e4)
theorem ev_neLL {a : Addr} {xss yss : List (List Nat)} (ha : Ev ta σ H (.ref a)) (h : LL H a xss) (hb : EvLL tb σ H yss) : Ev (tOp (rNeD K) ta tb) σ H (.bl (!decide (xss = yss))) := fun H1 e Q q =>
  ha H1 e _ fun H2 e2 => hb H2 (e.trans e2) _ fun p H3 hp e3 h3 => rv_neNN (h.ex ((e.trans e2).trans e3)) h3.ll H3 (Ex.refl H3) Q fun H4 e4 => q H4 ((e2.trans e3).trans e4)
theorem q_asgLL {i : Nat} {xss : List (List Nat)} (h : EvLL te σ H xss) (k : ∀ p H1, H p = none → Ex H H1 → LLn H H1 p xss → tz D (σ.set i (some (.ref p))) H1) : tSeq (tAsg te (gName i)) tz D σ H := h H (Ex.refl H) _ fun p H1 hp e h1 => k p H1 hp e h1
theorem spll_Lrounds {a : Addr} {ns : List Nat} {b : Bool} (hS : SqL K H a (L ns)) (hM : MP ns) : SpLL (sp_Lrounds K) [.ref a, .bl b] H (cyc ns b) := fun H1 e Q q E => ⟨a, ns, b, rfl, ex_l e hS, hM.p, hM.two, hM.len, fun p H' hp ex h => q p H' hp ex h⟩
theorem spll_faces {x : Addr} {ns : List Nat} (m : MeshAt K H x ns) (hM : MP ns) : SpLL (sp_Meshfaces K) [.ref x] H (cyc ns true) := fun H1 e Q q E => ⟨x, ns, rfl, m.ex e, hM, fun p H' hp ex h => q p H' hp ex h⟩
theorem spll_corners {x : Addr} {ns : List Nat} (m : MeshAt K H x ns) (hM : MP ns) : SpLL (sp_Meshcorners K) [.ref x] H (cyc ns false) := fun H1 e Q q E => ⟨x, ns, rfl, m.ex e, hM, fun p H' hp ex h => q p H' hp ex h⟩
theorem noM {m : Str} (l1 l2 l3 : Addr) (h : (decide (m = "_nexts") || decide (m = "_prevs") || decide (m = "_turns")) = false) : (mfs l1 l2 l3).lookup m = none := by
  simp only [Bool.or_eq_false_iff, decide_eq_false_iff_not] at h
  exact mfs_no _ _ _ h.1.1 h.1.2 h.2
/-- a method of a mesh that gives a value, a new list, a new list of lists -/
theorem ev_mm {x : Addr} {ns : List Nat} {m : Str} {sp : Sp} {tb : TA} {vs : List V} {v : V} {E : XK} (mm : MeshAt K H x ns) (h : Ev ta σ H (.ref x)) (hm : (decide (m = "_nexts") || decide (m = "_prevs") || decide (m = "_turns")) = false) (ha : EvA tb σ H vs) (hs : SpV sp (.ref x :: vs) H v) : Ev (tMeth (He.ga K "Mesh") m sp [] E ta tb) σ H v := by
  obtain ⟨dx, l1, l2, l3, a, _⟩ := mm
  exact ev_meth h a (noM _ _ _ hm) ha hs
theorem el_mm {x : Addr} {ns : List Nat} {m : Str} {sp : Sp} {tb : TA} {vs xs : List V} {E : XK} (mm : MeshAt K H x ns) (h : Ev ta σ H (.ref x)) (hm : (decide (m = "_nexts") || decide (m = "_prevs") || decide (m = "_turns")) = false) (ha : EvA tb σ H vs) (hs : SpL sp (.ref x :: vs) H xs) : EvL (tMeth (He.ga K "Mesh") m sp [] E ta tb) σ H xs := by
  obtain ⟨dx, l1, l2, l3, a, _⟩ := mm
  exact el_meth h a (noM _ _ _ hm) ha hs
theorem ell_mm {x : Addr} {ns : List Nat} {m : Str} {sp : Sp} {tb : TA} {vs : List V} {xss : List (List Nat)} {E : XK} (mm : MeshAt K H x ns) (h : Ev ta σ H (.ref x)) (hm : (decide (m = "_nexts") || decide (m = "_prevs") || decide (m = "_turns")) = false) (ha : EvA tb σ H vs) (hs : SpLL sp (.ref x :: vs) H xss) : EvLL (tMeth (He.ga K "Mesh") m sp [] E ta tb) σ H xss := by
  obtain ⟨dx, l1, l2, l3, a, _⟩ := mm
  exact ell_meth h a (noM _ _ _ hm) ha hs
theorem q_call2 {sp1 sp2 : Sp} {E1 E2 : XK} {tc tr : TA} {vs1 : List V} {i : Nat} (h : EvA tc σ H vs1) (k : ∀ H1, Ex H H1 → sp2 vs1 H1 (fun v H2 => tr σ H2 fun ws H3 => sp1 (v :: ws) H3 (fun v' H4 => tz D (σ.set i (some v')) H4) E1) E2) :
    tSeq (tAsg (tCall sp1 [] E1 (tCons (tCall sp2 [] E2 tc) tr)) (gName i)) tz D σ H :=
  h H (Ex.refl H) _ fun H1 e1 => by
    have q := k H1 e1
    rw [← List.append_nil vs1] at q
    have e : (fun v H2 => tr σ H2 fun ws H3 => sp1 (v :: ws) H3 (fun v' H4 => tz D (σ.set i (some v')) H4) E1) = (fun v H2 => tr σ H2 fun ws H3 => sp1 ((v :: ws) ++ []) H3 (fun v' H4 => tz D (σ.set i (some v')) H4) E1) := by
      funext v H2
      congr 1
      funext ws H3
      rw [List.append_nil]
    rw [e] at q
    exact q
/-- i = _law_nexts(_law_tape(script, k), edges) -/
theorem q_nexts {i j : Nat} {a : Addr} {zs : List Int} {k : Int} {e : Nat} {E1 E2 : XK} (hs : σ[0]? = some (some (.ref a))) (hS : SqL K H a (zs.map V.int)) (k0 : 0 ≤ k) (k1 : k ≤ 100) (he : σ[j]? = some (some (.int (e : Int)))) (h60 : e ≤ 60)
    (kk : ∀ p ns H1, H p = none → Ex H H1 → H1 p = some (.lst (L ns)) → IsP ns → ns.length = 2 * e → tz D (σ.set i (some (.ref p))) H1) :
    tSeq (tAsg (tCall (sp_Lnexts K) [] E1 (tCons (tCall (sp_Ltape K) [] E2 (tCons (tVar 0) (tCons (tC (.int k)) tNil))) (tCons (tVar j) tNil))) (gName i)) tz D σ H := by
  refine q_call2 (ea_2 (ev_var hs) ev_c) fun H1 e1 => ?_
  refine ⟨a, zs, k, rfl, ex_l e1 hS, k0, k1, fun t H2 ht tp e2 => ⟨_, he, ?_⟩⟩
  refine ⟨t, e, rfl, tp, h60, fun p H' ns hp h1 h2 h3 _ x2 => ?_⟩
  have ht0 := fresh_back e1 ht
  have ex : Ex H H' := fun b o hb => x2 b o (ne_of_none hb ht0) (e2 b o (e1 b o hb))
  exact kk p ns H' (fresh_back (e1.trans e2) hp) ex h1 h2 h3
/-- [x for x in xs] -/
theorem el_copy {a : Addr} {ns : List Nat} {j : Nat} (h : Ev ta σ H (.ref a)) (hS : SqL K H a (L ns)) (hz : ns.length ≤ 1000) (hw : ∀ x, wipe ((wipe σ [j]).set j (some x)) [j] = wipe σ [j]) (hj : ∀ x, ((wipe σ [j]).set j (some x))[j]? = some (some x)) : EvL (tLc (iList K ta) (gName j) tYes (tVar j) [j]) σ H (L ns) := by
  have := el_lcL (K := K) (σ := σ) (H := H) (j := j) (vs := [j]) (tl := ta) (t := tYes) (te := tVar j) (fun _ => true) (fun i => vi (fn ns i)) h hS (by rw [L_len]; omega) hw (fun i x H1 _ _ => et_yes) (fun i x H1 _ hx _ => by
    obtain ⟨q1, rfl⟩ := L_item hx
    exact ev_var (hj _))
  rw [given_all] at this
  have e : (List.range (L ns).length).map (fun i => vi (fn ns i)) = L ns := by
    refine List.ext_getElem? fun j => ?_
    rw [L_len]
    by_cases hj : j < ns.length
    · rw [List.getElem?_map, List.getElem?_range hj, L_get hj]
      rfl
    · rw [List.getElem?_eq_none (by rw [List.length_map, List.length_range]; omega), List.getElem?_eq_none (by rw [L_len]; omega)]
  rw [e] at this
  exact this
theorem rc_isL {p : Addr} {xs : List V} (h : H p = some (.lst xs)) : RC (rIsi K) [.ref p, .ty "list"] H (.bl true) :=
  rc_isi (.ty "list") (fun H1 e => .base (.lst (e _ _ h))) (kit_ty (by decide +kernel))
end
end Hm
namespace K11
open PySem PySem.Spec PyProof.Rows L2 Evl Hm
def sp_Lright (K : PySem.W.Frag) : Sp := fun vs H Q _ => ∃ (x a : Addr) (ns : List Nat), vs = [.ref x, .ref a] ∧ MeshAt K H x ns ∧ SqL K H a (L ns) ∧ MP ns ∧ ∀ H', Ex H H' → Q (.bl true) H'
abbrev nm_Lright : List Str := ["_law_mesh", "_law_nexts_here", "_law_half", "_law_faces", "_law_corners"]
abbrev pr_Lright : List Str := ["_law_mesh", "_law_nexts_here"]
def t_Lright (K : PySem.W.Frag) : TS :=
  (tSeq (tIfS (tTest (tOp (rNeD K) (tMeth (He.ga K "Mesh") "nexts" (sp_Meshnexts K) [] E0 (tVar 0) tNil) (tVar 1))) (tRet (tC (.bl false))) tNext)
  (tSeq (tFor (iRng1 (tCons (tCB (cLen K) (tCons (tVar 1) tNil)) tNil)) (gName 2) (tSeq (tIfS (tOr (tTest (tOp rNe (tMeth (He.ga K "Mesh") "after" (sp_Meshafter K) [] E0 (tVar 0) (tCons (tVar 2) tNil)) (tOp (rIxL K) (tVar 1) (tVar 2)))) (tTest (tOp rNe (tMeth (He.ga K "Mesh") "before" (sp_Meshbefore K) [] E0 (tVar 0) (tCons (tOp (rIxL K) (tVar 1) (tVar 2)) tNil)) (tVar 2)))) (tRet (tC (.bl false))) tNext)
      (tIfS (tOr (tTest (tOp rNe (tMeth (He.ga K "Mesh") "twin" (sp_Meshtwin K) [] E0 (tVar 0) (tCons (tVar 2) tNil)) (tCall (sp_Ltwin K) [] E0 (tCons (tVar 2) tNil)))) (tTest (tOp rNe (tMeth (He.ga K "Mesh") "turned" (sp_Meshturned K) [] E0 (tVar 0) (tCons (tVar 2) tNil)) (tCall (sp_Lturned K) [] E0 (tCons (tVar 1) (tCons (tVar 2) tNil)))))) (tRet (tC (.bl false))) tNext)))
  (tSeq (tAsg (tMeth (He.ga K "Mesh") "faces" (sp_Meshfaces K) [] E0 (tVar 0) tNil) (gName 3))
  (tSeq (tAsg (tMeth (He.ga K "Mesh") "corners" (sp_Meshcorners K) [] E0 (tVar 0) tNil) (gName 4))
  (tSeq (tIfS (tOr (tNot (tB (tCB (rIsi K) (tCons (tVar 3) (tCons (tC (.ty "list")) tNil))))) (tTest (tOp (rNeD K) (tVar 3) (tCall (sp_Lrounds K) [] E0 (tCons (tVar 1) (tCons (tC (.bl true)) tNil)))))) (tRet (tC (.bl false))) tNext)
  (tRet (tAndV (tCB (rIsi K) (tCons (tVar 4) (tCons (tC (.ty "list")) tNil))) (tOp (rEqD K) (tVar 4) (tCall (sp_Lrounds K) [] E0 (tCons (tVar 1) (tCons (tC (.bl false)) tNil)))))))))))
abbrev Wt_Lright (K : PySem.W.Frag) (vs : List V) (H : Hp) (Q : VK) : Prop := t_Lright K { nx := fun _ H' => Q .non H', rt := Q } (start nm_Lright vs) H
theorem ln_Lright {K : PySem.W.Frag} (vs : List V) (H : Hp) (Q : VK) (E : XK) (h : sp_Lright K vs H Q E) : vs.length = pr_Lright.length := by
  obtain ⟨_, _, _, rfl, _⟩ := h
  rfl
theorem rd_Lright {K : PySem.W.Frag} (F : KF K) (vs : List V) (H : Hp) (Q : VK) (E : XK) (h : sp_Lright K vs H Q E) : Wt_Lright K vs H Q := by
  obtain ⟨x, a, ns, rfl, hm, hS, hM, k⟩ := h
  show t_Lright K _ [some (.ref x), some (.ref a), none, none, none] H
  refine q_when (b := !decide (ns = ns)) (et_test (ev_opL1 (el_mm hm (ev_var rfl) (by decide +kernel) ea_nil (spl_Meshnexts hm)) (fun H1 e1 => ev_var rfl) (fun p H1 hp e1 => rv_neN (sq_of hp) (ex_l e1 hS)))) (fun hb => ?_) (fun _ H1 e1 => ?_)
  · rw [decide_eq_true rfl] at hb
    cases hb
  refine q_forR1 (n := (ns.length : Int)) (ea_1 (ev_is (ev_cb (ea_1 (ev_var rfl)) (rc_len (ex_l e1 hS))) (by rw [L_len]))) (by have := hM.len; omega) (fun i σ' H' => ∃ v, σ' = [some (.ref x), some (.ref a), v, none, none] ∧ Ex H H') ?_ ?_ ?_
  · intro H2 e2
    exact ⟨_, rfl, e1.trans e2⟩
  · rintro i σ' H' hi ⟨v, rfl, ex⟩
    have hi' : i < ns.length := by omega
    have hm' := hm.ex ex
    have hS' := ex_l ex hS
    have hf := (pf_fn hM.p).lt i hi'
    have ix : ∀ σ H1, σ[1]? = some (some (V.ref a)) → σ[2]? = some (some (vi i)) → Ex H H1 → Ev (tOp (rIxL K) (tVar 1) (tVar 2)) σ H1 (vi (fn ns i)) := fun σ H1 s1 s2 e => ev_op (ev_var s1) (ev_var s2) (rv_ixL (ex_l e hS) (L_at hi'))
    refine q_when (b := (!decide (vi (fn ns i) = vi (fn ns i))) || (!decide (vi (bk ns (fn ns i)) = vi i))) (et_or (et_test (ev_op (ev_mm hm' (ev_var rfl) (by decide +kernel) (ea_1 (ev_var rfl)) (spv_Meshafter hm' hi')) (ix _ _ rfl rfl ex) (rv_ne rfl))) (fun _ => et_test (ev_op (ev_mm hm' (ev_var rfl) (by decide +kernel) (ea_1 (ix _ _ rfl rfl ex)) (spv_Meshbefore hm' hf)) (ev_var rfl) (rv_ne rfl)))) (fun hb => ?_) (fun _ H1 e1 => ?_)
    · rw [bk_fn hM.p hi', decide_eq_true rfl, decide_eq_true rfl] at hb
      cases hb
    · have ex1 := ex.trans e1
      have hm1 := hm.ex ex1
      refine s_when (b := (!decide (vi (tw i) = vi (tw i))) || (!decide (vi (tw (bk ns i)) = vi (tw (bk ns i))))) (et_or (et_test (ev_op (ev_mm hm1 (ev_var rfl) (by decide +kernel) (ea_1 (ev_var rfl)) spv_Meshtwin) (ev_call (ea_1 (ev_var rfl)) (spv_Ltwin i)) (rv_ne rfl))) (fun _ => et_test (ev_op (ev_mm hm1 (ev_var rfl) (by decide +kernel) (ea_1 (ev_var rfl)) (spv_Meshturned hm1 hi')) (ev_call (ea_2 (ev_var rfl) (ev_var rfl)) (spv_Lturned (ex_l ex1 hS) hM.p hM.len hi')) (rv_ne rfl)))) (fun hb => ?_) (fun _ H2 e2 => ⟨_, rfl, ex1.trans e2⟩)
      rw [decide_eq_true rfl, decide_eq_true rfl] at hb
      cases hb
  · rintro σ' H' ⟨v, rfl, ex⟩
    have hm' := hm.ex ex
    refine q_asgLL (ell_mm hm' (ev_var rfl) (by decide +kernel) ea_nil (spll_faces hm' hM)) (fun pf H2 hpf e2 h2 => ?_)
    have hm2 := hm'.ex e2
    refine q_asgLL (ell_mm hm2 (ev_var rfl) (by decide +kernel) ea_nil (spll_corners hm2 hM)) (fun pc H3 hpc e3 h3 => ?_)
    have ex3 := ex.trans (e2.trans e3)
    have l2 := h2.ll.ex e3
    obtain ⟨as2, q2, _⟩ := id l2
    refine q_when (b := !true || !decide (cyc ns true = cyc ns true)) (et_or (et_not (et_B (ev_cb (ea_2 (ev_var rfl) ev_c) (rc_isL q2)))) (fun _ => et_test (ev_neLL (ev_var rfl) l2 (ell_call (ea_2 (ev_var rfl) ev_c) (spll_Lrounds (ex_l ex3 hS) hM))))) (fun hb => ?_) (fun _ H4 e4 => ?_)
    · rw [decide_eq_true rfl] at hb
      cases hb
    · have l3 := h3.ll.ex e4
      obtain ⟨as3, q3, _⟩ := id l3
      refine s_ret (v := .bl (true && decide (cyc ns false = cyc ns false))) (ev_andV (ev_cb (ea_2 (ev_var rfl) ev_c) (rc_isL q3)) (fun _ => ev_eqLL (ev_var rfl) l3 (ell_call (ea_2 (ev_var rfl) ev_c) (spll_Lrounds (ex_l (ex3.trans e4) hS) hM)))) (fun H5 e5 => ?_)
      rw [decide_eq_true rfl]
      exact k H5 (ex3.trans (e4.trans e5))
theorem spv_Lright {K : PySem.W.Frag} {H : Hp} {x a : Addr} {ns : List Nat} (hm : MeshAt K H x ns) (hS : SqL K H a (L ns)) (hM : MP ns) : SpV (sp_Lright K) [.ref x, .ref a] H (.bl true) := fun H1 e Q q E => ⟨x, a, ns, rfl, hm.ex e, ex_l e hS, hM, q⟩
end K11
namespace Hm
open PySem PySem.Spec PyProof.Rows L2 Evl
section
variable {K : PySem.W.Frag} {σ : L2.St} {H : Hp} {ta tb te : TE} {D : Ends} {tz : TS} {v : V}
/-- f(..).append(e), on a new list -/
theorem s_appN {xs : List V} (ha : EvL ta σ H xs) (h : ∀ H1, Ex H H1 → Ev te σ H1 v) (hz : xs.length < 100000) (k : ∀ p H1, H p = none → Ex H H1 → D.nx σ (upd H1 p (.lst (xs ++ [v])))) :
    tDrop (tBM K "list" rAppend ta (tCons te tNil)) D σ H := ha H (Ex.refl H) _ fun p H1 hp e1 h1 =>
  ⟨Or.inl ⟨rfl, xs, sq_of h1⟩, h H1 e1 H1 (Ex.refl H1) _ fun H2 e2 => ⟨p, xs, v, rfl, rfl, e2 _ _ h1, sz_lt hz, k p H2 hp (e1.trans e2)⟩⟩
/-- f(..) as a statement -/
theorem q_dropC {sp : Sp} {E : XK} {ta : TA} {vs : List V} (h : EvA ta σ H vs) (k : ∀ H1, Ex H H1 → sp vs H1 (fun _ H2 => tz D σ H2) E) : tSeq (tDrop (tCall sp [] E ta)) tz D σ H :=
  h H (Ex.refl H) _ fun H1 e => by
    show sp (vs ++ []) H1 _ E
    rw [List.append_nil]
    exact k H1 e
end
theorem LA.items {H : Hp} {as : List Addr} {xss : List (List Nat)} (h : LA H as xss) : ∀ a ∈ as, ∃ xs ∈ xss, H a = some (.lst (L xs)) := by
  induction h with
  | nil => intro a ha; cases ha
  | cons r t ih =>
    intro a ha
    rcases List.mem_cons.mp ha with rfl | ha
    · exact ⟨_, List.mem_cons_self .., r⟩
    · obtain ⟨xs, m, q⟩ := ih a ha
      exact ⟨xs, List.mem_cons_of_mem _ m, q⟩
theorem cyc_item {ns : List Nat} (hM : MP ns) {b : Bool} {xs : List Nat} (h : xs ∈ cyc ns b) : xs.length ≤ 1000 := by
  obtain ⟨x, hx, rfl⟩ := List.mem_map.mp h
  have hx := List.mem_range.mp (List.mem_filter.mp hx).1
  rw [rnd_length]
  have := (per_spec (pf_stp hM.p hM.two b) hx).2.1
  have := hM.len
  omega
theorem cyc_len {ns : List Nat} (hM : MP ns) (b : Bool) : (cyc ns b).length ≤ 1000 := by
  have := cycs_len (stp ns b) ns.length ns.length
  have := hM.len
  unfold cyc
  omega
end Hm
namespace K11
open PySem PySem.Spec PyProof.Rows L2 Evl Hm
def sp_Lspoil (K : PySem.W.Frag) : Sp := fun vs H Q _ => ∃ (x : Addr) (ns : List Nat), vs = [.ref x] ∧ MeshAt K H x ns ∧ MP ns ∧ ∀ H', Ex H H' → Q .non H'
abbrev nm_Lspoil : List Str := ["_law_mesh", "_law_found", "_law_members"]
abbrev pr_Lspoil : List Str := ["_law_mesh"]
def t_Lspoil (K : PySem.W.Frag) : TS :=
  (tSeq (tFor (iList K (tLst (tCons (tMeth (He.ga K "Mesh") "faces" (sp_Meshfaces K) [] E0 (tVar 0) tNil) (tCons (tMeth (He.ga K "Mesh") "corners" (sp_Meshcorners K) [] E0 (tVar 0) tNil) tNil)))) (gName 1) (tSeq (tFor (iList K (tVar 1)) (gName 2) (tDrop (tBM K "list" rAppend (tVar 2) (tCons (tC (.int 99)) tNil))))
      (tDrop (tBM K "list" rAppend (tVar 1) (tCons (tLst (tCons (tC (.int 98)) tNil)) tNil)))))
  (tDrop (tBM K "list" rAppend (tMeth (He.ga K "Mesh") "nexts" (sp_Meshnexts K) [] E0 (tVar 0) tNil) (tCons (tC (.int 97)) tNil))))
abbrev Wt_Lspoil (K : PySem.W.Frag) (vs : List V) (H : Hp) (Q : VK) : Prop := t_Lspoil K { nx := fun _ H' => Q .non H', rt := Q } (start nm_Lspoil vs) H
theorem ln_Lspoil {K : PySem.W.Frag} (vs : List V) (H : Hp) (Q : VK) (E : XK) (h : sp_Lspoil K vs H Q E) : vs.length = pr_Lspoil.length := by
  obtain ⟨_, _, rfl, _⟩ := h
  rfl
/-- the inner lists: not tracked ahead, each some list of bearable length -/
def Inn (H0 H : Hp) (S : List Addr) (ps : List Addr) (n : Nat) : Prop := ∀ a ∈ S, H0 a = none ∧ (∀ p ∈ ps, a ≠ p) ∧ ∃ ys, H a = some (.lst ys) ∧ ys.length ≤ n
theorem Inn.ex {H0 H H' : Hp} {S ps : List Addr} {n : Nat} (h : Inn H0 H S ps n) (e : Ex H H') : Inn H0 H' S ps n := fun a ha => by
  obtain ⟨h1, h2, ys, h3, h4⟩ := h a ha
  exact ⟨h1, h2, ys, e _ _ h3, h4⟩
theorem Inn.app {H0 H : Hp} {S ps : List Addr} {n : Nat} {b : Addr} {ys : List V} (h : Inn H0 H S ps n) (hl : ys.length ≤ n + 1) : Inn H0 (upd H b (.lst ys)) S ps (n + 1) := fun a ha => by
  obtain ⟨h1, h2, zs, h3, h4⟩ := h a ha
  refine ⟨h1, h2, ?_⟩
  by_cases e : a = b
  · rw [e, upd_same]
    exact ⟨ys, rfl, hl⟩
  · rw [upd_ne e]
    exact ⟨zs, h3, by omega⟩
theorem Inn.out {H0 H : Hp} {S ps : List Addr} {n : Nat} {p : Addr} {o : HO} (h : Inn H0 H S ps n) (hp : p ∈ ps) : Inn H0 (upd H p o) S ps n := fun a ha => by
  obtain ⟨h1, h2, zs, h3, h4⟩ := h a ha
  refine ⟨h1, h2, zs, ?_, h4⟩
  rw [upd_ne (h2 p hp)]
  exact h3
/-- one list of lists: each inner one gets a further item, then it itself -/
theorem spoil_one {K : PySem.W.Frag} {H0 : Hp} {x pl p1 p2 p : Addr} {S : List Addr} {as : List Addr} {n : Nat} {v2 : Option V} {H : Hp} {D : Ends} (hp : p = p1 ∨ p = p2) (hpl : p ≠ pl) (h1 : H p = some (.lst (as.map V.ref))) (has : ∀ a ∈ as, a ∈ S) (hal : as.length ≤ 1000) (hI : Inn H0 H S [pl, p1, p2] n) (hn : n ≤ 10000)
    (h00 : H0 p = none) (ex : Ex H0 H) (k : ∀ v2' H', Ex H0 H' → (∀ b o, b ∉ S → b ≠ p → H b = some o → H' b = some o) → Inn H0 H' S [pl, p1, p2] (n + 1000) → D.nx [some (.ref x), some (.ref p), v2'] H') :
    (tSeq (tFor (iList K (tVar 1)) (gName 2) (tDrop (tBM K "list" rAppend (tVar 2) (tCons (tC (.int 99)) tNil)))) (tDrop (tBM K "list" rAppend (tVar 1) (tCons (tLst (tCons (tC (.int 98)) tNil)) tNil)))) D [some (.ref x), some (.ref p), v2] H := by
  have hpm : p ∈ [pl, p1, p2] := by
    rcases hp with rfl | rfl
    · exact List.mem_cons_of_mem _ (List.mem_cons_self ..)
    · exact List.mem_cons_of_mem _ (List.mem_cons_of_mem _ (List.mem_cons_self ..))
  have hps : p ∉ S := fun h => by
    have := (hI p h).2.1 p hpm
    exact this rfl
  refine q_forLn (ev_var rfl) (sq_of h1) (fun i σ' H' => ∃ w, σ' = [some (.ref x), some (.ref p), w] ∧ Ex H0 H' ∧ (∀ b o, b ∉ S → H b = some o → H' b = some o) ∧ Inn H0 H' S [pl, p1, p2] (n + i)) ?_ ?_ ?_ ?_
  · intro H1 e1
    exact ⟨_, rfl, ex.trans e1, fun b o _ q => e1 b o q, hI.ex e1⟩
  · rintro i σ' H' _ ⟨w, rfl, e, f, _⟩
    exact sq_of (f p _ hps h1)
  · rintro i y σ' H' hy ⟨w, rfl, e, f, g⟩
    have hi : i < as.length := by
      have := (List.getElem?_eq_some_iff.mp hy).1
      rwa [List.length_map] at this
    rw [List.getElem?_map, List.getElem?_eq_getElem hi] at hy
    have hy : V.ref as[i] = y := Option.some.inj hy
    subst hy
    have hmem := has _ (List.getElem_mem hi)
    obtain ⟨g1, g2, ys, g3, g4⟩ := g _ hmem
    refine s_app g3 (ev_var rfl) ev_c (by omega) (fun H2 e2 => ?_)
    refine ⟨_, rfl, Ex.mut (e.trans e2) g1, fun b o hb q => ?_, (g.ex e2).app (by rw [List.length_append]; show ys.length + 1 ≤ n + i + 1; omega)⟩
    rw [upd_ne (fun z => hb (by rw [z]; exact hmem))]
    exact e2 _ _ (f b o hb q)
  · rintro σ' H' ⟨w, rfl, e, f, g⟩
    rw [List.length_map] at g
    refine s_appL (ys := [V.int 98]) (f p _ hps h1) (ev_var rfl) (el_lst (ea_1 ev_c) (by show 1 ≤ 100000; decide)) (by rw [List.length_map]; omega) (fun q H2 hq e2 h2 => ?_)
    refine k _ _ (Ex.mut (e.trans e2) h00) (fun b o hb hbp q => ?_) (fun a ha => ?_)
    · rw [upd_ne hbp]
      exact e2 _ _ (f b o hb q)
    · obtain ⟨g1, g2, zs, g3, g4⟩ := ((g.ex e2).out (o := .lst (as.map V.ref ++ [.ref q])) hpm) a ha
      exact ⟨g1, g2, zs, g3, by omega⟩
theorem rd_Lspoil {K : PySem.W.Frag} (F : KF K) (vs : List V) (H : Hp) (Q : VK) (E : XK) (h : sp_Lspoil K vs H Q E) : Wt_Lspoil K vs H Q := by
  obtain ⟨x, ns, rfl, hm, hM, k⟩ := h
  show t_Lspoil K _ [some (.ref x), none, none] H
  have hf : EvLL (tMeth (He.ga K "Mesh") "faces" (sp_Meshfaces K) [] E0 (tVar 0) tNil) [some (.ref x), none, none] H (cyc ns true) := ell_mm hm (ev_var rfl) (by decide +kernel) ea_nil (spll_faces hm hM)
  have hc : EvLL (tMeth (He.ga K "Mesh") "corners" (sp_Meshcorners K) [] E0 (tVar 0) tNil) [some (.ref x), none, none] H (cyc ns false) := ell_mm hm (ev_var rfl) (by decide +kernel) ea_nil (spll_corners hm hM)
  refine hf H (Ex.refl H) _ fun p1 H1 hp1 e1 l1 => hc H1 e1 _ fun p2 H2 hp2 e2 l2 => ⟨by show 2 ≤ sizeLine; decide, fun pl hpl => ⟨pl, rfl, ⟨_, sq_of upd_same⟩, ?_⟩⟩
  obtain ⟨as1, a1, b1, c1⟩ := l1
  obtain ⟨as2, a2, b2, c2⟩ := l2
  have hpl0 : H pl = none := fresh_back (e1.trans e2) hpl
  have n1 : p1 ≠ pl := ne_of_none (e2 _ _ a1) hpl
  have n2 : p2 ≠ pl := ne_of_none a2 hpl
  have n12 : p1 ≠ p2 := ne_of_none a1 hp2
  have exl : Ex H2 (upd H2 pl (.lst [.ref p1, .ref p2])) := Ex.new hpl
  have len1 : as1.length ≤ 1000 := by rw [Paired.length b1]; exact cyc_len hM true
  have len2 : as2.length ≤ 1000 := by rw [Paired.length b2]; exact cyc_len hM false
  have f1 : ∀ a ∈ as1, a ≠ pl ∧ a ≠ p2 := fun a ha => by
    obtain ⟨xs, _, q⟩ := LA.items b1 a ha
    exact ⟨ne_of_none (e2 _ _ q) hpl, ne_of_none q hp2⟩
  have f2 : ∀ a ∈ as2, a ≠ pl ∧ a ≠ p1 := fun a ha => by
    obtain ⟨xs, _, q⟩ := LA.items b2 a ha
    exact ⟨ne_of_none q hpl, (ne_of_none a1 (c2 a ha).1).symm⟩
  have hI : Inn H (upd H2 pl (.lst [.ref p1, .ref p2])) (as1 ++ as2) [pl, p1, p2] 1000 := fun a ha => by
    rcases List.mem_append.mp ha with ha | ha
    · obtain ⟨xs, m, q⟩ := LA.items b1 a ha
      refine ⟨(c1 a ha).1, fun p hp => ?_, L xs, exl _ _ (e2 _ _ q), by rw [L_len]; exact cyc_item hM m⟩
      rcases List.mem_cons.mp hp with rfl | hp
      · exact (f1 a ha).1
      · rcases List.mem_cons.mp hp with rfl | hp
        · exact (c1 a ha).2
        · rw [List.mem_singleton.mp hp]
          exact (f1 a ha).2
    · obtain ⟨xs, m, q⟩ := LA.items b2 a ha
      refine ⟨fresh_back e1 (c2 a ha).1, fun p hp => ?_, L xs, exl _ _ q, by rw [L_len]; exact cyc_item hM m⟩
      rcases List.mem_cons.mp hp with rfl | hp
      · exact (f2 a ha).1
      · rcases List.mem_cons.mp hp with rfl | hp
        · exact (f2 a ha).2
        · rw [List.mem_singleton.mp hp]
          exact (c2 a ha).2
  have ex0 : Ex H (upd H2 pl (.lst [.ref p1, .ref p2])) := (e1.trans e2).trans exl
  have hp20 : H p2 = none := fresh_back e1 hp2
  have nS : ∀ {H' : Hp} {n : Nat} {p : Addr}, Inn H H' (as1 ++ as2) [pl, p1, p2] n → p ∈ [pl, p1, p2] → p ∉ as1 ++ as2 := fun {H' n p} hi hp hq => (hi p hq).2.1 p hp rfl
  refine for_list (xs := [V.ref p1, V.ref p2]) (fun i σ' H' => ∃ v1 v2, σ' = [some (.ref x), v1, v2] ∧ Ex H H' ∧ H' pl = some (.lst [.ref p1, .ref p2]) ∧ (i ≤ 0 → H' p1 = some (.lst (as1.map V.ref))) ∧ (i ≤ 1 → H' p2 = some (.lst (as2.map V.ref))) ∧ Inn H H' (as1 ++ as2) [pl, p1, p2] (1000 + 1000 * i)) ?_ ?_ ?_ ?_
  · exact ⟨_, _, rfl, ex0, upd_same, fun _ => exl _ _ (e2 _ _ a1), fun _ => exl _ _ a2, hI⟩
  · rintro i σ' H' _ ⟨v1, v2, rfl, _, q, _⟩
    exact sq_of q
  · rintro i y σ' H' hy ⟨v1, v2, rfl, ex, q0, q1, q2, hi⟩
    have hcase : i = 0 ∧ y = V.ref p1 ∨ i = 1 ∧ y = V.ref p2 := by
      match i, hy with
      | 0, hy => exact .inl ⟨rfl, (Option.some.inj hy).symm⟩
      | 1, hy => exact .inr ⟨rfl, (Option.some.inj hy).symm⟩
      | n + 2, hy => cases hy
    rcases hcase with ⟨rfl, rfl⟩ | ⟨rfl, rfl⟩
    · refine spoil_one (S := as1 ++ as2) (.inl rfl) n1 (q1 (Nat.le_refl _)) (fun a ha => List.mem_append_left _ ha) len1 hi (by decide) hp1 ex (fun v2' H3 x3 k3 i3 => ?_)
      refine ⟨_, _, rfl, x3, k3 _ _ (nS hi (List.mem_cons_self ..)) n1.symm q0, fun h => absurd h (by decide), fun _ => k3 _ _ (nS hi (List.mem_cons_of_mem _ (List.mem_cons_of_mem _ (List.mem_cons_self ..)))) n12.symm (q2 (by decide)), ?_⟩
      exact i3
    · refine spoil_one (S := as1 ++ as2) (.inr rfl) n2 (q2 (Nat.le_refl _)) (fun a ha => List.mem_append_right _ ha) len2 hi (by decide) hp20 ex (fun v2' H3 x3 k3 i3 => ?_)
      refine ⟨_, _, rfl, x3, k3 _ _ (nS hi (List.mem_cons_self ..)) n2.symm q0, fun h => absurd h (by decide), fun h => absurd h (by decide), ?_⟩
      exact i3
  · rintro σ' H' ⟨v1, v2, rfl, ex, _⟩
    have hm' := hm.ex ex
    refine s_appN (el_mm hm' (ev_var rfl) (by decide +kernel) ea_nil (spl_Meshnexts hm')) (fun H3 _ => ev_c) (by rw [L_len]; have := hM.len; omega) (fun p H3 hp e3 => ?_)
    exact k _ (Ex.mut (ex.trans e3) (fresh_back ex hp))
def sp_law (K : PySem.W.Frag) : Sp := fun vs H Q _ => ∃ (a : Addr) (zs : List Int), vs = [.ref a] ∧ SqL K H a (zs.map V.int) ∧ ∀ H', Q (.bl true) H'
abbrev nm_law : List Str := ["_law_script", "_law_tape_here", "_law_edges", "_law_nexts_here", "_law_others", "_law_passed", "_law_mesh", "_law_other", "_law_half"]
abbrev pr_law : List Str := ["_law_script"]
def t_law (K : PySem.W.Frag) : TS :=
  (tSeq (tAsg (tCall (sp_Ltape K) [] E0 (tCons (tVar 0) (tCons (tC (.int 0)) tNil))) (gName 1))
  (tSeq (tAsg (tCall (sp_Lsize K) [] E0 (tCons (tVar 1) tNil)) (gName 2))
  (tSeq (tAsg (tCall (sp_Lnexts K) [] E0 (tCons (tCall (sp_Ltape K) [] E0 (tCons (tVar 0) (tCons (tC (.int 1)) tNil))) (tCons (tVar 2) tNil))) (gName 3))
  (tSeq (tAsg (tCall (sp_Lnexts K) [] E0 (tCons (tCall (sp_Ltape K) [] E0 (tCons (tVar 0) (tCons (tC (.int 2)) tNil))) (tCons (tVar 2) tNil))) (gName 4))
  (tSeq (tAsg (tLc (iList K (tVar 3)) (gName 8) tYes (tVar 8) [8]) (gName 5))
  (tSeq (tAsg (tMake (He.ga K "Mesh") (sp_Meshinit K) [] E0 (tCons (tVar 5) tNil)) (gName 6))
  (tSeq (tAsg (tMake (He.ga K "Mesh") (sp_Meshinit K) [] E0 (tCons (tVar 4) tNil)) (gName 7))
  (tSeq (tIfS (tOr (tNot (tB (tCall (sp_Lright K) [] E0 (tCons (tVar 6) (tCons (tVar 3) tNil))))) (tNot (tB (tCall (sp_Lright K) [] E0 (tCons (tVar 7) (tCons (tVar 4) tNil)))))) (tRet (tC (.bl false))) tNext)
  (tSeq (tDrop (tBM K "list" rAppend (tVar 5) (tCons (tC (.int 5)) tNil)))
  (tSeq (tIfS (tTest (tOp zGt (tVar 2) (tC (.int 0)))) (tAsg (tC (.int 7)) (gSub (tVar 5) (tC (.int 0)) rSetL)) tNext)
  (tSeq (tDrop (tCall (sp_Lspoil K) [] E0 (tCons (tVar 6) tNil)))
  (tRet (tAndV (tCall (sp_Lright K) [] E0 (tCons (tVar 6) (tCons (tVar 3) tNil))) (tCall (sp_Lright K) [] E0 (tCons (tVar 7) (tCons (tVar 4) tNil))))))))))))))))
abbrev Wt_law (K : PySem.W.Frag) (vs : List V) (H : Hp) (Q : VK) : Prop := t_law K { nx := fun _ H' => Q .non H', rt := Q } (start nm_law vs) H
theorem ln_law {K : PySem.W.Frag} (vs : List V) (H : Hp) (Q : VK) (E : XK) (h : sp_law K vs H Q E) : vs.length = pr_law.length := by
  obtain ⟨_, _, rfl, _⟩ := h
  rfl
theorem rd_law {K : PySem.W.Frag} (F : KF K) (vs : List V) (H : Hp) (Q : VK) (E : XK) (h : sp_law K vs H Q E) : Wt_law K vs H Q := by
  obtain ⟨a, zs, rfl, hS, k⟩ := h
  show t_law K _ [some (.ref a), none, none, none, none, none, none, none, none] H
  refine q_asgC (ea_2 (ev_var rfl) ev_c) (fun H1 e1 => ?_)
  refine ⟨a, zs, 0, rfl, ex_l e1 hS, by decide, by decide, fun t H2 ht tp e2 => ?_⟩
  have x2 := e1.trans e2
  refine q_asgC (ea_1 (ev_var rfl)) (fun H3 e3 => ?_)
  refine ⟨t, rfl, tp_ex tp e3, fun e H4 he _ o4 => ?_⟩
  have ht0 : H t = none := fresh_back e1 ht
  have x4 : Ex H H4 := fun b o hb => o4 b o (ne_of_none hb ht0) (e3 _ _ (x2 b o hb))
  refine q_nexts (e := e) (zs := zs) rfl (ex_l x4 hS) (by decide) (by decide) rfl (by omega) (fun p ns H5 hp x5 h5 P5 l5 => ?_)
  refine q_nexts (e := e) (zs := zs) rfl (ex_l (x4.trans x5) hS) (by decide) (by decide) rfl (by omega) (fun q ms H6 hq x6 h6 P6 l6 => ?_)
  have M1 : MP ns := ⟨P5, by omega, by omega⟩
  have M2 : MP ms := ⟨P6, by omega, by omega⟩
  have h5' := x6 _ _ h5
  refine q_asgL (el_copy (ns := ns) (ev_var rfl) (sq_of h5') M1.len (fun _ => rfl) (fun _ => rfl)) (fun c H7 hc x7 h7 => ?_)
  refine q_mesh (ev_var rfl) (sq_of h7) M1 (fun x H8 hx m8 x8 => ?_)
  have h6' := x8 _ _ (x7 _ _ h6)
  refine q_mesh (ev_var rfl) (sq_of h6') M2 (fun y H9 hy m9 x9 => ?_)
  have n1 : SqL K H9 p (L ns) := sq_of (x9 _ _ (x8 _ _ (x7 _ _ h5')))
  have n2 : SqL K H9 q (L ms) := sq_of (x9 _ _ h6')
  refine q_when (b := !true || !true) (et_or (et_not (et_B (ev_call (ea_2 (ev_var rfl) (ev_var rfl)) (spv_Lright (m8.ex x9).at n1 M1)))) (fun _ => et_not (et_B (ev_call (ea_2 (ev_var rfl) (ev_var rfl)) (spv_Lright m9.at n2 M2))))) (fun hb => nomatch hb) (fun _ H10 e10 => ?_)
  -- behind it: what stands, at any heap that keeps all but the list that was passed
  have cp : H7 c = some (.lst (L ns)) := h7
  have hc9 : H9 c = some (.lst (L ns)) := x9 _ _ (x8 _ _ h7)
  have my0 : H7 y = none := fresh_back x8 hy
  have cn : c ≠ p := (ne_of_none h5' hc).symm
  have cq : c ≠ q := (ne_of_none h6 hc).symm
  have stay : ∀ H', Ex H9 H' → (∀ o, MeshN K H7 (upd H' c o) x ns ∧ MeshN K H7 (upd H' c o) y ms ∧ SqL K (upd H' c o) p (L ns) ∧ SqL K (upd H' c o) q (L ms)) := fun H' e o => by
    refine ⟨((m8.ex x9).ex e).upd cp hx, ((m9.back x8).ex e).upd cp my0, ?_, ?_⟩
    · refine sq_of ?_
      rw [upd_ne cn.symm]
      exact e _ _ (x9 _ _ (x8 _ _ (x7 _ _ h5')))
    · refine sq_of ?_
      rw [upd_ne cq.symm]
      exact e _ _ (x9 _ _ h6')
  refine q_app (e10 _ _ hc9) (ev_var rfl) ev_c (by rw [L_len]; have := M1.len; omega) (fun H11 e11 => ?_)
  have fin : ∀ H', (MeshAt K H' x ns ∧ MeshAt K H' y ms ∧ SqL K H' p (L ns) ∧ SqL K H' q (L ms)) →
      (tSeq (tDrop (tCall (sp_Lspoil K) [] E0 (tCons (tVar 6) tNil))) (tRet (tAndV (tCall (sp_Lright K) [] E0 (tCons (tVar 6) (tCons (tVar 3) tNil))) (tCall (sp_Lright K) [] E0 (tCons (tVar 7) (tCons (tVar 4) tNil)))))) { nx := fun _ H' => Q .non H', rt := Q }
        [some (.ref a), some (.ref t), some (.int (e : Int)), some (.ref p), some (.ref q), some (.ref c), some (.ref x), some (.ref y), none] H' := by
    rintro H' ⟨g1, g2, g3, g4⟩
    refine q_dropC (ea_1 (ev_var rfl)) (fun H12 e12 => ⟨x, ns, rfl, g1.ex e12, M1, fun H13 e13 => ?_⟩)
    have e14 := e12.trans e13
    refine s_ret (v := .bl (true && true)) (ev_andV (ev_call (ea_2 (ev_var rfl) (ev_var rfl)) (spv_Lright (g1.ex e14) (ex_l e14 g3) M1)) (fun _ => ev_call (ea_2 (ev_var rfl) (ev_var rfl)) (spv_Lright (g2.ex e14) (ex_l e14 g4) M2))) (fun H15 _ => k H15)
  obtain ⟨g1, g2, g3, g4⟩ := stay H11 (e10.trans e11) (.lst (L ns ++ [.int 5]))
  refine q_when (b := decide ((0 : Int) < (e : Int))) (et_test (ev_op (ev_var rfl) ev_c rv_I0)) (fun hb H12 e12 => ?_) (fun _ H12 e12 => ?_)
  · have hb := of_decide_eq_true hb
    refine s_setL (j := 0) (e12 _ _ upd_same) ev_c (ev_var rfl) ev_c (by rw [List.length_append]; show 0 < (L ns).length + 1; omega) (fun H13 e13 => ?_)
    refine fin _ ⟨?_, ?_, ?_, ?_⟩
    · exact ((g1.ex (e12.trans e13)).upd cp hx).at
    · exact ((g2.ex (e12.trans e13)).upd cp my0).at
    · have := ex_l (e12.trans e13) g3
      refine sq_of ?_
      rw [upd_ne cn.symm]
      refine (e12.trans e13) _ _ ?_
      rw [upd_ne cn.symm]
      exact (e10.trans e11) _ _ (x9 _ _ (x8 _ _ (x7 _ _ h5')))
    · refine sq_of ?_
      rw [upd_ne cq.symm]
      refine (e12.trans e13) _ _ ?_
      rw [upd_ne cq.symm]
      exact (e10.trans e11) _ _ (x9 _ _ h6')
  · exact fin _ ⟨(g1.ex e12).at, (g2.ex e12).at, ex_l e12 g3, ex_l e12 g4⟩
end K11
namespace K11
open PySem PySem.Spec PyProof.Rows L2 Evl Hm
def topS (i : Nat) : Stmt := PySem.Challenge.pw_halfmeshes_k11_links_and_rounds.main.body.getD i (.Pass ⟨0, 0, 0, 0⟩)
abbrev s_Meshinit : Stmt := inClass (topS 5) 0
theorem sc_Meshinit : FnScope nm_Meshinit pr_Meshinit (defScope s_Meshinit) := ⟨rfl, rfl, rfl, by decide +kernel, rfl, by decide +kernel, by decide +kernel⟩
abbrev s_Meshafter : Stmt := inClass (topS 5) 5
theorem sc_Meshafter : FnScope nm_Meshafter pr_Meshafter (defScope s_Meshafter) := ⟨rfl, rfl, rfl, by decide +kernel, rfl, by decide +kernel, by decide +kernel⟩
abbrev s_Meshbefore : Stmt := inClass (topS 5) 6
theorem sc_Meshbefore : FnScope nm_Meshbefore pr_Meshbefore (defScope s_Meshbefore) := ⟨rfl, rfl, rfl, by decide +kernel, rfl, by decide +kernel, by decide +kernel⟩
abbrev s_Meshtwin : Stmt := inClass (topS 5) 7
theorem sc_Meshtwin : FnScope nm_Meshtwin pr_Meshtwin (defScope s_Meshtwin) := ⟨rfl, rfl, rfl, by decide +kernel, rfl, by decide +kernel, by decide +kernel⟩
abbrev s_Meshturned : Stmt := inClass (topS 5) 8
theorem sc_Meshturned : FnScope nm_Meshturned pr_Meshturned (defScope s_Meshturned) := ⟨rfl, rfl, rfl, by decide +kernel, rfl, by decide +kernel, by decide +kernel⟩
abbrev s_Meshnexts : Stmt := inClass (topS 5) 9
theorem sc_Meshnexts : FnScope nm_Meshnexts pr_Meshnexts (defScope s_Meshnexts) := ⟨rfl, rfl, rfl, by decide +kernel, rfl, by decide +kernel, by decide +kernel⟩
abbrev s_Meshfaces : Stmt := inClass (topS 5) 10
theorem sc_Meshfaces : FnScope nm_Meshfaces pr_Meshfaces (defScope s_Meshfaces) := ⟨rfl, rfl, rfl, by decide +kernel, rfl, by decide +kernel, by decide +kernel⟩
abbrev s_Meshcorners : Stmt := inClass (topS 5) 11
theorem sc_Meshcorners : FnScope nm_Meshcorners pr_Meshcorners (defScope s_Meshcorners) := ⟨rfl, rfl, rfl, by decide +kernel, rfl, by decide +kernel, by decide +kernel⟩
abbrev s_isinteger : Stmt := topS 6
theorem sc_isinteger : FnScope nm_isinteger pr_isinteger (defScope s_isinteger) := ⟨rfl, rfl, rfl, by decide +kernel, rfl, by decide +kernel, by decide +kernel⟩
abbrev s_areallhalves : Stmt := topS 7
theorem sc_areallhalves : FnScope nm_areallhalves pr_areallhalves (defScope s_areallhalves) := ⟨rfl, rfl, rfl, by decide +kernel, rfl, by decide +kernel, by decide +kernel⟩
abbrev s_inverse : Stmt := topS 8
theorem sc_inverse : FnScope nm_inverse pr_inverse (defScope s_inverse) := ⟨rfl, rfl, rfl, by decide +kernel, rfl, by decide +kernel, by decide +kernel⟩
abbrev s_rounds : Stmt := topS 9
theorem sc_rounds : FnScope nm_rounds pr_rounds (defScope s_rounds) := ⟨rfl, rfl, rfl, by decide +kernel, rfl, by decide +kernel, by decide +kernel⟩
abbrev s_Ltape : Stmt := topS 11
theorem sc_Ltape : FnScope nm_Ltape pr_Ltape (defScope s_Ltape) := ⟨rfl, rfl, rfl, by decide +kernel, rfl, by decide +kernel, by decide +kernel⟩
abbrev s_Lpick : Stmt := topS 12
theorem sc_Lpick : FnScope nm_Lpick pr_Lpick (defScope s_Lpick) := ⟨rfl, rfl, rfl, by decide +kernel, rfl, by decide +kernel, by decide +kernel⟩
abbrev s_Lnexts : Stmt := topS 13
theorem sc_Lnexts : FnScope nm_Lnexts pr_Lnexts (defScope s_Lnexts) := ⟨rfl, rfl, rfl, by decide +kernel, rfl, by decide +kernel, by decide +kernel⟩
abbrev s_Lsize : Stmt := topS 14
theorem sc_Lsize : FnScope nm_Lsize pr_Lsize (defScope s_Lsize) := ⟨rfl, rfl, rfl, by decide +kernel, rfl, by decide +kernel, by decide +kernel⟩
abbrev s_Ltwin : Stmt := topS 15
theorem sc_Ltwin : FnScope nm_Ltwin pr_Ltwin (defScope s_Ltwin) := ⟨rfl, rfl, rfl, by decide +kernel, rfl, by decide +kernel, by decide +kernel⟩
abbrev s_Lturned : Stmt := topS 16
theorem sc_Lturned : FnScope nm_Lturned pr_Lturned (defScope s_Lturned) := ⟨rfl, rfl, rfl, by decide +kernel, rfl, by decide +kernel, by decide +kernel⟩
abbrev s_Lround : Stmt := topS 17
theorem sc_Lround : FnScope nm_Lround pr_Lround (defScope s_Lround) := ⟨rfl, rfl, rfl, by decide +kernel, rfl, by decide +kernel, by decide +kernel⟩
abbrev s_Lrounds : Stmt := topS 18
theorem sc_Lrounds : FnScope nm_Lrounds pr_Lrounds (defScope s_Lrounds) := ⟨rfl, rfl, rfl, by decide +kernel, rfl, by decide +kernel, by decide +kernel⟩
abbrev s_Lright : Stmt := topS 19
theorem sc_Lright : FnScope nm_Lright pr_Lright (defScope s_Lright) := ⟨rfl, rfl, rfl, by decide +kernel, rfl, by decide +kernel, by decide +kernel⟩
abbrev s_Lspoil : Stmt := topS 20
theorem sc_Lspoil : FnScope nm_Lspoil pr_Lspoil (defScope s_Lspoil) := ⟨rfl, rfl, rfl, by decide +kernel, rfl, by decide +kernel, by decide +kernel⟩
abbrev s_law : Stmt := topS 21
theorem sc_law : FnScope nm_law pr_law (defScope s_law) := ⟨rfl, rfl, rfl, by decide +kernel, rfl, by decide +kernel, by decide +kernel⟩
structure Tx (K : PySem.W.Frag) (mg : Str → Option Value) where
  n_len : mg "len" = none
  n_abs : mg "abs" = none
  n_int : mg "int" = none
  n_list : mg "list" = none
  n_sorted : mg "sorted" = none
  n_all : mg "all" = none
  n_isinstance : mg "isinstance" = none
  n_min : mg "min" = none
  n_range : mg "range" = none
  n_bool : mg "bool" = none
  n_enumerate : mg "enumerate" = none
  m_Mesh : mg "Mesh" = some (.ref (He.ga K "Mesh"))
  cl_Mesh : Cls K (He.ga K "Mesh")
  na_nexts : NoAttr K (He.ga K "Mesh") "_nexts"
  na_prevs : NoAttr K (He.ga K "Mesh") "_prevs"
  na_turns : NoAttr K (He.ga K "Mesh") "_turns"
  mk_Mesh : Mk K (He.ga K "Mesh") (He.ma K (He.ga K "Mesh") "__init__")
  fd_Meshinit : FuncData
  F_Meshinit : FunD K "__init__" "Mesh.__init__" (defArgs s_Meshinit) (defBody s_Meshinit) (defScope s_Meshinit) [] [] (He.ma K (He.ga K "Mesh") "__init__") fd_Meshinit
  b_Meshinit : Binds K fd_Meshinit pr_Meshinit []
  me_Meshafter : Meth K (He.ga K "Mesh") "after" (He.ma K (He.ga K "Mesh") "after")
  fd_Meshafter : FuncData
  F_Meshafter : FunD K "after" "Mesh.after" (defArgs s_Meshafter) (defBody s_Meshafter) (defScope s_Meshafter) [] [] (He.ma K (He.ga K "Mesh") "after") fd_Meshafter
  b_Meshafter : Binds K fd_Meshafter pr_Meshafter []
  me_Meshbefore : Meth K (He.ga K "Mesh") "before" (He.ma K (He.ga K "Mesh") "before")
  fd_Meshbefore : FuncData
  F_Meshbefore : FunD K "before" "Mesh.before" (defArgs s_Meshbefore) (defBody s_Meshbefore) (defScope s_Meshbefore) [] [] (He.ma K (He.ga K "Mesh") "before") fd_Meshbefore
  b_Meshbefore : Binds K fd_Meshbefore pr_Meshbefore []
  me_Meshtwin : Meth K (He.ga K "Mesh") "twin" (He.ma K (He.ga K "Mesh") "twin")
  fd_Meshtwin : FuncData
  F_Meshtwin : FunD K "twin" "Mesh.twin" (defArgs s_Meshtwin) (defBody s_Meshtwin) (defScope s_Meshtwin) [] [] (He.ma K (He.ga K "Mesh") "twin") fd_Meshtwin
  b_Meshtwin : Binds K fd_Meshtwin pr_Meshtwin []
  me_Meshturned : Meth K (He.ga K "Mesh") "turned" (He.ma K (He.ga K "Mesh") "turned")
  fd_Meshturned : FuncData
  F_Meshturned : FunD K "turned" "Mesh.turned" (defArgs s_Meshturned) (defBody s_Meshturned) (defScope s_Meshturned) [] [] (He.ma K (He.ga K "Mesh") "turned") fd_Meshturned
  b_Meshturned : Binds K fd_Meshturned pr_Meshturned []
  me_Meshnexts : Meth K (He.ga K "Mesh") "nexts" (He.ma K (He.ga K "Mesh") "nexts")
  fd_Meshnexts : FuncData
  F_Meshnexts : FunD K "nexts" "Mesh.nexts" (defArgs s_Meshnexts) (defBody s_Meshnexts) (defScope s_Meshnexts) [] [] (He.ma K (He.ga K "Mesh") "nexts") fd_Meshnexts
  b_Meshnexts : Binds K fd_Meshnexts pr_Meshnexts []
  me_Meshfaces : Meth K (He.ga K "Mesh") "faces" (He.ma K (He.ga K "Mesh") "faces")
  fd_Meshfaces : FuncData
  F_Meshfaces : FunD K "faces" "Mesh.faces" (defArgs s_Meshfaces) (defBody s_Meshfaces) (defScope s_Meshfaces) [] [] (He.ma K (He.ga K "Mesh") "faces") fd_Meshfaces
  b_Meshfaces : Binds K fd_Meshfaces pr_Meshfaces []
  me_Meshcorners : Meth K (He.ga K "Mesh") "corners" (He.ma K (He.ga K "Mesh") "corners")
  fd_Meshcorners : FuncData
  F_Meshcorners : FunD K "corners" "Mesh.corners" (defArgs s_Meshcorners) (defBody s_Meshcorners) (defScope s_Meshcorners) [] [] (He.ma K (He.ga K "Mesh") "corners") fd_Meshcorners
  b_Meshcorners : Binds K fd_Meshcorners pr_Meshcorners []
  m_isinteger : mg "_is_integer" = some (.ref (He.ga K "_is_integer"))
  fd_isinteger : FuncData
  F_isinteger : FunD K "_is_integer" "_is_integer" (defArgs s_isinteger) (defBody s_isinteger) (defScope s_isinteger) [] [] (He.ga K "_is_integer") fd_isinteger
  b_isinteger : Binds K fd_isinteger pr_isinteger []
  m_areallhalves : mg "_are_all_halves" = some (.ref (He.ga K "_are_all_halves"))
  fd_areallhalves : FuncData
  F_areallhalves : FunD K "_are_all_halves" "_are_all_halves" (defArgs s_areallhalves) (defBody s_areallhalves) (defScope s_areallhalves) [] [] (He.ga K "_are_all_halves") fd_areallhalves
  b_areallhalves : Binds K fd_areallhalves pr_areallhalves []
  m_inverse : mg "_inverse" = some (.ref (He.ga K "_inverse"))
  fd_inverse : FuncData
  F_inverse : FunD K "_inverse" "_inverse" (defArgs s_inverse) (defBody s_inverse) (defScope s_inverse) [] [] (He.ga K "_inverse") fd_inverse
  b_inverse : Binds K fd_inverse pr_inverse []
  m_rounds : mg "_rounds" = some (.ref (He.ga K "_rounds"))
  fd_rounds : FuncData
  F_rounds : FunD K "_rounds" "_rounds" (defArgs s_rounds) (defBody s_rounds) (defScope s_rounds) [] [] (He.ga K "_rounds") fd_rounds
  b_rounds : Binds K fd_rounds pr_rounds []
  m_Ltape : mg "_law_tape" = some (.ref (He.ga K "_law_tape"))
  fd_Ltape : FuncData
  F_Ltape : FunD K "_law_tape" "_law_tape" (defArgs s_Ltape) (defBody s_Ltape) (defScope s_Ltape) [] [] (He.ga K "_law_tape") fd_Ltape
  b_Ltape : Binds K fd_Ltape pr_Ltape []
  m_Lpick : mg "_law_pick" = some (.ref (He.ga K "_law_pick"))
  fd_Lpick : FuncData
  F_Lpick : FunD K "_law_pick" "_law_pick" (defArgs s_Lpick) (defBody s_Lpick) (defScope s_Lpick) [] [] (He.ga K "_law_pick") fd_Lpick
  b_Lpick : Binds K fd_Lpick pr_Lpick []
  m_Lnexts : mg "_law_nexts" = some (.ref (He.ga K "_law_nexts"))
  fd_Lnexts : FuncData
  F_Lnexts : FunD K "_law_nexts" "_law_nexts" (defArgs s_Lnexts) (defBody s_Lnexts) (defScope s_Lnexts) [] [] (He.ga K "_law_nexts") fd_Lnexts
  b_Lnexts : Binds K fd_Lnexts pr_Lnexts []
  m_Lsize : mg "_law_size" = some (.ref (He.ga K "_law_size"))
  fd_Lsize : FuncData
  F_Lsize : FunD K "_law_size" "_law_size" (defArgs s_Lsize) (defBody s_Lsize) (defScope s_Lsize) [] [] (He.ga K "_law_size") fd_Lsize
  b_Lsize : Binds K fd_Lsize pr_Lsize []
  m_Ltwin : mg "_law_twin" = some (.ref (He.ga K "_law_twin"))
  fd_Ltwin : FuncData
  F_Ltwin : FunD K "_law_twin" "_law_twin" (defArgs s_Ltwin) (defBody s_Ltwin) (defScope s_Ltwin) [] [] (He.ga K "_law_twin") fd_Ltwin
  b_Ltwin : Binds K fd_Ltwin pr_Ltwin []
  m_Lturned : mg "_law_turned" = some (.ref (He.ga K "_law_turned"))
  fd_Lturned : FuncData
  F_Lturned : FunD K "_law_turned" "_law_turned" (defArgs s_Lturned) (defBody s_Lturned) (defScope s_Lturned) [] [] (He.ga K "_law_turned") fd_Lturned
  b_Lturned : Binds K fd_Lturned pr_Lturned []
  m_Lround : mg "_law_round" = some (.ref (He.ga K "_law_round"))
  fd_Lround : FuncData
  F_Lround : FunD K "_law_round" "_law_round" (defArgs s_Lround) (defBody s_Lround) (defScope s_Lround) [] [] (He.ga K "_law_round") fd_Lround
  b_Lround : Binds K fd_Lround pr_Lround []
  m_Lrounds : mg "_law_rounds" = some (.ref (He.ga K "_law_rounds"))
  fd_Lrounds : FuncData
  F_Lrounds : FunD K "_law_rounds" "_law_rounds" (defArgs s_Lrounds) (defBody s_Lrounds) (defScope s_Lrounds) [] [] (He.ga K "_law_rounds") fd_Lrounds
  b_Lrounds : Binds K fd_Lrounds pr_Lrounds []
  m_Lright : mg "_law_right" = some (.ref (He.ga K "_law_right"))
  fd_Lright : FuncData
  F_Lright : FunD K "_law_right" "_law_right" (defArgs s_Lright) (defBody s_Lright) (defScope s_Lright) [] [] (He.ga K "_law_right") fd_Lright
  b_Lright : Binds K fd_Lright pr_Lright []
  m_Lspoil : mg "_law_spoil" = some (.ref (He.ga K "_law_spoil"))
  fd_Lspoil : FuncData
  F_Lspoil : FunD K "_law_spoil" "_law_spoil" (defArgs s_Lspoil) (defBody s_Lspoil) (defScope s_Lspoil) [] [] (He.ga K "_law_spoil") fd_Lspoil
  b_Lspoil : Binds K fd_Lspoil pr_Lspoil []
  fd_law : FuncData
  F_law : FunD K "law" "law" (defArgs s_law) (defBody s_law) (defScope s_law) [] [] (He.ga K "law") fd_law
  b_law : Binds K fd_law pr_law []
theorem Tx.kf {K : PySem.W.Frag} {mg : Str → Option Value} (T : Tx K mg) : Hm.KF K := ⟨T.cl_Mesh, T.na_nexts, T.na_prevs, T.na_turns⟩
def fn : List He.DefD := [⟨("Mesh", some "__init__"), "__init__", "Mesh.__init__", defArgs s_Meshinit, defBody s_Meshinit, defScope s_Meshinit, [], []⟩,
  ⟨("Mesh", some "after"), "after", "Mesh.after", defArgs s_Meshafter, defBody s_Meshafter, defScope s_Meshafter, [], []⟩,
  ⟨("Mesh", some "before"), "before", "Mesh.before", defArgs s_Meshbefore, defBody s_Meshbefore, defScope s_Meshbefore, [], []⟩,
  ⟨("Mesh", some "twin"), "twin", "Mesh.twin", defArgs s_Meshtwin, defBody s_Meshtwin, defScope s_Meshtwin, [], []⟩,
  ⟨("Mesh", some "turned"), "turned", "Mesh.turned", defArgs s_Meshturned, defBody s_Meshturned, defScope s_Meshturned, [], []⟩,
  ⟨("Mesh", some "nexts"), "nexts", "Mesh.nexts", defArgs s_Meshnexts, defBody s_Meshnexts, defScope s_Meshnexts, [], []⟩,
  ⟨("Mesh", some "faces"), "faces", "Mesh.faces", defArgs s_Meshfaces, defBody s_Meshfaces, defScope s_Meshfaces, [], []⟩,
  ⟨("Mesh", some "corners"), "corners", "Mesh.corners", defArgs s_Meshcorners, defBody s_Meshcorners, defScope s_Meshcorners, [], []⟩,
  ⟨("_is_integer", none), "_is_integer", "_is_integer", defArgs s_isinteger, defBody s_isinteger, defScope s_isinteger, [], []⟩,
  ⟨("_are_all_halves", none), "_are_all_halves", "_are_all_halves", defArgs s_areallhalves, defBody s_areallhalves, defScope s_areallhalves, [], []⟩,
  ⟨("_inverse", none), "_inverse", "_inverse", defArgs s_inverse, defBody s_inverse, defScope s_inverse, [], []⟩,
  ⟨("_rounds", none), "_rounds", "_rounds", defArgs s_rounds, defBody s_rounds, defScope s_rounds, [], []⟩,
  ⟨("_law_tape", none), "_law_tape", "_law_tape", defArgs s_Ltape, defBody s_Ltape, defScope s_Ltape, [], []⟩,
  ⟨("_law_pick", none), "_law_pick", "_law_pick", defArgs s_Lpick, defBody s_Lpick, defScope s_Lpick, [], []⟩,
  ⟨("_law_nexts", none), "_law_nexts", "_law_nexts", defArgs s_Lnexts, defBody s_Lnexts, defScope s_Lnexts, [], []⟩,
  ⟨("_law_size", none), "_law_size", "_law_size", defArgs s_Lsize, defBody s_Lsize, defScope s_Lsize, [], []⟩,
  ⟨("_law_twin", none), "_law_twin", "_law_twin", defArgs s_Ltwin, defBody s_Ltwin, defScope s_Ltwin, [], []⟩,
  ⟨("_law_turned", none), "_law_turned", "_law_turned", defArgs s_Lturned, defBody s_Lturned, defScope s_Lturned, [], []⟩,
  ⟨("_law_round", none), "_law_round", "_law_round", defArgs s_Lround, defBody s_Lround, defScope s_Lround, [], []⟩,
  ⟨("_law_rounds", none), "_law_rounds", "_law_rounds", defArgs s_Lrounds, defBody s_Lrounds, defScope s_Lrounds, [], []⟩,
  ⟨("_law_right", none), "_law_right", "_law_right", defArgs s_Lright, defBody s_Lright, defScope s_Lright, [], []⟩,
  ⟨("_law_spoil", none), "_law_spoil", "_law_spoil", defArgs s_Lspoil, defBody s_Lspoil, defScope s_Lspoil, [], []⟩,
  ⟨("law", none), "law", "law", defArgs s_law, defBody s_law, defScope s_law, [], []⟩]
def fa : List He.Fa := [.free "len", .free "abs", .free "int", .free "list", .free "sorted", .free "all", .free "isinstance", .free "min", .free "range", .free "bool", .free "enumerate", .glo "Mesh", .cls "Mesh", .noat "Mesh" "_nexts", .noat "Mesh" "_prevs", .noat "Mesh" "_turns", .mkr "Mesh", .meth "Mesh" "after", .meth "Mesh" "before", .meth "Mesh" "twin", .meth "Mesh" "turned", .meth "Mesh" "nexts", .meth "Mesh" "faces", .meth "Mesh" "corners", .glo "_is_integer", .glo "_are_all_halves", .glo "_inverse", .glo "_rounds", .glo "_law_tape", .glo "_law_pick", .glo "_law_nexts", .glo "_law_size", .glo "_law_twin", .glo "_law_turned", .glo "_law_round", .glo "_law_rounds", .glo "_law_right", .glo "_law_spoil", .glo "law"]
theorem tx_of {K : PySem.W.Frag} {h : Heap} {mg : Str → Option Value} (X : K.In h) (G : h.Ns mainGlobals mg) (c : He.SaysD fa fn K) : Nonempty (Tx K mg) := by
  obtain ⟨fd_Meshinit, F_Meshinit⟩ := c.def_ 0 rfl
  have b_Meshinit : Binds K fd_Meshinit pr_Meshinit [] := F_Meshinit.bindsN fun _ _ _ _ _ _ us hl => match us, hl with | [_, _], _ => rfl
  obtain ⟨fd_Meshafter, F_Meshafter⟩ := c.def_ 1 rfl
  have b_Meshafter : Binds K fd_Meshafter pr_Meshafter [] := F_Meshafter.bindsN fun _ _ _ _ _ _ us hl => match us, hl with | [_, _], _ => rfl
  obtain ⟨fd_Meshbefore, F_Meshbefore⟩ := c.def_ 2 rfl
  have b_Meshbefore : Binds K fd_Meshbefore pr_Meshbefore [] := F_Meshbefore.bindsN fun _ _ _ _ _ _ us hl => match us, hl with | [_, _], _ => rfl
  obtain ⟨fd_Meshtwin, F_Meshtwin⟩ := c.def_ 3 rfl
  have b_Meshtwin : Binds K fd_Meshtwin pr_Meshtwin [] := F_Meshtwin.bindsN fun _ _ _ _ _ _ us hl => match us, hl with | [_, _], _ => rfl
  obtain ⟨fd_Meshturned, F_Meshturned⟩ := c.def_ 4 rfl
  have b_Meshturned : Binds K fd_Meshturned pr_Meshturned [] := F_Meshturned.bindsN fun _ _ _ _ _ _ us hl => match us, hl with | [_, _], _ => rfl
  obtain ⟨fd_Meshnexts, F_Meshnexts⟩ := c.def_ 5 rfl
  have b_Meshnexts : Binds K fd_Meshnexts pr_Meshnexts [] := F_Meshnexts.bindsN fun _ _ _ _ _ _ us hl => match us, hl with | [_], _ => rfl
  obtain ⟨fd_Meshfaces, F_Meshfaces⟩ := c.def_ 6 rfl
  have b_Meshfaces : Binds K fd_Meshfaces pr_Meshfaces [] := F_Meshfaces.bindsN fun _ _ _ _ _ _ us hl => match us, hl with | [_], _ => rfl
  obtain ⟨fd_Meshcorners, F_Meshcorners⟩ := c.def_ 7 rfl
  have b_Meshcorners : Binds K fd_Meshcorners pr_Meshcorners [] := F_Meshcorners.bindsN fun _ _ _ _ _ _ us hl => match us, hl with | [_], _ => rfl
  obtain ⟨fd_isinteger, F_isinteger⟩ := c.def_ 8 rfl
  have b_isinteger : Binds K fd_isinteger pr_isinteger [] := F_isinteger.bindsN fun _ _ _ _ _ _ us hl => match us, hl with | [_], _ => rfl
  obtain ⟨fd_areallhalves, F_areallhalves⟩ := c.def_ 9 rfl
  have b_areallhalves : Binds K fd_areallhalves pr_areallhalves [] := F_areallhalves.bindsN fun _ _ _ _ _ _ us hl => match us, hl with | [_], _ => rfl
  obtain ⟨fd_inverse, F_inverse⟩ := c.def_ 10 rfl
  have b_inverse : Binds K fd_inverse pr_inverse [] := F_inverse.bindsN fun _ _ _ _ _ _ us hl => match us, hl with | [_], _ => rfl
  obtain ⟨fd_rounds, F_rounds⟩ := c.def_ 11 rfl
  have b_rounds : Binds K fd_rounds pr_rounds [] := F_rounds.bindsN fun _ _ _ _ _ _ us hl => match us, hl with | [_], _ => rfl
  obtain ⟨fd_Ltape, F_Ltape⟩ := c.def_ 12 rfl
  have b_Ltape : Binds K fd_Ltape pr_Ltape [] := F_Ltape.bindsN fun _ _ _ _ _ _ us hl => match us, hl with | [_, _], _ => rfl
  obtain ⟨fd_Lpick, F_Lpick⟩ := c.def_ 13 rfl
  have b_Lpick : Binds K fd_Lpick pr_Lpick [] := F_Lpick.bindsN fun _ _ _ _ _ _ us hl => match us, hl with | [_, _], _ => rfl
  obtain ⟨fd_Lnexts, F_Lnexts⟩ := c.def_ 14 rfl
  have b_Lnexts : Binds K fd_Lnexts pr_Lnexts [] := F_Lnexts.bindsN fun _ _ _ _ _ _ us hl => match us, hl with | [_, _], _ => rfl
  obtain ⟨fd_Lsize, F_Lsize⟩ := c.def_ 15 rfl
  have b_Lsize : Binds K fd_Lsize pr_Lsize [] := F_Lsize.bindsN fun _ _ _ _ _ _ us hl => match us, hl with | [_], _ => rfl
  obtain ⟨fd_Ltwin, F_Ltwin⟩ := c.def_ 16 rfl
  have b_Ltwin : Binds K fd_Ltwin pr_Ltwin [] := F_Ltwin.bindsN fun _ _ _ _ _ _ us hl => match us, hl with | [_], _ => rfl
  obtain ⟨fd_Lturned, F_Lturned⟩ := c.def_ 17 rfl
  have b_Lturned : Binds K fd_Lturned pr_Lturned [] := F_Lturned.bindsN fun _ _ _ _ _ _ us hl => match us, hl with | [_, _], _ => rfl
  obtain ⟨fd_Lround, F_Lround⟩ := c.def_ 18 rfl
  have b_Lround : Binds K fd_Lround pr_Lround [] := F_Lround.bindsN fun _ _ _ _ _ _ us hl => match us, hl with | [_, _, _], _ => rfl
  obtain ⟨fd_Lrounds, F_Lrounds⟩ := c.def_ 19 rfl
  have b_Lrounds : Binds K fd_Lrounds pr_Lrounds [] := F_Lrounds.bindsN fun _ _ _ _ _ _ us hl => match us, hl with | [_, _], _ => rfl
  obtain ⟨fd_Lright, F_Lright⟩ := c.def_ 20 rfl
  have b_Lright : Binds K fd_Lright pr_Lright [] := F_Lright.bindsN fun _ _ _ _ _ _ us hl => match us, hl with | [_, _], _ => rfl
  obtain ⟨fd_Lspoil, F_Lspoil⟩ := c.def_ 21 rfl
  have b_Lspoil : Binds K fd_Lspoil pr_Lspoil [] := F_Lspoil.bindsN fun _ _ _ _ _ _ us hl => match us, hl with | [_], _ => rfl
  obtain ⟨fd_law, F_law⟩ := c.def_ 22 rfl
  have b_law : Binds K fd_law pr_law [] := F_law.bindsN fun _ _ _ _ _ _ us hl => match us, hl with | [_], _ => rfl
  exact ⟨⟨He.free_ok X G (c.fact 0 (f := .free "len") rfl),
    He.free_ok X G (c.fact 1 (f := .free "abs") rfl),
    He.free_ok X G (c.fact 2 (f := .free "int") rfl),
    He.free_ok X G (c.fact 3 (f := .free "list") rfl),
    He.free_ok X G (c.fact 4 (f := .free "sorted") rfl),
    He.free_ok X G (c.fact 5 (f := .free "all") rfl),
    He.free_ok X G (c.fact 6 (f := .free "isinstance") rfl),
    He.free_ok X G (c.fact 7 (f := .free "min") rfl),
    He.free_ok X G (c.fact 8 (f := .free "range") rfl),
    He.free_ok X G (c.fact 9 (f := .free "bool") rfl),
    He.free_ok X G (c.fact 10 (f := .free "enumerate") rfl),
    He.glo_ok X G (c.fact 11 (f := .glo "Mesh") rfl),
    He.cls_ok (c.fact 12 (f := .cls "Mesh") rfl),
    He.noat_ok (c.fact 13 (f := .noat "Mesh" "_nexts") rfl),
    He.noat_ok (c.fact 14 (f := .noat "Mesh" "_prevs") rfl),
    He.noat_ok (c.fact 15 (f := .noat "Mesh" "_turns") rfl),
    He.mkr_ok (c.fact 16 (f := .mkr "Mesh") rfl),
    fd_Meshinit,
    F_Meshinit,
    b_Meshinit,
    He.meth_ok (c.fact 17 (f := .meth "Mesh" "after") rfl),
    fd_Meshafter,
    F_Meshafter,
    b_Meshafter,
    He.meth_ok (c.fact 18 (f := .meth "Mesh" "before") rfl),
    fd_Meshbefore,
    F_Meshbefore,
    b_Meshbefore,
    He.meth_ok (c.fact 19 (f := .meth "Mesh" "twin") rfl),
    fd_Meshtwin,
    F_Meshtwin,
    b_Meshtwin,
    He.meth_ok (c.fact 20 (f := .meth "Mesh" "turned") rfl),
    fd_Meshturned,
    F_Meshturned,
    b_Meshturned,
    He.meth_ok (c.fact 21 (f := .meth "Mesh" "nexts") rfl),
    fd_Meshnexts,
    F_Meshnexts,
    b_Meshnexts,
    He.meth_ok (c.fact 22 (f := .meth "Mesh" "faces") rfl),
    fd_Meshfaces,
    F_Meshfaces,
    b_Meshfaces,
    He.meth_ok (c.fact 23 (f := .meth "Mesh" "corners") rfl),
    fd_Meshcorners,
    F_Meshcorners,
    b_Meshcorners,
    He.glo_ok X G (c.fact 24 (f := .glo "_is_integer") rfl),
    fd_isinteger,
    F_isinteger,
    b_isinteger,
    He.glo_ok X G (c.fact 25 (f := .glo "_are_all_halves") rfl),
    fd_areallhalves,
    F_areallhalves,
    b_areallhalves,
    He.glo_ok X G (c.fact 26 (f := .glo "_inverse") rfl),
    fd_inverse,
    F_inverse,
    b_inverse,
    He.glo_ok X G (c.fact 27 (f := .glo "_rounds") rfl),
    fd_rounds,
    F_rounds,
    b_rounds,
    He.glo_ok X G (c.fact 28 (f := .glo "_law_tape") rfl),
    fd_Ltape,
    F_Ltape,
    b_Ltape,
    He.glo_ok X G (c.fact 29 (f := .glo "_law_pick") rfl),
    fd_Lpick,
    F_Lpick,
    b_Lpick,
    He.glo_ok X G (c.fact 30 (f := .glo "_law_nexts") rfl),
    fd_Lnexts,
    F_Lnexts,
    b_Lnexts,
    He.glo_ok X G (c.fact 31 (f := .glo "_law_size") rfl),
    fd_Lsize,
    F_Lsize,
    b_Lsize,
    He.glo_ok X G (c.fact 32 (f := .glo "_law_twin") rfl),
    fd_Ltwin,
    F_Ltwin,
    b_Ltwin,
    He.glo_ok X G (c.fact 33 (f := .glo "_law_turned") rfl),
    fd_Lturned,
    F_Lturned,
    b_Lturned,
    He.glo_ok X G (c.fact 34 (f := .glo "_law_round") rfl),
    fd_Lround,
    F_Lround,
    b_Lround,
    He.glo_ok X G (c.fact 35 (f := .glo "_law_rounds") rfl),
    fd_Lrounds,
    F_Lrounds,
    b_Lrounds,
    He.glo_ok X G (c.fact 36 (f := .glo "_law_right") rfl),
    fd_Lright,
    F_Lright,
    b_Lright,
    He.glo_ok X G (c.fact 37 (f := .glo "_law_spoil") rfl),
    fd_Lspoil,
    F_Lspoil,
    b_Lspoil,
    fd_law,
    F_law,
    b_law⟩⟩
abbrev RR : PySem.W.OpenRow := PySem.W.OpenLaw.row PySem.Challenge.rw_halfmeshes_k11_links_and_rounds
abbrev hk : PySem.W.Hook := He.hookD 5 fa fn
def ob (s : PySem.W.SharedT) : He.AlD := He.obsDG 5 fa fn (HandSHeadRun.getT s)
theorem ob_hk (s : PySem.W.SharedT) : ob s = hk.obs s.abs := He.obsDG_eq (HandSHeadRun.getT_eq s)
def lse : List Str := ["_wall", "MeshError", "NotAMesh", "Mesh", "_is_integer", "_are_all_halves", "_inverse", "_rounds", "_law_tape", "_law_pick", "_law_nexts", "_law_size", "_law_twin", "_law_turned", "_law_round", "_law_rounds", "_law_right", "_law_spoil"]
theorem top_run (w : World) : HandSHeadRun.RunEq RR (PySem.W.view RR.prog [21]) hk ob 9000 lse w := by
  intro os
  kernel_rfl
theorem ok_isinteger {P : Program} {w : World} {K : PySem.W.Frag} {mg : Str → Option Value} {base : Heap} (T : Tx K mg) : FnOk P w K mg base CX0 1 (He.ga K "_is_integer") T.fd_isinteger pr_isinteger (sp_isinteger K) := by
  refine T.F_isinteger.ok sc_isinteger ln_isinteger (fun cdv A outer s H vs Q E hr h => ⟨t_isinteger K, PSs.nox ?_, rd_isinteger T.kf vs H Q E h⟩)
  exact (pss_one (ps_ret (pe_and (pe_callB call_isi (by rfl) T.n_isinstance (by decide +kernel) (pa_cons (pv 0) (pa_cons (pe_bltn (v := .ty "int") rfl T.n_int (by decide +kernel) rfl) pa_nil))) (pe_one (pe_not (pe_callB call_isi (by rfl) T.n_isinstance (by decide +kernel) (pa_cons (pv 0) (pa_cons (pe_bltn (v := .ty "bool") rfl T.n_bool (by decide +kernel) rfl) pa_nil))))))))
theorem ok_areallhalves {P : Program} {w : World} {K : PySem.W.Frag} {mg : Str → Option Value} {base : Heap} (T : Tx K mg) : FnOk P w K mg base CX0 2 (He.ga K "_are_all_halves") T.fd_areallhalves pr_areallhalves (sp_areallhalves K) := by
  have G_isinteger := ok_isinteger (P := P) (w := w) (base := base) T
  refine T.F_areallhalves.ok sc_areallhalves ln_areallhalves (fun cdv A outer s H vs Q E hr h => ⟨t_areallhalves K, PSs.nox ?_, rd_areallhalves T.kf vs H Q E h⟩)
  exact (pss_cons (ps_if (PW.pt (pw_or (pt_cmpR op_eq (pe_op op_modN (pe_callB call_len_seq (by rfl) T.n_len PySem.boot_len (pa_cons (pv 0) pa_nil)) pe_int) pe_int (nomark _)) (pw_or1 (pt_not (pt_val (pe_callB (cr_all rfl) (by rfl) T.n_all (by decide +kernel) (pa_cons (pe_lc (own := [("number", 1)]) (g := gName 1) (tt := tYes) rfl sc_areallhalves.nd (pi_list (pv 0)) (blkOk_by (own := [("number", 1)]) (N := nm_areallhalves) (sc := defScope s_areallhalves) (by decide +kernel)) (fun _ _ _ _ _ => pg_name (i := 1) sc_areallhalves.nd rfl (Or.inl rfl)) (fun _ _ _ _ _ => pts_nil) (fun _ _ _ _ _ => (pe_call G_isinteger (hr.mono (by decide)) rfl T.m_isinteger T.F_isinteger.kp T.b_isinteger .nil pass0 (pa_cons (pv 1) pa_nil)))) pa_nil))))))) (pss_one (ps_ret pe_bl)) pss_nil)
      (pss_one (ps_ret (pe_cmpR (op_eqD hr.units) (pe_callB cr_sortedI (by rfl) T.n_sorted (by decide +kernel) (pa_cons (pv 0) pa_nil)) (pe_listRg rfl (by rfl) T.n_list (prg_1 (by rfl) T.n_range (pe_callB call_len_seq (by rfl) T.n_len PySem.boot_len (pa_cons (pv 0) pa_nil)))) (nomark _)))))
theorem ok_inverse {P : Program} {w : World} {K : PySem.W.Frag} {mg : Str → Option Value} {base : Heap} (T : Tx K mg) : FnOk P w K mg base CX0 1 (He.ga K "_inverse") T.fd_inverse pr_inverse (sp_inverse K) := by
  refine T.F_inverse.ok sc_inverse ln_inverse (fun cdv A outer s H vs Q E hr h => ⟨t_inverse K, PSs.nox ?_, rd_inverse T.kf vs H Q E h⟩)
  exact (pss_cons (ps_set (i := 1) sc_inverse.nd rfl (Or.inl rfl) (pe_op op_rep (pe_lst (pa_cons pe_int pa_nil)) (pe_callB call_len_seq (by rfl) T.n_len PySem.boot_len (pa_cons (pv 0) pa_nil))))
      (pss_cons (ps_for PassesOwn.never rfl (pi_enum (by rfl) T.n_enumerate (pa_cons (pv 0) pa_nil)) (pg_tup (by rfl) (pgs_cons (pg_name (i := 2) sc_inverse.nd rfl (Or.inl rfl)) (pgs_cons (pg_name (i := 3) sc_inverse.nd rfl (Or.inl rfl)) pgs_nil))) (pss_one (ps_asg (pv 2) (pg_sub (pv 1) (pv 3) set_list))))
      (pss_one (ps_ret (pv 1)))))
theorem ok_Meshinit {P : Program} {w : World} {K : PySem.W.Frag} {mg : Str → Option Value} {base : Heap} (T : Tx K mg) : FnOk P w K mg base CX0 3 (He.ma K (He.ga K "Mesh") "__init__") T.fd_Meshinit pr_Meshinit (sp_Meshinit K) := by
  have G_areallhalves := ok_areallhalves (P := P) (w := w) (base := base) T
  have G_inverse := ok_inverse (P := P) (w := w) (base := base) T
  refine T.F_Meshinit.ok sc_Meshinit ln_Meshinit (fun cdv A outer s H vs Q E hr h => ⟨t_Meshinit K, PSs.nox ?_, rd_Meshinit T.kf vs H Q E h⟩)
  exact (pss_cons (ps_set (i := 2) sc_Meshinit.nd rfl (Or.inl rfl) (pe_callTy call_list_of (by rfl) T.n_list (by decide +kernel) (pa_cons (pv 1) pa_nil)))
      (pss_cons (ps_if (pt_not (pt_val (pe_call G_areallhalves (hr.mono (by decide)) rfl T.m_areallhalves T.F_areallhalves.kp T.b_areallhalves .nil pass0 (pa_cons (pv 2) pa_nil)))) (pss_one ps_never) pss_nil)
      (pss_cons (ps_fld (pv 0) (pv 2) rfl)
      (pss_cons (ps_fld (pv 0) (pe_call G_inverse (hr.mono (by decide)) rfl T.m_inverse T.F_inverse.kp T.b_inverse .nil pass0 (pa_cons (pv 2) pa_nil)) rfl)
      (pss_one (ps_fld (pv 0) (pe_lc (own := [("half", 3)]) (g := gName 3) (tt := tYes) rfl sc_Meshinit.nd (pi_list (pe_fld (pv 0) rfl)) (blkOk_by (own := [("half", 3)]) (N := nm_Meshinit) (sc := defScope s_Meshinit) (by decide +kernel)) (fun _ _ _ _ _ => pg_name (i := 3) sc_Meshinit.nd rfl (Or.inl rfl)) (fun _ _ _ _ _ => pts_nil) (fun _ _ _ _ _ => (pe_op op_xor (pv 3) pe_int))) rfl))))))
theorem ok_Meshafter {P : Program} {w : World} {K : PySem.W.Frag} {mg : Str → Option Value} {base : Heap} (T : Tx K mg) : FnOk P w K mg base CX0 1 (He.ma K (He.ga K "Mesh") "after") T.fd_Meshafter pr_Meshafter (sp_Meshafter K) := by
  refine T.F_Meshafter.ok sc_Meshafter ln_Meshafter (fun cdv A outer s H vs Q E hr h => ⟨t_Meshafter K, PSs.nox ?_, rd_Meshafter T.kf vs H Q E h⟩)
  exact (pss_one (ps_ret (pe_ix ix_list (pe_fld (pv 0) rfl) (pv 1) (fun _ _ => rfl))))
theorem ok_Meshbefore {P : Program} {w : World} {K : PySem.W.Frag} {mg : Str → Option Value} {base : Heap} (T : Tx K mg) : FnOk P w K mg base CX0 1 (He.ma K (He.ga K "Mesh") "before") T.fd_Meshbefore pr_Meshbefore (sp_Meshbefore K) := by
  refine T.F_Meshbefore.ok sc_Meshbefore ln_Meshbefore (fun cdv A outer s H vs Q E hr h => ⟨t_Meshbefore K, PSs.nox ?_, rd_Meshbefore T.kf vs H Q E h⟩)
  exact (pss_one (ps_ret (pe_ix ix_list (pe_fld (pv 0) rfl) (pv 1) (fun _ _ => rfl))))
theorem ok_Meshtwin {P : Program} {w : World} {K : PySem.W.Frag} {mg : Str → Option Value} {base : Heap} (T : Tx K mg) : FnOk P w K mg base CX0 1 (He.ma K (He.ga K "Mesh") "twin") T.fd_Meshtwin pr_Meshtwin (sp_Meshtwin K) := by
  refine T.F_Meshtwin.ok sc_Meshtwin ln_Meshtwin (fun cdv A outer s H vs Q E hr h => ⟨t_Meshtwin K, PSs.nox ?_, rd_Meshtwin T.kf vs H Q E h⟩)
  exact (pss_one (ps_ret (pe_op op_xor (pv 1) pe_int)))
theorem ok_Meshturned {P : Program} {w : World} {K : PySem.W.Frag} {mg : Str → Option Value} {base : Heap} (T : Tx K mg) : FnOk P w K mg base CX0 1 (He.ma K (He.ga K "Mesh") "turned") T.fd_Meshturned pr_Meshturned (sp_Meshturned K) := by
  refine T.F_Meshturned.ok sc_Meshturned ln_Meshturned (fun cdv A outer s H vs Q E hr h => ⟨t_Meshturned K, PSs.nox ?_, rd_Meshturned T.kf vs H Q E h⟩)
  exact (pss_one (ps_ret (pe_ix ix_list (pe_fld (pv 0) rfl) (pv 1) (fun _ _ => rfl))))
theorem ok_Meshnexts {P : Program} {w : World} {K : PySem.W.Frag} {mg : Str → Option Value} {base : Heap} (T : Tx K mg) : FnOk P w K mg base CX0 1 (He.ma K (He.ga K "Mesh") "nexts") T.fd_Meshnexts pr_Meshnexts (sp_Meshnexts K) := by
  refine T.F_Meshnexts.ok sc_Meshnexts ln_Meshnexts (fun cdv A outer s H vs Q E hr h => ⟨t_Meshnexts K, PSs.nox ?_, rd_Meshnexts T.kf vs H Q E h⟩)
  exact (pss_one (ps_ret (pe_callTy call_list_of (by rfl) T.n_list (by decide +kernel) (pa_cons (pe_fld (pv 0) rfl) pa_nil))))
theorem ok_rounds {P : Program} {w : World} {K : PySem.W.Frag} {mg : Str → Option Value} {base : Heap} (T : Tx K mg) : FnOk P w K mg base CX0 1 (He.ga K "_rounds") T.fd_rounds pr_rounds (sp_rounds K) := by
  refine T.F_rounds.ok sc_rounds ln_rounds (fun cdv A outer s H vs Q E hr h => ⟨t_rounds K, PSs.nox ?_, rd_rounds T.kf vs H Q E h⟩)
  exact (pss_cons (ps_set (i := 1) sc_rounds.nd rfl (Or.inl rfl) (pe_lst pa_nil))
      (pss_cons (ps_set (i := 2) sc_rounds.nd rfl (Or.inl rfl) (pe_op op_rep (pe_lst (pa_cons pe_bl pa_nil)) (pe_callB call_len_seq (by rfl) T.n_len PySem.boot_len (pa_cons (pv 0) pa_nil))))
      (pss_cons (ps_for PassesOwn.never rfl (pi_range1 (by rfl) T.n_range (pa_cons (pe_callB call_len_seq (by rfl) T.n_len PySem.boot_len (pa_cons (pv 0) pa_nil)) pa_nil)) (pg_name (i := 3) sc_rounds.nd rfl (Or.inl rfl)) (pss_one (ps_if (pt_not (pt_val (pe_ix ix_list (pv 2) (pv 3) (fun _ _ => rfl)))) (pss_cons (ps_set (i := 4) sc_rounds.nd rfl (Or.inl rfl) (pe_lst pa_nil))
      (pss_cons (ps_set (i := 5) sc_rounds.nd rfl (Or.inl rfl) (pv 3))
      (pss_cons (ps_while PassesOwn.never (pt_not (pt_val (pe_ix ix_list (pv 2) (pv 5) (fun _ _ => rfl)))) (pss_cons (ps_asg pe_bl (pg_sub (pv 2) (pv 5) set_list))
      (pss_cons (ps_expr (pe_bm PySem.F.plainAttrs_list PySem.F.slot_list_append PySem.F.type_list_append mt_append (pv 4) (pa_cons (pv 5) pa_nil)))
      (pss_one (ps_set (i := 5) sc_rounds.nd rfl (Or.inl rfl) (pe_ix ix_list (pv 0) (pv 5) (fun _ _ => rfl)))))))
      (pss_one (ps_expr (pe_bm PySem.F.plainAttrs_list PySem.F.slot_list_append PySem.F.type_list_append mt_append (pv 1) (pa_cons (pv 4) pa_nil))))))) pss_nil)))
      (pss_one (ps_ret (pv 1))))))
theorem ok_Meshfaces {P : Program} {w : World} {K : PySem.W.Frag} {mg : Str → Option Value} {base : Heap} (T : Tx K mg) : FnOk P w K mg base CX0 2 (He.ma K (He.ga K "Mesh") "faces") T.fd_Meshfaces pr_Meshfaces (sp_Meshfaces K) := by
  have G_rounds := ok_rounds (P := P) (w := w) (base := base) T
  refine T.F_Meshfaces.ok sc_Meshfaces ln_Meshfaces (fun cdv A outer s H vs Q E hr h => ⟨t_Meshfaces K, PSs.nox ?_, rd_Meshfaces T.kf vs H Q E h⟩)
  exact (pss_one (ps_ret (pe_call G_rounds (hr.mono (by decide)) rfl T.m_rounds T.F_rounds.kp T.b_rounds .nil pass0 (pa_cons (pe_fld (pv 0) rfl) pa_nil))))
theorem ok_Meshcorners {P : Program} {w : World} {K : PySem.W.Frag} {mg : Str → Option Value} {base : Heap} (T : Tx K mg) : FnOk P w K mg base CX0 2 (He.ma K (He.ga K "Mesh") "corners") T.fd_Meshcorners pr_Meshcorners (sp_Meshcorners K) := by
  have G_rounds := ok_rounds (P := P) (w := w) (base := base) T
  refine T.F_Meshcorners.ok sc_Meshcorners ln_Meshcorners (fun cdv A outer s H vs Q E hr h => ⟨t_Meshcorners K, PSs.nox ?_, rd_Meshcorners T.kf vs H Q E h⟩)
  exact (pss_one (ps_ret (pe_call G_rounds (hr.mono (by decide)) rfl T.m_rounds T.F_rounds.kp T.b_rounds .nil pass0 (pa_cons (pe_fld (pv 0) rfl) pa_nil))))
theorem ok_Ltape {P : Program} {w : World} {K : PySem.W.Frag} {mg : Str → Option Value} {base : Heap} (T : Tx K mg) : FnOk P w K mg base CX0 1 (He.ga K "_law_tape") T.fd_Ltape pr_Ltape (sp_Ltape K) := by
  refine T.F_Ltape.ok sc_Ltape ln_Ltape (fun cdv A outer s H vs Q E hr h => ⟨t_Ltape K, PSs.nox ?_, rd_Ltape T.kf vs H Q E h⟩)
  exact (pss_cons (ps_set (i := 2) sc_Ltape.nd rfl (Or.inl rfl) pe_int)
      (pss_cons (ps_if (pt_cmpR (op_neD hr.units) (pv 0) (pe_lst pa_nil) (nomark _)) (pss_one (ps_set (i := 2) sc_Ltape.nd rfl (Or.inl rfl) (pe_ix ix_list (pv 0) (pe_op op_modN (pe_callTy call_int1 (by rfl) T.n_int (by decide +kernel) (pa_cons (pv 1) pa_nil)) (pe_callB call_len_seq (by rfl) T.n_len PySem.boot_len (pa_cons (pv 0) pa_nil))) (fun _ _ => rfl)))) pss_nil)
      (pss_one (ps_ret (pe_lst (pa_cons (pe_callB call_abs (by rfl) T.n_abs (by decide +kernel) (pa_cons (pv 2) pa_nil)) (pa_cons (pe_op op_add (pe_op op_mul pe_int (pv 1)) pe_int) pa_nil)))))))
theorem ok_Lpick {P : Program} {w : World} {K : PySem.W.Frag} {mg : Str → Option Value} {base : Heap} (T : Tx K mg) : FnOk P w K mg base CX0 1 (He.ga K "_law_pick") T.fd_Lpick pr_Lpick (sp_Lpick K) := by
  refine T.F_Lpick.ok sc_Lpick ln_Lpick (fun cdv A outer s H vs Q E hr h => ⟨t_Lpick K, PSs.nox ?_, rd_Lpick T.kf vs H Q E h⟩)
  exact (pss_cons (ps_if (pt_cmpR op_ge (pe_ix ix_list (pv 0) pe_int (fun _ _ => rfl)) (pe_op op_pow pe_int pe_int) (nomark _)) (pss_cons (ps_set (i := 2) sc_Lpick.nd rfl (Or.inl rfl) (pe_op op_modN (pe_callTy call_int1 (by rfl) T.n_int (by decide +kernel) (pa_cons (pe_ix ix_list (pv 0) pe_int (fun _ _ => rfl)) pa_nil)) (pv 1)))
      (pss_cons (ps_asg (pe_op op_fdivN (pe_ix ix_list (pv 0) pe_int (fun _ _ => rfl)) (pv 1)) (pg_sub (pv 0) pe_int set_list))
      (pss_one (ps_ret (pv 2))))) pss_nil)
      (pss_cons (ps_asg (pe_op op_modN (pe_callTy call_int1 (by rfl) T.n_int (by decide +kernel) (pa_cons (pe_op op_add (pe_op op_add (pe_op op_mul (pe_ix ix_list (pv 0) pe_int (fun _ _ => rfl)) pe_int) (pe_op op_mul (pe_ix ix_list (pv 0) pe_int (fun _ _ => rfl)) pe_int)) pe_int) pa_nil)) pe_int) (pg_sub (pv 0) pe_int set_list))
      (pss_cons (ps_set (i := 3) sc_Lpick.nd rfl (Or.inl rfl) (pe_op op_modN (pe_callTy call_int1 (by rfl) T.n_int (by decide +kernel) (pa_cons (pe_op op_add (pe_op op_add (pe_op op_mul (pe_ix ix_list (pv 0) pe_int (fun _ _ => rfl)) (pe_ix ix_list (pv 0) pe_int (fun _ _ => rfl))) (pe_op op_mul (pe_ix ix_list (pv 0) pe_int (fun _ _ => rfl)) pe_int)) pe_int) pa_nil)) pe_int))
      (pss_one (ps_ret (pe_op op_modN (pe_callTy call_int1 (by rfl) T.n_int (by decide +kernel) (pa_cons (pe_op op_fdivN (pv 3) pe_int) pa_nil)) (pv 1)))))))
theorem ok_Lnexts {P : Program} {w : World} {K : PySem.W.Frag} {mg : Str → Option Value} {base : Heap} (T : Tx K mg) : FnOk P w K mg base CX0 2 (He.ga K "_law_nexts") T.fd_Lnexts pr_Lnexts (sp_Lnexts K) := by
  have G_Lpick := ok_Lpick (P := P) (w := w) (base := base) T
  refine T.F_Lnexts.ok sc_Lnexts ln_Lnexts (fun cdv A outer s H vs Q E hr h => ⟨t_Lnexts K, PSs.nox ?_, rd_Lnexts T.kf vs H Q E h⟩)
  exact (pss_cons (ps_setLc (i := 3) (own := [("_law_k", 2)]) (g := gName 2) (tt := tYes) rfl sc_Lnexts.nd rfl rfl (sw_true rfl rfl rfl (by decide +kernel)) (pi_range1 (by rfl) T.n_range (pa_cons (pe_op op_mul pe_int (pv 1)) pa_nil)) (blkOk_by (own := [("_law_k", 2)]) (N := nm_Lnexts) (sc := defScope s_Lnexts) (by decide +kernel)) (fun _ _ _ _ _ => pg_name (i := 2) sc_Lnexts.nd rfl (Or.inl rfl)) (fun _ _ _ _ _ => pts_nil) (fun _ _ _ _ _ => (pv 2)))
      (pss_cons (ps_set (i := 4) sc_Lnexts.nd rfl (Or.inl rfl) (pe_lst pa_nil))
      (pss_cons (ps_for PassesOwn.never rfl (pi_range1 (by rfl) T.n_range (pa_cons (pe_op op_mul pe_int (pv 1)) pa_nil)) (pg_name (i := 2) sc_Lnexts.nd rfl (Or.inl rfl)) (pss_cons (ps_set (i := 5) sc_Lnexts.nd rfl (Or.inl rfl) (pe_call G_Lpick (hr.mono (by decide)) rfl T.m_Lpick T.F_Lpick.kp T.b_Lpick .nil pass0 (pa_cons (pv 0) (pa_cons (pe_callB call_len_seq (by rfl) T.n_len PySem.boot_len (pa_cons (pv 3) pa_nil)) pa_nil))))
      (pss_cons (ps_expr (pe_bm PySem.F.plainAttrs_list PySem.F.slot_list_append PySem.F.type_list_append mt_append (pv 4) (pa_cons (pe_ix ix_list (pv 3) (pv 5) (fun _ _ => rfl)) pa_nil)))
      (pss_one (ps_set (i := 3) sc_Lnexts.nd rfl (Or.inl rfl) (pe_op op_cat (pe_slice sl_list (pv 3) po_none (po_some (pv 5))) (pe_slice sl_list (pv 3) (po_some (pe_op op_add (pv 5) pe_int)) po_none)))))))
      (pss_one (ps_ret (pv 4))))))
theorem ok_Lsize {P : Program} {w : World} {K : PySem.W.Frag} {mg : Str → Option Value} {base : Heap} (T : Tx K mg) : FnOk P w K mg base CX0 2 (He.ga K "_law_size") T.fd_Lsize pr_Lsize (sp_Lsize K) := by
  have G_Lpick := ok_Lpick (P := P) (w := w) (base := base) T
  refine T.F_Lsize.ok sc_Lsize ln_Lsize (fun cdv A outer s H vs Q E hr h => ⟨t_Lsize K, PSs.nox ?_, rd_Lsize T.kf vs H Q E h⟩)
  exact (pss_cons (ps_set (i := 1) sc_Lsize.nd rfl (Or.inl rfl) (pe_call G_Lpick (hr.mono (by decide)) rfl T.m_Lpick T.F_Lpick.kp T.b_Lpick .nil pass0 (pa_cons (pv 0) (pa_cons pe_int pa_nil))))
      (pss_cons (ps_if (pt_cmpR op_eq (pv 1) pe_int (nomark _)) (pss_one (ps_ret pe_int)) pss_nil)
      (pss_cons (ps_if (pt_cmpR op_lt (pv 1) pe_int (nomark _)) (pss_one (ps_ret (pe_call G_Lpick (hr.mono (by decide)) rfl T.m_Lpick T.F_Lpick.kp T.b_Lpick .nil pass0 (pa_cons (pv 0) (pa_cons pe_int pa_nil))))) pss_nil)
      (pss_one (ps_ret (pe_call G_Lpick (hr.mono (by decide)) rfl T.m_Lpick T.F_Lpick.kp T.b_Lpick .nil pass0 (pa_cons (pv 0) (pa_cons pe_int pa_nil))))))))
theorem ok_Ltwin {P : Program} {w : World} {K : PySem.W.Frag} {mg : Str → Option Value} {base : Heap} (T : Tx K mg) : FnOk P w K mg base CX0 1 (He.ga K "_law_twin") T.fd_Ltwin pr_Ltwin (sp_Ltwin K) := by
  refine T.F_Ltwin.ok sc_Ltwin ln_Ltwin (fun cdv A outer s H vs Q E hr h => ⟨t_Ltwin K, PSs.nox ?_, rd_Ltwin T.kf vs H Q E h⟩)
  exact (pss_one (ps_ret (pe_op op_sub (pe_op op_add (pv 0) pe_int) (pe_op op_mul pe_int (pe_op op_modN (pe_callTy call_int1 (by rfl) T.n_int (by decide +kernel) (pa_cons (pv 0) pa_nil)) pe_int)))))
theorem ok_Lturned {P : Program} {w : World} {K : PySem.W.Frag} {mg : Str → Option Value} {base : Heap} (T : Tx K mg) : FnOk P w K mg base CX0 2 (He.ga K "_law_turned") T.fd_Lturned pr_Lturned (sp_Lturned K) := by
  have G_Ltwin := ok_Ltwin (P := P) (w := w) (base := base) T
  refine T.F_Lturned.ok sc_Lturned ln_Lturned (fun cdv A outer s H vs Q E hr h => ⟨t_Lturned K, PSs.nox ?_, rd_Lturned T.kf vs H Q E h⟩)
  exact (pss_cons (ps_for PassesOwn.never rfl (pi_range1 (by rfl) T.n_range (pa_cons (pe_callB call_len_seq (by rfl) T.n_len PySem.boot_len (pa_cons (pv 0) pa_nil)) pa_nil)) (pg_name (i := 2) sc_Lturned.nd rfl (Or.inl rfl)) (pss_one (ps_if (pt_cmpR op_eq (pe_ix ix_list (pv 0) (pv 2) (fun _ _ => rfl)) (pv 1) (nomark _)) (pss_one (ps_ret (pe_call G_Ltwin (hr.mono (by decide)) rfl T.m_Ltwin T.F_Ltwin.kp T.b_Ltwin .nil pass0 (pa_cons (pv 2) pa_nil)))) pss_nil)))
      (pss_one (ps_ret (pe_un un_neg pe_int))))
theorem ok_Lround {P : Program} {w : World} {K : PySem.W.Frag} {mg : Str → Option Value} {base : Heap} (T : Tx K mg) : FnOk P w K mg base CX0 3 (He.ga K "_law_round") T.fd_Lround pr_Lround (sp_Lround K) := by
  have G_Lturned := ok_Lturned (P := P) (w := w) (base := base) T
  refine T.F_Lround.ok sc_Lround ln_Lround (fun cdv A outer s H vs Q E hr h => ⟨t_Lround K, PSs.nox ?_, rd_Lround T.kf vs H Q E h⟩)
  exact (pss_cons (ps_set (i := 3) sc_Lround.nd rfl (Or.inl rfl) (pe_lst (pa_cons (pv 1) pa_nil)))
      (pss_cons (ps_set (i := 4) sc_Lround.nd rfl (Or.inl rfl) (pe_ifExp (pt_val (pv 2)) (pe_ix ix_list (pv 0) (pv 1) (fun _ _ => rfl)) (pe_call G_Lturned (hr.mono (by decide)) rfl T.m_Lturned T.F_Lturned.kp T.b_Lturned .nil pass0 (pa_cons (pv 0) (pa_cons (pv 1) pa_nil)))))
      (pss_cons (ps_while PassesOwn.never (PW.pt (pw_and (pt_cmpR op_ne (pv 4) (pv 1) (nomark _)) (pw_and1 (pt_cmpR op_le (pe_callB call_len_seq (by rfl) T.n_len PySem.boot_len (pa_cons (pv 3) pa_nil)) (pe_callB call_len_seq (by rfl) T.n_len PySem.boot_len (pa_cons (pv 0) pa_nil)) (nomark _))))) (pss_cons (ps_expr (pe_bm PySem.F.plainAttrs_list PySem.F.slot_list_append PySem.F.type_list_append mt_append (pv 3) (pa_cons (pv 4) pa_nil)))
      (pss_one (ps_set (i := 4) sc_Lround.nd rfl (Or.inl rfl) (pe_ifExp (pt_val (pv 2)) (pe_ix ix_list (pv 0) (pv 4) (fun _ _ => rfl)) (pe_call G_Lturned (hr.mono (by decide)) rfl T.m_Lturned T.F_Lturned.kp T.b_Lturned .nil pass0 (pa_cons (pv 0) (pa_cons (pv 4) pa_nil))))))))
      (pss_one (ps_ret (pv 3))))))
theorem ok_Lrounds {P : Program} {w : World} {K : PySem.W.Frag} {mg : Str → Option Value} {base : Heap} (T : Tx K mg) : FnOk P w K mg base CX0 4 (He.ga K "_law_rounds") T.fd_Lrounds pr_Lrounds (sp_Lrounds K) := by
  have G_Lround := ok_Lround (P := P) (w := w) (base := base) T
  refine T.F_Lrounds.ok sc_Lrounds ln_Lrounds (fun cdv A outer s H vs Q E hr h => ⟨t_Lrounds K, PSs.nox ?_, rd_Lrounds T.kf vs H Q E h⟩)
  exact (pss_cons (ps_set (i := 2) sc_Lrounds.nd rfl (Or.inl rfl) (pe_lst pa_nil))
      (pss_cons (ps_for PassesOwn.never rfl (pi_range1 (by rfl) T.n_range (pa_cons (pe_callB call_len_seq (by rfl) T.n_len PySem.boot_len (pa_cons (pv 0) pa_nil)) pa_nil)) (pg_name (i := 3) sc_Lrounds.nd rfl (Or.inl rfl)) (pss_cons (ps_set (i := 4) sc_Lrounds.nd rfl (Or.inl rfl) (pe_call G_Lround (hr.mono (by decide)) rfl T.m_Lround T.F_Lround.kp T.b_Lround .nil pass0 (pa_cons (pv 0) (pa_cons (pv 3) (pa_cons (pv 1) pa_nil)))))
      (pss_one (ps_if (pt_cmpR op_eq (pe_callB (cr_min rfl) (by rfl) T.n_min (by decide +kernel) (pa_cons (pv 4) pa_nil)) (pv 3) (nomark _)) (pss_one (ps_expr (pe_bm PySem.F.plainAttrs_list PySem.F.slot_list_append PySem.F.type_list_append mt_append (pv 2) (pa_cons (pv 4) pa_nil)))) pss_nil))))
      (pss_one (ps_ret (pv 2)))))
theorem ok_Lright {P : Program} {w : World} {K : PySem.W.Frag} {mg : Str → Option Value} {base : Heap} (T : Tx K mg) : FnOk P w K mg base CX0 5 (He.ga K "_law_right") T.fd_Lright pr_Lright (sp_Lright K) := by
  have G_Meshafter := ok_Meshafter (P := P) (w := w) (base := base) T
  have G_Meshbefore := ok_Meshbefore (P := P) (w := w) (base := base) T
  have G_Meshcorners := ok_Meshcorners (P := P) (w := w) (base := base) T
  have G_Meshfaces := ok_Meshfaces (P := P) (w := w) (base := base) T
  have G_Meshnexts := ok_Meshnexts (P := P) (w := w) (base := base) T
  have G_Meshturned := ok_Meshturned (P := P) (w := w) (base := base) T
  have G_Meshtwin := ok_Meshtwin (P := P) (w := w) (base := base) T
  have G_Lrounds := ok_Lrounds (P := P) (w := w) (base := base) T
  have G_Lturned := ok_Lturned (P := P) (w := w) (base := base) T
  have G_Ltwin := ok_Ltwin (P := P) (w := w) (base := base) T
  refine T.F_Lright.ok sc_Lright ln_Lright (fun cdv A outer s H vs Q E hr h => ⟨t_Lright K, PSs.nox ?_, rd_Lright T.kf vs H Q E h⟩)
  exact (pss_cons (ps_if (pt_cmpR (op_neD hr.units) (pe_meth0 (pv 0) T.cl_Mesh T.me_Meshnexts G_Meshnexts (hr.mono (by decide)) T.b_Meshnexts .nil pass0) (pv 1) (nomark _)) (pss_one (ps_ret pe_bl)) pss_nil)
      (pss_cons (ps_for PassesOwn.never rfl (pi_range1 (by rfl) T.n_range (pa_cons (pe_callB call_len_seq (by rfl) T.n_len PySem.boot_len (pa_cons (pv 1) pa_nil)) pa_nil)) (pg_name (i := 2) sc_Lright.nd rfl (Or.inl rfl)) (pss_cons (ps_if (PW.pt (pw_or (pt_cmpR op_ne (pe_meth (pv 0) T.cl_Mesh T.me_Meshafter G_Meshafter (hr.mono (by decide)) T.b_Meshafter .nil pass0 (pa_cons (pv 2) pa_nil)) (pe_ix ix_list (pv 1) (pv 2) (fun _ _ => rfl)) (nomark _)) (pw_or1 (pt_cmpR op_ne (pe_meth (pv 0) T.cl_Mesh T.me_Meshbefore G_Meshbefore (hr.mono (by decide)) T.b_Meshbefore .nil pass0 (pa_cons (pe_ix ix_list (pv 1) (pv 2) (fun _ _ => rfl)) pa_nil)) (pv 2) (nomark _))))) (pss_one (ps_ret pe_bl)) pss_nil)
      (pss_one (ps_if (PW.pt (pw_or (pt_cmpR op_ne (pe_meth (pv 0) T.cl_Mesh T.me_Meshtwin G_Meshtwin (hr.mono (by decide)) T.b_Meshtwin .nil pass0 (pa_cons (pv 2) pa_nil)) (pe_call G_Ltwin (hr.mono (by decide)) rfl T.m_Ltwin T.F_Ltwin.kp T.b_Ltwin .nil pass0 (pa_cons (pv 2) pa_nil)) (nomark _)) (pw_or1 (pt_cmpR op_ne (pe_meth (pv 0) T.cl_Mesh T.me_Meshturned G_Meshturned (hr.mono (by decide)) T.b_Meshturned .nil pass0 (pa_cons (pv 2) pa_nil)) (pe_call G_Lturned (hr.mono (by decide)) rfl T.m_Lturned T.F_Lturned.kp T.b_Lturned .nil pass0 (pa_cons (pv 1) (pa_cons (pv 2) pa_nil))) (nomark _))))) (pss_one (ps_ret pe_bl)) pss_nil))))
      (pss_cons (ps_set (i := 3) sc_Lright.nd rfl (Or.inl rfl) (pe_meth0 (pv 0) T.cl_Mesh T.me_Meshfaces G_Meshfaces (hr.mono (by decide)) T.b_Meshfaces .nil pass0))
      (pss_cons (ps_set (i := 4) sc_Lright.nd rfl (Or.inl rfl) (pe_meth0 (pv 0) T.cl_Mesh T.me_Meshcorners G_Meshcorners (hr.mono (by decide)) T.b_Meshcorners .nil pass0))
      (pss_cons (ps_if (PW.pt (pw_or (pt_not (pt_val (pe_callB call_isi (by rfl) T.n_isinstance (by decide +kernel) (pa_cons (pv 3) (pa_cons (pe_bltn (v := .ty "list") rfl T.n_list (by decide +kernel) rfl) pa_nil))))) (pw_or1 (pt_cmpR (op_neD hr.units) (pv 3) (pe_call G_Lrounds (hr.mono (by decide)) rfl T.m_Lrounds T.F_Lrounds.kp T.b_Lrounds .nil pass0 (pa_cons (pv 1) (pa_cons pe_bl pa_nil))) (nomark _))))) (pss_one (ps_ret pe_bl)) pss_nil)
      (pss_one (ps_ret (pe_and (pe_callB call_isi (by rfl) T.n_isinstance (by decide +kernel) (pa_cons (pv 4) (pa_cons (pe_bltn (v := .ty "list") rfl T.n_list (by decide +kernel) rfl) pa_nil))) (pe_one (pe_cmpR (op_eqD hr.units) (pv 4) (pe_call G_Lrounds (hr.mono (by decide)) rfl T.m_Lrounds T.F_Lrounds.kp T.b_Lrounds .nil pass0 (pa_cons (pv 1) (pa_cons pe_bl pa_nil))) (nomark _)))))))))))
theorem ok_Lspoil {P : Program} {w : World} {K : PySem.W.Frag} {mg : Str → Option Value} {base : Heap} (T : Tx K mg) : FnOk P w K mg base CX0 3 (He.ga K "_law_spoil") T.fd_Lspoil pr_Lspoil (sp_Lspoil K) := by
  have G_Meshcorners := ok_Meshcorners (P := P) (w := w) (base := base) T
  have G_Meshfaces := ok_Meshfaces (P := P) (w := w) (base := base) T
  have G_Meshnexts := ok_Meshnexts (P := P) (w := w) (base := base) T
  refine T.F_Lspoil.ok sc_Lspoil ln_Lspoil (fun cdv A outer s H vs Q E hr h => ⟨t_Lspoil K, PSs.nox ?_, rd_Lspoil T.kf vs H Q E h⟩)
  exact (pss_cons (ps_for PassesOwn.never rfl (pi_list (pe_lst (pa_cons (pe_meth0 (pv 0) T.cl_Mesh T.me_Meshfaces G_Meshfaces (hr.mono (by decide)) T.b_Meshfaces .nil pass0) (pa_cons (pe_meth0 (pv 0) T.cl_Mesh T.me_Meshcorners G_Meshcorners (hr.mono (by decide)) T.b_Meshcorners .nil pass0) pa_nil)))) (pg_name (i := 1) sc_Lspoil.nd rfl (Or.inl rfl)) (pss_cons (ps_for PassesOwn.never rfl (pi_list (pv 1)) (pg_name (i := 2) sc_Lspoil.nd rfl (Or.inl rfl)) (pss_one (ps_expr (pe_bm PySem.F.plainAttrs_list PySem.F.slot_list_append PySem.F.type_list_append mt_append (pv 2) (pa_cons pe_int pa_nil)))))
      (pss_one (ps_expr (pe_bm PySem.F.plainAttrs_list PySem.F.slot_list_append PySem.F.type_list_append mt_append (pv 1) (pa_cons (pe_lst (pa_cons pe_int pa_nil)) pa_nil))))))
      (pss_one (ps_expr (pe_bm PySem.F.plainAttrs_list PySem.F.slot_list_append PySem.F.type_list_append mt_append (pe_meth0 (pv 0) T.cl_Mesh T.me_Meshnexts G_Meshnexts (hr.mono (by decide)) T.b_Meshnexts .nil pass0) (pa_cons pe_int pa_nil)))))
theorem ok_law {P : Program} {w : World} {K : PySem.W.Frag} {mg : Str → Option Value} {base : Heap} (T : Tx K mg) : FnOk P w K mg base CX0 6 (He.ga K "law") T.fd_law pr_law (sp_law K) := by
  have G_Meshinit := ok_Meshinit (P := P) (w := w) (base := base) T
  have G_Lnexts := ok_Lnexts (P := P) (w := w) (base := base) T
  have G_Lright := ok_Lright (P := P) (w := w) (base := base) T
  have G_Lsize := ok_Lsize (P := P) (w := w) (base := base) T
  have G_Lspoil := ok_Lspoil (P := P) (w := w) (base := base) T
  have G_Ltape := ok_Ltape (P := P) (w := w) (base := base) T
  refine T.F_law.ok sc_law ln_law (fun cdv A outer s H vs Q E hr h => ⟨t_law K, PSs.nox ?_, rd_law T.kf vs H Q E h⟩)
  exact (pss_cons (ps_set (i := 1) sc_law.nd rfl (Or.inl rfl) (pe_call G_Ltape (hr.mono (by decide)) rfl T.m_Ltape T.F_Ltape.kp T.b_Ltape .nil pass0 (pa_cons (pv 0) (pa_cons pe_int pa_nil))))
      (pss_cons (ps_set (i := 2) sc_law.nd rfl (Or.inl rfl) (pe_call G_Lsize (hr.mono (by decide)) rfl T.m_Lsize T.F_Lsize.kp T.b_Lsize .nil pass0 (pa_cons (pv 1) pa_nil)))
      (pss_cons (ps_set (i := 3) sc_law.nd rfl (Or.inl rfl) (pe_call G_Lnexts (hr.mono (by decide)) rfl T.m_Lnexts T.F_Lnexts.kp T.b_Lnexts .nil pass0 (pa_cons (pe_call G_Ltape (hr.mono (by decide)) rfl T.m_Ltape T.F_Ltape.kp T.b_Ltape .nil pass0 (pa_cons (pv 0) (pa_cons pe_int pa_nil))) (pa_cons (pv 2) pa_nil))))
      (pss_cons (ps_set (i := 4) sc_law.nd rfl (Or.inl rfl) (pe_call G_Lnexts (hr.mono (by decide)) rfl T.m_Lnexts T.F_Lnexts.kp T.b_Lnexts .nil pass0 (pa_cons (pe_call G_Ltape (hr.mono (by decide)) rfl T.m_Ltape T.F_Ltape.kp T.b_Ltape .nil pass0 (pa_cons (pv 0) (pa_cons pe_int pa_nil))) (pa_cons (pv 2) pa_nil))))
      (pss_cons (ps_setLc (i := 5) (own := [("_law_half", 8)]) (g := gName 8) (tt := tYes) rfl sc_law.nd rfl rfl (sw_true rfl rfl rfl (by decide +kernel)) (pi_list (pv 3)) (blkOk_by (own := [("_law_half", 8)]) (N := nm_law) (sc := defScope s_law) (by decide +kernel)) (fun _ _ _ _ _ => pg_name (i := 8) sc_law.nd rfl (Or.inl rfl)) (fun _ _ _ _ _ => pts_nil) (fun _ _ _ _ _ => (pv 8)))
      (pss_cons (ps_set (i := 6) sc_law.nd rfl (Or.inl rfl) (pe_make T.mk_Mesh G_Meshinit (hr.mono (by decide)) rfl T.m_Mesh T.b_Meshinit .nil pass0 (pa_cons (pv 5) pa_nil)))
      (pss_cons (ps_set (i := 7) sc_law.nd rfl (Or.inl rfl) (pe_make T.mk_Mesh G_Meshinit (hr.mono (by decide)) rfl T.m_Mesh T.b_Meshinit .nil pass0 (pa_cons (pv 4) pa_nil)))
      (pss_cons (ps_if (PW.pt (pw_or (pt_not (pt_val (pe_call G_Lright (hr.mono (by decide)) rfl T.m_Lright T.F_Lright.kp T.b_Lright .nil pass0 (pa_cons (pv 6) (pa_cons (pv 3) pa_nil))))) (pw_or1 (pt_not (pt_val (pe_call G_Lright (hr.mono (by decide)) rfl T.m_Lright T.F_Lright.kp T.b_Lright .nil pass0 (pa_cons (pv 7) (pa_cons (pv 4) pa_nil)))))))) (pss_one (ps_ret pe_bl)) pss_nil)
      (pss_cons (ps_expr (pe_bm PySem.F.plainAttrs_list PySem.F.slot_list_append PySem.F.type_list_append mt_append (pv 5) (pa_cons pe_int pa_nil)))
      (pss_cons (ps_if (pt_cmpR op_gt (pv 2) pe_int (nomark _)) (pss_one (ps_asg pe_int (pg_sub (pv 5) pe_int set_list))) pss_nil)
      (pss_cons (ps_expr (pe_call G_Lspoil (hr.mono (by decide)) rfl T.m_Lspoil T.F_Lspoil.kp T.b_Lspoil .nil pass0 (pa_cons (pv 6) pa_nil)))
      (pss_one (ps_ret (pe_and (pe_call G_Lright (hr.mono (by decide)) rfl T.m_Lright T.F_Lright.kp T.b_Lright .nil pass0 (pa_cons (pv 6) (pa_cons (pv 3) pa_nil))) (pe_one (pe_call G_Lright (hr.mono (by decide)) rfl T.m_Lright T.F_Lright.kp T.b_Lright .nil pass0 (pa_cons (pv 7) (pa_cons (pv 4) pa_nil))))))))))))))))))
theorem law_ok {P : Program} {w : World} {K : PySem.W.Frag} {h : Heap} {mg : Str → Option Value} {f : Addr} (X : K.In h) (G : h.Ns mainGlobals mg) (hf : mg ("law" : Str) = some (.ref f)) (c : He.SaysD fa fn K) :
    ∃ fd : FuncData, (∀ (s : Shared) (v : Value), BindsTo s fd ⟨[v], []⟩ [("_law_script", v)]) ∧ ∀ base : Heap, K.In base → base.Ns mainGlobals mg → FnOk P w K mg base CX0 6 f fd ["_law_script"] (sp_law K) := by
  obtain ⟨T⟩ := tx_of X G c
  have e : f = He.ga K "law" := by
    have q := hf.symm.trans (He.glo_ok X G (c.fact 38 (f := .glo "law") rfl))
    cases q
    rfl
  subst e
  have b := FunD.bindsA (ps := ["_law_script"]) T.F_law fun _ _ _ _ _ _ us hl => match us, hl with | [_], _ => rfl
  exact ⟨T.fd_law, fun s v => b s [v] rfl, fun base _ _ => ok_law T⟩
end K11
open PySem PySem.W PySem.Calls PyProof.Rows
set_option maxRecDepth 100000 in
set_option maxHeartbeats 0 in
theorem PySem.Challenge.cw_halfmeshes_k11_links_and_rounds_holds : PySem.Challenge.rw_halfmeshes_k11_links_and_rounds.Holds := by
  w_on; o_law
  refine HandSHeadRun.head_any (r := OpenLaw.row PySem.Challenge.rw_halfmeshes_k11_links_and_rounds) (q := view (OpenLaw.row PySem.Challenge.rw_halfmeshes_k11_links_and_rounds).prog [21]) (H := K11.hk) (ob := K11.ob) (M := 9000) (loose := K11.lse) (d := HandSHeadRun.topDef (OpenLaw.row PySem.Challenge.rw_halfmeshes_k11_links_and_rounds).prog 21) (kwd := []) K11.ob_hk
    (by kernel_rfl) (fun s => by kernel_rfl) K11.top_run (by kernel_rfl) (by kernel_rfl) (by kernel_rfl) (by rfl) (by first | assumption | decide +kernel) (by decide +kernel) ⟨rfl, rfl, rfl, rfl, rfl, by decide +kernel⟩ ?witness ?theCall
  case witness => w_witness2
  case theCall =>
    refine L2.walk_ofE (l := PySem.Challenge.rw_halfmeshes_k11_links_and_rounds) (n := 63) (k := 6) (x := "_law_script") (CX := L2.CX0) rfl (by decide) (by kernel_rfl) ⟨rfl, by decide, by decide⟩ ?promise (fun _ _ _ _ z => z)
    intro w mg ad hp says G named
    obtain ⟨K, inK, facts⟩ := says
    have named2 : mg ("law" : PySem.Str) = some (.ref ad) := by
      have e : (HandSHeadRun.topDef (OpenLaw.row PySem.Challenge.rw_halfmeshes_k11_links_and_rounds).prog 21).name = ("law" : PySem.Str) := by kernel_rfl
      exact e ▸ named
    obtain ⟨fd, binds, keeps⟩ := K11.law_ok (P := (PySem.Challenge.rw_halfmeshes_k11_links_and_rounds).prog) (w := w) inK G named2 facts
    exact ⟨K, fd, K11.sp_law K, inK, binds, fun H a zs hl _ hS => ⟨a, zs, rfl, hS, fun _ => rfl⟩, keeps⟩
#print axioms PySem.Challenge.cw_halfmeshes_k11_links_and_rounds_holds
